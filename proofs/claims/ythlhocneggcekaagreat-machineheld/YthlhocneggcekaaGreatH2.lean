/-
  Laid together: MHeldWalk.
-/
import Derived.Test.YthlhocneggcekaaGreatB1
import Derived.Test.YthlhocneggcekaaGreatB2
import Derived.Test.YthlhocneggcekaaGreatB3
import Derived.Test.YthlhocneggcekaaGreatB4
import Derived.Test.YthlhocneggcekaaGreatB5
import Derived.Test.YthlhocneggcekaaGreatB6
import Derived.Test.YthlhocneggcekaaGreatB7
import Derived.Test.YthlhocneggcekaaGreatB8
import Derived.Test.YthlhocneggcekaaGreatB9
import Derived.Test.YthlhocneggcekaaGreatB10
import Derived.Test.YthlhocneggcekaaGreatB11
import Derived.Test.YthlhocneggcekaaGreatB12
import Derived.Test.YthlhocneggcekaaGreatB13
import Derived.Test.YthlhocneggcekaaGreatB14
import Derived.Test.YthlhocneggcekaaGreatB15
import Derived.Test.YthlhocneggcekaaGreatB16
import Derived.Test.YthlhocneggcekaaGreatB17
import Derived.Test.YthlhocneggcekaaGreatB18
import Derived.Test.YthlhocneggcekaaGreatB19
import Derived.Test.YthlhocneggcekaaGreatB20
import Derived.Test.YthlhocneggcekaaGreatB21
import Derived.Test.YthlhocneggcekaaGreatB22
import Derived.Test.YthlhocneggcekaaGreatB23
import Derived.Test.YthlhocneggcekaaGreatB24
import Derived.Test.YthlhocneggcekaaGreatB25
import Derived.Test.YthlhocneggcekaaGreatB26
import Derived.Test.YthlhocneggcekaaGreatB27
import Derived.Test.YthlhocneggcekaaGreatB28
import Derived.Test.YthlhocneggcekaaGreatB29
import Derived.Test.YthlhocneggcekaaGreatB30
import Derived.Test.YthlhocneggcekaaGreatB31
import Derived.Test.YthlhocneggcekaaGreatB32
import Derived.Test.YthlhocneggcekaaGreatB33
import Derived.Test.YthlhocneggcekaaGreatB34
import Derived.Test.YthlhocneggcekaaGreatB35
import Derived.Test.YthlhocneggcekaaGreatB36
import Derived.Test.YthlhocneggcekaaGreatB37
import Derived.Test.YthlhocneggcekaaGreatB38
import Derived.Test.YthlhocneggcekaaGreatB39
import Derived.Test.YthlhocneggcekaaGreatB40
import Derived.Test.YthlhocneggcekaaGreatB41
import Derived.Test.YthlhocneggcekaaGreatB42
import Derived.Test.YthlhocneggcekaaGreatB43
import Derived.Test.YthlhocneggcekaaGreatB44
import Derived.Test.YthlhocneggcekaaGreatH1
namespace Go.Proofs.YthlhocneggcekaaGreat
open Go.RowKit
set_option maxRecDepth 10000 in
set_option maxHeartbeats 4000000 in
theorem mheld_bad {m : Mc} {x : Hp} {cs ch : Array Value} {w : World} (hm : IsM w m cs) (hx : IsH w x ch) (hE : ¬ hpE m x = 0) :
    Calls Tryz.prog 4 #[.agg cs, .agg ch] w fun e w' => e = .returned (.bool true) ∧ Below w.heap.size w w' := by
  obtain ⟨⟨Y, T⟩, hYT⟩ : ∃ R, hpR m x = R := ⟨_, rfl⟩
  have HM : Hid (IsM w m cs) := hm
  have HX : Hid (IsH w x ch) := hx
  have HYT : Hid (hpR m x = (Y, T)) := hYT
  have HE : Hid (¬ hpE m x = 0) := hE
  have hc16 : cs.size = 16 := hm.size.1
  have hh7 : ch.size = 7 := hx.size.1
  have X0 := (Box.newAt (w := w) (n := w.heap.size) rfl 33 cs).past (.cells ch 37)
  have X1 := Box.newAt (w := w.alloc (.cells cs 33)) (n := w.heap.size + 1) (by simp) 37 ch
  have BW : Hid (Below w.heap.size w ((w.alloc (.cells cs 33)).alloc (.cells ch 37))) := bel_alloc (bel_alloc (Below.refl w.heap.size w) _) _
  clear hm hx hYT hE
  go_enter Tryz.func4, Tryz.ntmps4
  go_upto_region 1 with fail
  generalize ((w.alloc (.cells cs 33)).alloc (.cells ch 37)) = W at *
  have HI : (Tryz.prog.info? 33).map (·.size) = some cs.size := by rw [infoM, hc16]
  have HJ : (Tryz.prog.info? 37).map (·.size) = some ch.size := by rw [infoH, hh7]
  go_wp2_with (first
    | fail
    | (refine wpList_load_row rfl 33 (.tmp 2) rfl w.heap.size rfl _ _ _ _ X0 Tryz.underlying33 rfl HI ?_)
    | (refine wpList_load_row rfl 37 (.tmp 3) rfl (w.heap.size + 1) rfl _ _ _ _ X1 Tryz.underlying37 rfl HJ ?_))
  refine (mDo_row (HM.out.keep BW.out) (HX.out.keep BW.out)).mono ?_
  rintro e w4 ⟨cs1, cs2, rfl, hM, hT, -, -, b4⟩
  rw [HYT.out] at hM hT
  dsimp only at hM hT
  obtain ⟨E, hEE⟩ : ∃ E, hpE m x = E := ⟨_, rfl⟩
  rw [hEE] at HE ⊢
  clear hEE
  obtain ⟨hs1, ha1⟩ := hM.size
  obtain ⟨hs2, ha2⟩ := hT.size
  have s1 := X1.lt
  have bs := b4.size
  obtain ⟨n7, hn7⟩ : ∃ n, w4.heap.size = n := ⟨_, rfl⟩
  obtain ⟨n8, hn8⟩ : ∃ n, n7 + 1 = n := ⟨_, rfl⟩
  have Z7 : Box ((w4.alloc (.cells #[.slice none 0 0, J 0, .slice none 0 0, .bool false, J 0, J 0, .slice none 0 0, J 0, J 0, J 0, .bool false, J 0, J 0, J 0, J 0, .bool false] 33)).alloc (.cells #[.bool false, .slice none 0 0, J 0, .slice none 0 0] 40)) n7 33 zeroM := (Box.newAt hn7.symm _ _).past _
  have X8 : Box ((w4.alloc (.cells #[.slice none 0 0, J 0, .slice none 0 0, .bool false, J 0, J 0, .slice none 0 0, J 0, J 0, J 0, .bool false, J 0, J 0, J 0, J 0, .bool false] 33)).alloc (.cells #[.bool false, .slice none 0 0, J 0, .slice none 0 0] 40)) n8 40 zeroT := Box.newAt (by simp; omega) _ _
  have h78 : n7 ≠ n8 := by omega
  have Z8 := X8.otherRow h78.symm cs1
  have X7 := (Z7.setRow cs1).otherRow h78 cs2
  have X8 := Z8.setRow cs2
  have K5 : Below w4.heap.size w4 ((((w4.alloc (.cells #[.slice none 0 0, J 0, .slice none 0 0, .bool false, J 0, J 0, .slice none 0 0, J 0, J 0, J 0, .bool false, J 0, J 0, J 0, J 0, .bool false] 33)).alloc (.cells #[.bool false, .slice none 0 0, J 0, .slice none 0 0] 40)).setRow n7 cs1).setRow n8 cs2) := bel_setRow (by omega) (bel_setRow (by omega) (bel_alloc (bel_alloc (Below.refl _ _) _) _) _) _
  have X0 := (X0.keep b4).keep K5
  have X1 := (X1.keep b4).keep K5
  have hM := hM.keep K5
  have hT := hT.keep K5
  have HM := HM.out.keep (bel_trans BW.out (bel_trans b4 K5))
  have HX := HX.out.keep (bel_trans BW.out (bel_trans b4 K5))
  have B5 : Hid (Below w.heap.size w ((((w4.alloc (.cells #[.slice none 0 0, J 0, .slice none 0 0, .bool false, J 0, J 0, .slice none 0 0, J 0, J 0, J 0, .bool false, J 0, J 0, J 0, J 0, .bool false] 33)).alloc (.cells #[.bool false, .slice none 0 0, J 0, .slice none 0 0] 40)).setRow n7 cs1).setRow n8 cs2)) := bel_trans BW.out (bel_trans b4 K5)
  clear K5 b4 BW
  go_upto_region 2 with (first
    | fail
    | (refine wpList_store_row rfl 33 (.tmp 5) (.tmp 15) rfl n7 cs1 rfl rfl _ _ Z7 (by rw [infoM, hs1]) (by rw [hs1]; rfl) ha1 ?_)
    | (refine wpList_store_row rfl 40 (.tmp 6) (.tmp 16) rfl n8 cs2 rfl rfl _ _ Z8 (by rw [infoTo, hs2]) (by rw [hs2]; rfl) ha2 ?_))
  clear Z7 Z8 hn7 HI HJ
  generalize ((((w4.alloc (.cells #[.slice none 0 0, J 0, .slice none 0 0, .bool false, J 0, J 0, .slice none 0 0, J 0, J 0, J 0, .bool false, J 0, J 0, J 0, J 0, .bool false] 33)).alloc (.cells #[.bool false, .slice none 0 0, J 0, .slice none 0 0] 40)).setRow n7 cs1).setRow n8 cs2) = w5 at *
  go_wp2_with fail
  refine (driven_true _).mono ?_
  rintro e w6 ⟨rfl, b6⟩
  have X0 := X0.keep b6
  have X1 := X1.keep b6
  have X7 := X7.keep b6
  have X8 := X8.keep b6
  have hM := hM.keep b6
  have hT := hT.keep b6
  have HM := HM.keep b6
  have HX := HX.keep b6
  have B6 : Hid (Below w.heap.size w w6) := bel_trans B5.out b6
  clear b6 B5 bs
  have q : (E != 0) = true := by simpa using HE.out
  clear X0 X1 X7 X8 hM hT HM HX HE
  go_wp2_with fail
  refine (driven_true _).mono ?_
  rintro e w7 ⟨rfl, b7⟩
  go_wp2_with fail
  go_ret
  exact ⟨rfl, bel_trans B6.out b7⟩
set_option maxRecDepth 10000 in
set_option maxHeartbeats 4000000 in
theorem mheld_1 {m : Mc} {x : Hp} {cs ch : Array Value} {w : World} (hm : IsM w m cs) (hx : IsH w x ch) (hE : hpE m x = 0) (hk : x.kind = 1):
    Calls Tryz.prog 4 #[.agg cs, .agg ch] w fun e w' => e = .returned (.bool true) ∧ Below w.heap.size w w' := by
  obtain ⟨⟨Y, T⟩, hYT⟩ : ∃ R, hpR m x = R := ⟨_, rfl⟩
  obtain ⟨gM, gY, -, gT, gH, g1, g2, g3, g4⟩ := hp_good hE hYT
  have HM : Hid (IsM w m cs) := hm
  have HX : Hid (IsH w x ch) := hx
  have HYT : Hid (hpR m x = (Y, T)) := hYT
  have HE : Hid (hpE m x = 0) := hE
  have hc16 : cs.size = 16 := hm.size.1
  have hh7 : ch.size = 7 := hx.size.1
  have X0 := (Box.newAt (w := w) (n := w.heap.size) rfl 33 cs).past (.cells ch 37)
  have X1 := Box.newAt (w := w.alloc (.cells cs 33)) (n := w.heap.size + 1) (by simp) 37 ch
  have BW : Hid (Below w.heap.size w ((w.alloc (.cells cs 33)).alloc (.cells ch 37))) := bel_alloc (bel_alloc (Below.refl w.heap.size w) _) _
  clear hm hx hYT hE
  go_enter Tryz.func4, Tryz.ntmps4
  go_upto_region 1 with fail
  generalize ((w.alloc (.cells cs 33)).alloc (.cells ch 37)) = W at *
  have HI : (Tryz.prog.info? 33).map (·.size) = some cs.size := by rw [infoM, hc16]
  have HJ : (Tryz.prog.info? 37).map (·.size) = some ch.size := by rw [infoH, hh7]
  go_wp2_with (first
    | fail
    | (refine wpList_load_row rfl 33 (.tmp 2) rfl w.heap.size rfl _ _ _ _ X0 Tryz.underlying33 rfl HI ?_)
    | (refine wpList_load_row rfl 37 (.tmp 3) rfl (w.heap.size + 1) rfl _ _ _ _ X1 Tryz.underlying37 rfl HJ ?_))
  refine (mDo_row (HM.out.keep BW.out) (HX.out.keep BW.out)).mono ?_
  rintro e w4 ⟨cs1, cs2, rfl, hM, hT, -, -, b4⟩
  rw [HYT.out] at hM hT
  dsimp only at hM hT
  obtain ⟨E, hEE⟩ : ∃ E, hpE m x = E := ⟨_, rfl⟩
  rw [hEE] at HE ⊢
  clear hEE
  obtain ⟨hs1, ha1⟩ := hM.size
  obtain ⟨hs2, ha2⟩ := hT.size
  have s1 := X1.lt
  have bs := b4.size
  obtain ⟨n7, hn7⟩ : ∃ n, w4.heap.size = n := ⟨_, rfl⟩
  obtain ⟨n8, hn8⟩ : ∃ n, n7 + 1 = n := ⟨_, rfl⟩
  have Z7 : Box ((w4.alloc (.cells #[.slice none 0 0, J 0, .slice none 0 0, .bool false, J 0, J 0, .slice none 0 0, J 0, J 0, J 0, .bool false, J 0, J 0, J 0, J 0, .bool false] 33)).alloc (.cells #[.bool false, .slice none 0 0, J 0, .slice none 0 0] 40)) n7 33 zeroM := (Box.newAt hn7.symm _ _).past _
  have X8 : Box ((w4.alloc (.cells #[.slice none 0 0, J 0, .slice none 0 0, .bool false, J 0, J 0, .slice none 0 0, J 0, J 0, J 0, .bool false, J 0, J 0, J 0, J 0, .bool false] 33)).alloc (.cells #[.bool false, .slice none 0 0, J 0, .slice none 0 0] 40)) n8 40 zeroT := Box.newAt (by simp; omega) _ _
  have h78 : n7 ≠ n8 := by omega
  have Z8 := X8.otherRow h78.symm cs1
  have X7 := (Z7.setRow cs1).otherRow h78 cs2
  have X8 := Z8.setRow cs2
  have K5 : Below w4.heap.size w4 ((((w4.alloc (.cells #[.slice none 0 0, J 0, .slice none 0 0, .bool false, J 0, J 0, .slice none 0 0, J 0, J 0, J 0, .bool false, J 0, J 0, J 0, J 0, .bool false] 33)).alloc (.cells #[.bool false, .slice none 0 0, J 0, .slice none 0 0] 40)).setRow n7 cs1).setRow n8 cs2) := bel_setRow (by omega) (bel_setRow (by omega) (bel_alloc (bel_alloc (Below.refl _ _) _) _) _) _
  have X0 := (X0.keep b4).keep K5
  have X1 := (X1.keep b4).keep K5
  have hM := hM.keep K5
  have hT := hT.keep K5
  have HM := HM.out.keep (bel_trans BW.out (bel_trans b4 K5))
  have HX := HX.out.keep (bel_trans BW.out (bel_trans b4 K5))
  have B5 : Hid (Below w.heap.size w ((((w4.alloc (.cells #[.slice none 0 0, J 0, .slice none 0 0, .bool false, J 0, J 0, .slice none 0 0, J 0, J 0, J 0, .bool false, J 0, J 0, J 0, J 0, .bool false] 33)).alloc (.cells #[.bool false, .slice none 0 0, J 0, .slice none 0 0] 40)).setRow n7 cs1).setRow n8 cs2)) := bel_trans BW.out (bel_trans b4 K5)
  clear K5 b4 BW
  go_upto_region 2 with (first
    | fail
    | (refine wpList_store_row rfl 33 (.tmp 5) (.tmp 15) rfl n7 cs1 rfl rfl _ _ Z7 (by rw [infoM, hs1]) (by rw [hs1]; rfl) ha1 ?_)
    | (refine wpList_store_row rfl 40 (.tmp 6) (.tmp 16) rfl n8 cs2 rfl rfl _ _ Z8 (by rw [infoTo, hs2]) (by rw [hs2]; rfl) ha2 ?_))
  clear Z7 Z8 hn7 HI HJ
  generalize ((((w4.alloc (.cells #[.slice none 0 0, J 0, .slice none 0 0, .bool false, J 0, J 0, .slice none 0 0, J 0, J 0, J 0, .bool false, J 0, J 0, J 0, J 0, .bool false] 33)).alloc (.cells #[.bool false, .slice none 0 0, J 0, .slice none 0 0] 40)).setRow n7 cs1).setRow n8 cs2) = w5 at *
  go_wp2_with fail
  refine (driven_true _).mono ?_
  rintro e w6 ⟨rfl, b6⟩
  have X0 := X0.keep b6
  have X1 := X1.keep b6
  have X7 := X7.keep b6
  have X8 := X8.keep b6
  have hM := hM.keep b6
  have hT := hT.keep b6
  have HM := HM.keep b6
  have HX := HX.keep b6
  have B6 : Hid (Below w.heap.size w w6) := bel_trans B5.out b6
  clear b6 B5 bs
  obtain rfl : E = 0 := HE.out
  have q : ((0 : Int) != 0) = false := rfl
  have HC : Hid (chkM Y = 0) := gY
  have HMY : Hid (IsM w6 Y cs1) := hM
  clear HE gY
  obtain rfl : T = T0 := gT (by omega)
  obtain ⟨zs, ⟨p, r, d⟩, ⟨mo, ba, l, op, oh, ot, st, fe, fp, fh, ft, lo⟩⟩ := m
  obtain ⟨zs1, ⟨p1, r1, d1⟩, ⟨mo1, ba1, l1, op1, oh1, ot1, st1, fe1, fp1, fh1, ft1, lo1⟩⟩ := Y
  obtain rfl : l1 = l := (g1 hk).1
  skip
  clear gT gH g1 g2 g3 g4 gM
  obtain ⟨a1, n1, c1, a2, n2, c2, a3, n3, c3, rfl, h1, h2, h3⟩ := HM
  obtain ⟨b1, k1, e1, b2, k2, e2, b3, k3, e3, rfl, u1, u2, u3⟩ := hM
  obtain ⟨a6, m6, c6, rfl, -⟩ := HX
  obtain ⟨a4, n4, c4, a5, n5, c5, rfl, d4, t5⟩ := hT
  dsimp only at h1 h2 h3 u1 u2 u3 d4 t5 X0 X1 X7 X8
  rw [hk] at X1
  have hn3 : n3 = l1.length := by obtain ⟨_, _, e, _⟩ := h3; simp only [Value.slice.injEq] at e; exact e.2.1
  have hk3 : k3 = l1.length := by obtain ⟨_, _, e, _⟩ := u3; simp only [Value.slice.injEq] at e; exact e.2.1
  have H1 : Hid (Sl w6 (.slice a1 n1 c1) zs) := h1
  have H2 : Hid (Sl w6 (.slice a2 n2 c2) r) := h2
  have H3 : Hid (Ls w6 (.slice a3 n3 c3) l1) := h3
  have U1 : Hid (Sl w6 (.slice b1 k1 e1) zs1) := u1
  have U2 : Hid (Sl w6 (.slice b2 k2 e2) r1) := u2
  have U3 : Hid (Ls w6 (.slice b3 k3 e3) l1) := u3
  have D4 : Hid (Sl w6 (.slice a4 n4 c4) []) := d4
  have T5 : Hid (Ts w6 (.slice a5 n5 c5) []) := t5
  clear h1 h2 h3 u1 u2 u3 d4 t5 hk hc16 hh7 hs1 ha1 hs2 ha2
  clear hn3 hk3
  go_wp2_with (first
    | fail
    | (refine wpList_load_row rfl 33 (.tmp 5) rfl n7 rfl _ _ _ _ X7 Tryz.underlying33 rfl (by rw [infoM]; rfl) ?_))
  refine (mCheck_row HMY.out).mono ?_
  rintro e w7 ⟨rfl, b7⟩
  rw [HC.out]
  have bb : Hid (Below w6.heap.size w6 w7) := b7
  have X0 := X0.keep b7
  have X1 := X1.keep b7
  have X7 := X7.keep b7
  have X8 := X8.keep b7
  clear b7 HMY HC
  obtain ⟨⟨i0, i1, i2, i3⟩, ⟨j0, j1, j2, j3, j4, j5, j6, j7, j8, j9, j10, j11⟩, si⟩ := X0.sixteen
  obtain ⟨⟨f0, f1, f2, f3⟩, ⟨g0, g1, g2, g3, g4, g5, g6, g7, g8, g9, g10, g11⟩, sf⟩ := X7.sixteen
  obtain ⟨⟨y0, y1, y2, y3, y4, y5, y6⟩, sH⟩ := X1.seven
  obtain ⟨z0, z1, z2, z3, -, -, -, -, s8⟩ := X8.four
  go_wp2_with fail
  refine (sameTold_eq false _ _ [] 0 _ _ [] _ (D4.out.keep bb.out) (Sl.nil _ none 0) (T5.out.keep bb.out) (Ts.nothing _)).mono ?_
  rintro e w8 ⟨rfl, b8⟩
  clear i0 i1 i2 i3 j0 j1 j2 j3 j4 j5 j6 j7 j8 j9 j10 j11 si f0 f1 f2 f3 g0 g1 g2 g3 g4 g5 g6 g7 g8 g9 g10 g11 sf y0 y1 y2 y3 y4 y5 y6 sH z0 z1 z2 z3 s8
  have X0 := X0.keep b8
  have X1 := X1.keep b8
  have X7 := X7.keep b8
  have X8 := X8.keep b8
  have bb : Hid (Below w6.heap.size w6 w8) := bel_trans bb.out b8
  clear b8
  obtain ⟨⟨i0, i1, i2, i3⟩, ⟨j0, j1, j2, j3, j4, j5, j6, j7, j8, j9, j10, j11⟩, si⟩ := X0.sixteen
  obtain ⟨⟨f0, f1, f2, f3⟩, ⟨g0, g1, g2, g3, g4, g5, g6, g7, g8, g9, g10, g11⟩, sf⟩ := X7.sixteen
  obtain ⟨⟨y0, y1, y2, y3, y4, y5, y6⟩, sH⟩ := X1.seven
  obtain ⟨z0, z1, z2, z3, -, -, -, -, s8⟩ := X8.four
  go_wp2_with fail
  refine (equalL_any _ _ l1 l1 _ (H3.out.keep bb.out) (U3.out.keep bb.out)).mono ?_
  rintro e w9 ⟨rfl, nd, rfl⟩
  rw [show decide (l1 = l1) = true by simp]
  go_wp2_with fail
  go_ret
  exact ⟨rfl, bel_drewN (bel_trans B6.out bb.out) nd⟩
set_option maxRecDepth 10000 in
set_option maxHeartbeats 4000000 in
theorem mheld_2 {m : Mc} {x : Hp} {cs ch : Array Value} {w : World} (hm : IsM w m cs) (hx : IsH w x ch) (hE : hpE m x = 0) (hk : x.kind = 2):
    Calls Tryz.prog 4 #[.agg cs, .agg ch] w fun e w' => e = .returned (.bool true) ∧ Below w.heap.size w w' := by
  obtain ⟨⟨Y, T⟩, hYT⟩ : ∃ R, hpR m x = R := ⟨_, rfl⟩
  obtain ⟨gM, gY, -, gT, gH, g1, g2, g3, g4⟩ := hp_good hE hYT
  have HM : Hid (IsM w m cs) := hm
  have HX : Hid (IsH w x ch) := hx
  have HYT : Hid (hpR m x = (Y, T)) := hYT
  have HE : Hid (hpE m x = 0) := hE
  have hc16 : cs.size = 16 := hm.size.1
  have hh7 : ch.size = 7 := hx.size.1
  have X0 := (Box.newAt (w := w) (n := w.heap.size) rfl 33 cs).past (.cells ch 37)
  have X1 := Box.newAt (w := w.alloc (.cells cs 33)) (n := w.heap.size + 1) (by simp) 37 ch
  have BW : Hid (Below w.heap.size w ((w.alloc (.cells cs 33)).alloc (.cells ch 37))) := bel_alloc (bel_alloc (Below.refl w.heap.size w) _) _
  clear hm hx hYT hE
  go_enter Tryz.func4, Tryz.ntmps4
  go_upto_region 1 with fail
  generalize ((w.alloc (.cells cs 33)).alloc (.cells ch 37)) = W at *
  have HI : (Tryz.prog.info? 33).map (·.size) = some cs.size := by rw [infoM, hc16]
  have HJ : (Tryz.prog.info? 37).map (·.size) = some ch.size := by rw [infoH, hh7]
  go_wp2_with (first
    | fail
    | (refine wpList_load_row rfl 33 (.tmp 2) rfl w.heap.size rfl _ _ _ _ X0 Tryz.underlying33 rfl HI ?_)
    | (refine wpList_load_row rfl 37 (.tmp 3) rfl (w.heap.size + 1) rfl _ _ _ _ X1 Tryz.underlying37 rfl HJ ?_))
  refine (mDo_row (HM.out.keep BW.out) (HX.out.keep BW.out)).mono ?_
  rintro e w4 ⟨cs1, cs2, rfl, hM, hT, -, -, b4⟩
  rw [HYT.out] at hM hT
  dsimp only at hM hT
  obtain ⟨E, hEE⟩ : ∃ E, hpE m x = E := ⟨_, rfl⟩
  rw [hEE] at HE ⊢
  clear hEE
  obtain ⟨hs1, ha1⟩ := hM.size
  obtain ⟨hs2, ha2⟩ := hT.size
  have s1 := X1.lt
  have bs := b4.size
  obtain ⟨n7, hn7⟩ : ∃ n, w4.heap.size = n := ⟨_, rfl⟩
  obtain ⟨n8, hn8⟩ : ∃ n, n7 + 1 = n := ⟨_, rfl⟩
  have Z7 : Box ((w4.alloc (.cells #[.slice none 0 0, J 0, .slice none 0 0, .bool false, J 0, J 0, .slice none 0 0, J 0, J 0, J 0, .bool false, J 0, J 0, J 0, J 0, .bool false] 33)).alloc (.cells #[.bool false, .slice none 0 0, J 0, .slice none 0 0] 40)) n7 33 zeroM := (Box.newAt hn7.symm _ _).past _
  have X8 : Box ((w4.alloc (.cells #[.slice none 0 0, J 0, .slice none 0 0, .bool false, J 0, J 0, .slice none 0 0, J 0, J 0, J 0, .bool false, J 0, J 0, J 0, J 0, .bool false] 33)).alloc (.cells #[.bool false, .slice none 0 0, J 0, .slice none 0 0] 40)) n8 40 zeroT := Box.newAt (by simp; omega) _ _
  have h78 : n7 ≠ n8 := by omega
  have Z8 := X8.otherRow h78.symm cs1
  have X7 := (Z7.setRow cs1).otherRow h78 cs2
  have X8 := Z8.setRow cs2
  have K5 : Below w4.heap.size w4 ((((w4.alloc (.cells #[.slice none 0 0, J 0, .slice none 0 0, .bool false, J 0, J 0, .slice none 0 0, J 0, J 0, J 0, .bool false, J 0, J 0, J 0, J 0, .bool false] 33)).alloc (.cells #[.bool false, .slice none 0 0, J 0, .slice none 0 0] 40)).setRow n7 cs1).setRow n8 cs2) := bel_setRow (by omega) (bel_setRow (by omega) (bel_alloc (bel_alloc (Below.refl _ _) _) _) _) _
  have X0 := (X0.keep b4).keep K5
  have X1 := (X1.keep b4).keep K5
  have hM := hM.keep K5
  have hT := hT.keep K5
  have HM := HM.out.keep (bel_trans BW.out (bel_trans b4 K5))
  have HX := HX.out.keep (bel_trans BW.out (bel_trans b4 K5))
  have B5 : Hid (Below w.heap.size w ((((w4.alloc (.cells #[.slice none 0 0, J 0, .slice none 0 0, .bool false, J 0, J 0, .slice none 0 0, J 0, J 0, J 0, .bool false, J 0, J 0, J 0, J 0, .bool false] 33)).alloc (.cells #[.bool false, .slice none 0 0, J 0, .slice none 0 0] 40)).setRow n7 cs1).setRow n8 cs2)) := bel_trans BW.out (bel_trans b4 K5)
  clear K5 b4 BW
  go_upto_region 2 with (first
    | fail
    | (refine wpList_store_row rfl 33 (.tmp 5) (.tmp 15) rfl n7 cs1 rfl rfl _ _ Z7 (by rw [infoM, hs1]) (by rw [hs1]; rfl) ha1 ?_)
    | (refine wpList_store_row rfl 40 (.tmp 6) (.tmp 16) rfl n8 cs2 rfl rfl _ _ Z8 (by rw [infoTo, hs2]) (by rw [hs2]; rfl) ha2 ?_))
  clear Z7 Z8 hn7 HI HJ
  generalize ((((w4.alloc (.cells #[.slice none 0 0, J 0, .slice none 0 0, .bool false, J 0, J 0, .slice none 0 0, J 0, J 0, J 0, .bool false, J 0, J 0, J 0, J 0, .bool false] 33)).alloc (.cells #[.bool false, .slice none 0 0, J 0, .slice none 0 0] 40)).setRow n7 cs1).setRow n8 cs2) = w5 at *
  go_wp2_with fail
  refine (driven_true _).mono ?_
  rintro e w6 ⟨rfl, b6⟩
  have X0 := X0.keep b6
  have X1 := X1.keep b6
  have X7 := X7.keep b6
  have X8 := X8.keep b6
  have hM := hM.keep b6
  have hT := hT.keep b6
  have HM := HM.keep b6
  have HX := HX.keep b6
  have B6 : Hid (Below w.heap.size w w6) := bel_trans B5.out b6
  clear b6 B5 bs
  obtain rfl : E = 0 := HE.out
  have q : ((0 : Int) != 0) = false := rfl
  have HC : Hid (chkM Y = 0) := gY
  have HMY : Hid (IsM w6 Y cs1) := hM
  clear HE gY
  obtain rfl : T = T0 := gT (by omega)
  obtain ⟨zs, ⟨p, r, d⟩, ⟨mo, ba, l, op, oh, ot, st, fe, fp, fh, ft, lo⟩⟩ := m
  obtain ⟨zs1, ⟨p1, r1, d1⟩, ⟨mo1, ba1, l1, op1, oh1, ot1, st1, fe1, fp1, fh1, ft1, lo1⟩⟩ := Y
  obtain ⟨rfl, rfl, rfl⟩ : p1 = p ∧ r1 = r ∧ d1 = d := by have := gH (by omega); simpa using this
  obtain ⟨e1, e2, hlen⟩ := g2 hk
  simp only [Br.mk.injEq] at e1 e2 hlen
  obtain rfl := e1
  obtain ⟨rfl, rfl, -, -, -, -, -, -, rfl, rfl, rfl, rfl⟩ := e2
  have hl6 : l.length ≤ 6 := (chkC_zero.1 (chkB_ok (chkM_ok gM).2.2).2.2.2.1).1
  clear gT gH g1 g2 g3 g4 gM
  obtain ⟨a1, n1, c1, a2, n2, c2, a3, n3, c3, rfl, h1, h2, h3⟩ := HM
  obtain ⟨b1, k1, e1, b2, k2, e2, b3, k3, e3, rfl, u1, u2, u3⟩ := hM
  obtain ⟨a6, m6, c6, rfl, -⟩ := HX
  obtain ⟨a4, n4, c4, a5, n5, c5, rfl, d4, t5⟩ := hT
  dsimp only at h1 h2 h3 u1 u2 u3 d4 t5 X0 X1 X7 X8
  rw [hk] at X1
  have hn3 : n3 = l.length := by obtain ⟨_, _, e, _⟩ := h3; simp only [Value.slice.injEq] at e; exact e.2.1
  have hk3 : k3 = l1.length := by obtain ⟨_, _, e, _⟩ := u3; simp only [Value.slice.injEq] at e; exact e.2.1
  have H1 : Hid (Sl w6 (.slice a1 n1 c1) zs1) := h1
  have H2 : Hid (Sl w6 (.slice a2 n2 c2) r1) := h2
  have H3 : Hid (Ls w6 (.slice a3 n3 c3) l) := h3
  have U1 : Hid (Sl w6 (.slice b1 k1 e1) zs1) := u1
  have U2 : Hid (Sl w6 (.slice b2 k2 e2) r1) := u2
  have U3 : Hid (Ls w6 (.slice b3 k3 e3) l1) := u3
  have D4 : Hid (Sl w6 (.slice a4 n4 c4) []) := d4
  have T5 : Hid (Ts w6 (.slice a5 n5 c5) []) := t5
  clear h1 h2 h3 u1 u2 u3 d4 t5 hk hc16 hh7 hs1 ha1 hs2 ha2
  have hle : (k3 : Int) ≤ n3 := by omega
  have hb6 : n3 ≤ 6 := by omega
  clear hn3 hk3 hl6 hlen
  go_wp2_with (first
    | fail
    | (refine wpList_load_row rfl 33 (.tmp 5) rfl n7 rfl _ _ _ _ X7 Tryz.underlying33 rfl (by rw [infoM]; rfl) ?_))
  refine (mCheck_row HMY.out).mono ?_
  rintro e w7 ⟨rfl, b7⟩
  rw [HC.out]
  have bb : Hid (Below w6.heap.size w6 w7) := b7
  have X0 := X0.keep b7
  have X1 := X1.keep b7
  have X7 := X7.keep b7
  have X8 := X8.keep b7
  clear b7 HMY HC
  obtain ⟨⟨i0, i1, i2, i3⟩, ⟨j0, j1, j2, j3, j4, j5, j6, j7, j8, j9, j10, j11⟩, si⟩ := X0.sixteen
  obtain ⟨⟨f0, f1, f2, f3⟩, ⟨g0, g1, g2, g3, g4, g5, g6, g7, g8, g9, g10, g11⟩, sf⟩ := X7.sixteen
  obtain ⟨⟨y0, y1, y2, y3, y4, y5, y6⟩, sH⟩ := X1.seven
  obtain ⟨z0, z1, z2, z3, -, -, -, -, s8⟩ := X8.four
  go_wp2_with fail
  refine (sameTold_eq false _ _ [] 0 _ _ [] _ (D4.out.keep bb.out) (Sl.nil _ none 0) (T5.out.keep bb.out) (Ts.nothing _)).mono ?_
  rintro e w8 ⟨rfl, b8⟩
  clear i0 i1 i2 i3 j0 j1 j2 j3 j4 j5 j6 j7 j8 j9 j10 j11 si f0 f1 f2 f3 g0 g1 g2 g3 g4 g5 g6 g7 g8 g9 g10 g11 sf y0 y1 y2 y3 y4 y5 y6 sH z0 z1 z2 z3 s8
  have X0 := X0.keep b8
  have X1 := X1.keep b8
  have X7 := X7.keep b8
  have X8 := X8.keep b8
  have bb : Hid (Below w6.heap.size w6 w8) := bel_trans bb.out b8
  clear b8
  obtain ⟨⟨i0, i1, i2, i3⟩, ⟨j0, j1, j2, j3, j4, j5, j6, j7, j8, j9, j10, j11⟩, si⟩ := X0.sixteen
  obtain ⟨⟨f0, f1, f2, f3⟩, ⟨g0, g1, g2, g3, g4, g5, g6, g7, g8, g9, g10, g11⟩, sf⟩ := X7.sixteen
  obtain ⟨⟨y0, y1, y2, y3, y4, y5, y6⟩, sH⟩ := X1.seven
  obtain ⟨z0, z1, z2, z3, -, -, -, -, s8⟩ := X8.four
  go_wp2_with fail
  refine (hSame_any p1 _ r1 d1 p1 _ r1 d1 _ (H2.out.keep bb.out) (U2.out.keep bb.out)).mono ?_
  rintro e w9 ⟨rfl, b9⟩
  clear i0 i1 i2 i3 j0 j1 j2 j3 j4 j5 j6 j7 j8 j9 j10 j11 si f0 f1 f2 f3 g0 g1 g2 g3 g4 g5 g6 g7 g8 g9 g10 g11 sf y0 y1 y2 y3 y4 y5 y6 sH z0 z1 z2 z3 s8
  have X0 := X0.keep b9
  have X1 := X1.keep b9
  have X7 := X7.keep b9
  have X8 := X8.keep b9
  have bb : Hid (Below w6.heap.size w6 w9) := bel_trans bb.out b9
  clear b9
  obtain ⟨⟨i0, i1, i2, i3⟩, ⟨j0, j1, j2, j3, j4, j5, j6, j7, j8, j9, j10, j11⟩, si⟩ := X0.sixteen
  obtain ⟨⟨f0, f1, f2, f3⟩, ⟨g0, g1, g2, g3, g4, g5, g6, g7, g8, g9, g10, g11⟩, sf⟩ := X7.sixteen
  obtain ⟨⟨y0, y1, y2, y3, y4, y5, y6⟩, sH⟩ := X1.seven
  obtain ⟨z0, z1, z2, z3, -, -, -, -, s8⟩ := X8.four
  rw [show sameH ⟨p1, r1, d1⟩ ⟨p1, r1, d1⟩ = true by simp [sameH]]
  go_upto_region 11 with fail
  clear i0 i1 i2 i3 j0 j1 j2 j3 j4 j5 j6 j7 j8 j9 j10 j11 si f0 f1 f2 f3 g0 g1 g2 g3 g4 g5 g6 g7 g8 g9 g10 g11 sf y0 y1 y2 y3 y4 y5 y6 sH z0 z1 z2 z3 s8
  have hN9 : w6.heap.size ≤ w9.heap.size := bb.out.size
  have X9 : Box (w9.alloc (.cells #[J mo1, J ba1, .slice b3 k3 e3, J op1, J oh1, J ot1, .bool st1, J fe1, J fp1, J fh1, J ft1, .bool lo1] 31)) w9.heap.size 31 #[J mo1, J ba1, .slice b3 k3 e3, J op1, J oh1, J ot1, .bool st1, J fe1, J fp1, J fh1, J ft1, .bool lo1] := Box.newAt rfl _ _
  have bb9 : Below w9.heap.size w9 (w9.alloc (.cells #[J mo1, J ba1, .slice b3 k3 e3, J op1, J oh1, J ot1, .bool st1, J fe1, J fp1, J fh1, J ft1, .bool lo1] 31)) := bel_alloc (Below.refl _ _) _
  have bb : Hid (Below w6.heap.size w6 (w9.alloc (.cells #[J mo1, J ba1, .slice b3 k3 e3, J op1, J oh1, J ot1, .bool st1, J fe1, J fp1, J fh1, J ft1, .bool lo1] 31))) := bel_trans bb.out bb9
  have s0 := X0.lt
  have s7 := X7.lt
  have X0 := X0.keep bb9
  have X7 := X7.keep bb9
  clear bb9 X1 X8
  generalize (w9.alloc (.cells #[J mo1, J ba1, .slice b3 k3 e3, J op1, J oh1, J ot1, .bool st1, J fe1, J fp1, J fh1, J ft1, .bool lo1] 31)) = V at *
  generalize w9.heap.size = N9 at *
  go_cut [] from 67 to 82 (fun wx => Box wx N9 31 #[J mo1, J ba1, .slice a3 n3 c3, J op, J oh, J ot, .bool st, J fe, J fp1, J fh1, J ft1, .bool lo1] ∧ KeptB (fun q => q = N9) V wx ∧ Below w6.heap.size w6 wx)
  case first =>
    refine wp_region_held_drew (S := fun w' => Box w' w.heap.size 33 #[.slice a1 n1 c1, J p1, .slice a2 n2 c2, .bool d1, J mo1, J ba1, .slice a3 n3 c3, J op, J oh, J ot, .bool st, J fe, J fp1, J fh1, J ft1, .bool lo1]) (by kernel_rfl) X0.drew (fun hHeld => ?_)
    refine wpHeld_takeL (i := 0) (v := ?_) rfl (by kernel_rfl) (by kernel_rfl) (by kernel_rfl) (fun _ _ _ h => h) (Or.inl ⟨by kernel_rfl, ?_⟩) (by assumption) ?_
    rotate_left 1
    focus (intro wz hSz; (obtain ⟨⟨i0, i1, i2, i3⟩, ⟨j0, j1, j2, j3, j4, j5, j6, j7, j8, j9, j10, j11⟩, si⟩ := Box.sixteen hSz); go_simp; (try with_reducible rfl))
    simp only [nmz]
    refine wpHeld_takeL (i := 1) (v := ?_) rfl (by kernel_rfl) (by kernel_rfl) (by kernel_rfl) (fun _ _ _ h => h) (Or.inl ⟨by kernel_rfl, ?_⟩) (by assumption) ?_
    rotate_left 1
    focus (intro wz hSz; (obtain ⟨⟨i0, i1, i2, i3⟩, ⟨j0, j1, j2, j3, j4, j5, j6, j7, j8, j9, j10, j11⟩, si⟩ := Box.sixteen hSz); go_simp; (try with_reducible rfl))
    simp only [nmz]
    refine wpHeld_takeL (i := 2) (v := ?_) rfl (by kernel_rfl) (by kernel_rfl) (by kernel_rfl) (fun _ _ _ h => h) (Or.inl ⟨by kernel_rfl, ?_⟩) (by assumption) ?_
    rotate_left 1
    focus (intro wz hSz; (obtain ⟨⟨i0, i1, i2, i3⟩, ⟨j0, j1, j2, j3, j4, j5, j6, j7, j8, j9, j10, j11⟩, si⟩ := Box.sixteen hSz); go_simp; (try with_reducible rfl))
    simp only [nmz]
    refine wpHeld_takeL (i := 3) (v := ?_) rfl (by kernel_rfl) (by kernel_rfl) (by kernel_rfl) (fun _ _ _ h => h) (Or.inl ⟨by kernel_rfl, ?_⟩) (by assumption) ?_
    rotate_left 1
    focus (intro wz hSz; (obtain ⟨⟨i0, i1, i2, i3⟩, ⟨j0, j1, j2, j3, j4, j5, j6, j7, j8, j9, j10, j11⟩, si⟩ := Box.sixteen hSz); go_simp; (try with_reducible rfl))
    simp only [nmz]
    refine wpHeld_takeL (i := 4) (v := ?_) rfl (by kernel_rfl) (by kernel_rfl) (by kernel_rfl) (fun _ _ _ h => h) (Or.inl ⟨by kernel_rfl, ?_⟩) (by assumption) ?_
    rotate_left 1
    focus (intro wz hSz; (obtain ⟨⟨i0, i1, i2, i3⟩, ⟨j0, j1, j2, j3, j4, j5, j6, j7, j8, j9, j10, j11⟩, si⟩ := Box.sixteen hSz); go_simp; (try with_reducible rfl))
    simp only [nmz]
    refine wpHeld_takeL (i := 5) (v := ?_) rfl (by kernel_rfl) (by kernel_rfl) (by kernel_rfl) (fun _ _ _ h => h) (Or.inl ⟨by kernel_rfl, ?_⟩) (by assumption) ?_
    rotate_left 1
    focus (intro wz hSz; (obtain ⟨⟨i0, i1, i2, i3⟩, ⟨j0, j1, j2, j3, j4, j5, j6, j7, j8, j9, j10, j11⟩, si⟩ := Box.sixteen hSz); go_simp; (try with_reducible rfl))
    simp only [nmz]
    refine wpHeld_takeL (i := 6) (v := ?_) rfl (by kernel_rfl) (by kernel_rfl) (by kernel_rfl) (fun _ _ _ h => h) (Or.inl ⟨by kernel_rfl, ?_⟩) (by assumption) ?_
    rotate_left 1
    focus (intro wz hSz; (obtain ⟨⟨i0, i1, i2, i3⟩, ⟨j0, j1, j2, j3, j4, j5, j6, j7, j8, j9, j10, j11⟩, si⟩ := Box.sixteen hSz); go_simp; (try with_reducible rfl))
    simp only [nmz]
    refine wpHeld_takeL (i := 7) (v := ?_) rfl (by kernel_rfl) (by kernel_rfl) (by kernel_rfl) (fun _ _ _ h => h) (Or.inl ⟨by kernel_rfl, ?_⟩) (by assumption) ?_
    rotate_left 1
    focus (intro wz hSz; (obtain ⟨⟨i0, i1, i2, i3⟩, ⟨j0, j1, j2, j3, j4, j5, j6, j7, j8, j9, j10, j11⟩, si⟩ := Box.sixteen hSz); go_simp; (try with_reducible rfl))
    simp only [nmz]
    refine wpHeld_takeL (i := 8) (v := ?_) rfl (by kernel_rfl) (by kernel_rfl) (by kernel_rfl) (fun _ _ _ h => h) (Or.inl ⟨by kernel_rfl, ?_⟩) (by assumption) ?_
    rotate_left 1
    focus (intro wz hSz; (obtain ⟨⟨i0, i1, i2, i3⟩, ⟨j0, j1, j2, j3, j4, j5, j6, j7, j8, j9, j10, j11⟩, si⟩ := Box.sixteen hSz); go_simp; (try with_reducible rfl))
    simp only [nmz]
    refine wpHeld_takeL (i := 9) (v := ?_) rfl (by kernel_rfl) (by kernel_rfl) (by kernel_rfl) (fun _ _ _ h => h) (Or.inl ⟨by kernel_rfl, ?_⟩) (by assumption) ?_
    rotate_left 1
    focus (intro wz hSz; (obtain ⟨⟨i0, i1, i2, i3⟩, ⟨j0, j1, j2, j3, j4, j5, j6, j7, j8, j9, j10, j11⟩, si⟩ := Box.sixteen hSz); go_simp; (try with_reducible rfl))
    simp only [nmz]
    refine wpHeld_takeL (i := 10) (v := ?_) rfl (by kernel_rfl) (by kernel_rfl) (by kernel_rfl) (fun _ _ _ h => h) (Or.inl ⟨by kernel_rfl, ?_⟩) (by assumption) ?_
    rotate_left 1
    focus (intro wz hSz; (obtain ⟨⟨i0, i1, i2, i3⟩, ⟨j0, j1, j2, j3, j4, j5, j6, j7, j8, j9, j10, j11⟩, si⟩ := Box.sixteen hSz); go_simp; (try with_reducible rfl))
    simp only [nmz]
    refine wpHeld_takeL (i := 11) (v := ?_) rfl (by kernel_rfl) (by kernel_rfl) (by kernel_rfl) (fun _ _ _ h => h) (Or.inl ⟨by kernel_rfl, ?_⟩) (by assumption) ?_
    rotate_left 1
    focus (intro wz hSz; (obtain ⟨⟨i0, i1, i2, i3⟩, ⟨j0, j1, j2, j3, j4, j5, j6, j7, j8, j9, j10, j11⟩, si⟩ := Box.sixteen hSz); go_simp; (try with_reducible rfl))
    simp only [nmz]
    have Y9 := X9.drew
    have KK : Hid (KeptB (fun q => q = N9) V V.drew) := (KeptB.refl _ _).drew
    have BB : Hid (Below w6.heap.size w6 V.drew) := Below.drew bb.out
    have hne : w.heap.size ≠ N9 := by omega
    generalize V.drew = V0 at *
    refine tkH 12 rfl (by kernel_rfl) (fun _ _ _ h => h) (by assumption) (by intro wz hSz; (try dsimp only at hSz); go_simp; (try with_reducible rfl)) ?_
    simp only [nmz]
    obtain ⟨⟨v0, v1, v2, v3, v4, v5, v6, v7, v8, v9, v10, v11⟩, s9⟩ := Y9.twelve
    have mk := Y9.marksOf
    refine wpHeld_oneL (i := 13) (by kernel_rfl) (by rfl) (fun K hK => ?_)
    go_simp
    refine hK.out _ _ (Box.other (p := ⟨N9, 5, none⟩) (Box.other (p := ⟨N9, 4, none⟩) (Box.other (p := ⟨N9, 3, none⟩) hHeld hne (J op)) hne (J oh)) hne (J ot)) (fun hHeld2 => ?_)
    have Y9 := (((Y9.set 3 (J op)).set 4 (J oh)).set 5 (J ot))
    have KK : Hid (KeptB (fun q => q = N9) V _) := (KeptB.setCell (p := ⟨N9, 5, none⟩) (KeptB.setCell (p := ⟨N9, 4, none⟩) (KeptB.setCell (p := ⟨N9, 3, none⟩) KK.out (.inl rfl) (J op)) (.inl rfl) (J oh)) (.inl rfl) (J ot))
    have BB : Hid (Below w6.heap.size w6 _) := (bel_set (p := ⟨N9, 5, none⟩) hN9 (bel_set (p := ⟨N9, 4, none⟩) hN9 (bel_set (p := ⟨N9, 3, none⟩) hN9 BB.out (J op)) (J oh)) (J ot))
    clear hK K hHeld v0 v1 v2 v3 v4 v5 v6 v7 v8 v9 v10 v11 s9 mk
    have hHeld := hHeld2
    clear hHeld2
    (try simp only [Act.put])
    refine tkH 14 rfl (by kernel_rfl) (fun _ _ _ h => h) (by assumption) (by intro wz hSz; (try dsimp only at hSz); go_simp; (try with_reducible rfl)) ?_
    simp only [nmz]
    obtain ⟨⟨v0, v1, v2, v3, v4, v5, v6, v7, v8, v9, v10, v11⟩, s9⟩ := Y9.twelve
    have mk := Y9.marksOf
    refine wpHeld_oneL (i := 15) (by kernel_rfl) (by rfl) (fun K hK => ?_)
    go_simp
    refine hK.out _ _ (Box.other (p := ⟨N9, 2, none⟩) hHeld hne (.slice a3 n3 c3)) (fun hHeld2 => ?_)
    have Y9 := (Y9.set 2 (.slice a3 n3 c3))
    have KK : Hid (KeptB (fun q => q = N9) V _) := (KeptB.setCell (p := ⟨N9, 2, none⟩) KK.out (.inl rfl) (.slice a3 n3 c3))
    have BB : Hid (Below w6.heap.size w6 _) := (bel_set (p := ⟨N9, 2, none⟩) hN9 BB.out (.slice a3 n3 c3))
    clear hK K hHeld v0 v1 v2 v3 v4 v5 v6 v7 v8 v9 v10 v11 s9 mk
    have hHeld := hHeld2
    clear hHeld2
    (try simp only [Act.put])
    refine tkH 16 rfl (by kernel_rfl) (fun _ _ _ h => h) (by assumption) (by intro wz hSz; (try dsimp only at hSz); go_simp; (try with_reducible rfl)) ?_
    simp only [nmz]
    obtain ⟨⟨v0, v1, v2, v3, v4, v5, v6, v7, v8, v9, v10, v11⟩, s9⟩ := Y9.twelve
    have mk := Y9.marksOf
    refine wpHeld_oneL (i := 17) (by kernel_rfl) (by rfl) (fun K hK => ?_)
    go_simp
    refine hK.out _ _ (Box.other (p := ⟨N9, 6, none⟩) hHeld hne (.bool st)) (fun hHeld2 => ?_)
    have Y9 := (Y9.set 6 (.bool st))
    have KK : Hid (KeptB (fun q => q = N9) V _) := (KeptB.setCell (p := ⟨N9, 6, none⟩) KK.out (.inl rfl) (.bool st))
    have BB : Hid (Below w6.heap.size w6 _) := (bel_set (p := ⟨N9, 6, none⟩) hN9 BB.out (.bool st))
    clear hK K hHeld v0 v1 v2 v3 v4 v5 v6 v7 v8 v9 v10 v11 s9 mk
    have hHeld := hHeld2
    clear hHeld2
    (try simp only [Act.put])
    refine tkH 18 rfl (by kernel_rfl) (fun _ _ _ h => h) (by assumption) (by intro wz hSz; (try dsimp only at hSz); go_simp; (try with_reducible rfl)) ?_
    simp only [nmz]
    obtain ⟨⟨v0, v1, v2, v3, v4, v5, v6, v7, v8, v9, v10, v11⟩, s9⟩ := Y9.twelve
    have mk := Y9.marksOf
    refine wpHeld_oneL (i := 19) (by kernel_rfl) (by rfl) (fun K hK => ?_)
    go_simp
    refine hK.out _ _ (Box.other (p := ⟨N9, 7, none⟩) hHeld hne (J fe)) (fun hHeld2 => ?_)
    have Y9 := (Y9.set 7 (J fe))
    have KK : Hid (KeptB (fun q => q = N9) V _) := (KeptB.setCell (p := ⟨N9, 7, none⟩) KK.out (.inl rfl) (J fe))
    have BB : Hid (Below w6.heap.size w6 _) := (bel_set (p := ⟨N9, 7, none⟩) hN9 BB.out (J fe))
    clear hK K hHeld v0 v1 v2 v3 v4 v5 v6 v7 v8 v9 v10 v11 s9 mk
    have hHeld := hHeld2
    clear hHeld2
    (try simp only [Act.put])
    refine wpAnyH_done (by kernel_rfl) ?_ _
    go_wp2_with fail
    go_meet
    exact ⟨Y9, KK.out, BB.out⟩
  case rest =>
    obtain ⟨X9, KK, bc⟩ := hcut
    have X0 := X0.kept KK (by omega)
    have X7 := X7.kept KK (by omega)
    have bb : Hid (Below w6.heap.size w6 wc) := bc
    clear bc KK
    obtain ⟨⟨i0, i1, i2, i3⟩, ⟨j0, j1, j2, j3, j4, j5, j6, j7, j8, j9, j10, j11⟩, si⟩ := X0.sixteen
    obtain ⟨⟨f0, f1, f2, f3⟩, ⟨g0, g1, g2, g3, g4, g5, g6, g7, g8, g9, g10, g11⟩, sf⟩ := X7.sixteen
    obtain ⟨⟨v0, v1, v2, v3, v4, v5, v6, v7, v8, v9, v10, v11⟩, s9⟩ := X9.twelve
    go_wp2_with fail
    refine (same_any _ _ zs1 zs1 _ (H1.out.keep bb.out) (U1.out.keep bb.out)).mono ?_
    rintro e wS ⟨rfl, bS⟩
    rw [show decide (zs1 = zs1) = true by simp]
    clear i0 i1 i2 i3 j0 j1 j2 j3 j4 j5 j6 j7 j8 j9 j10 j11 si f0 f1 f2 f3 g0 g1 g2 g3 g4 g5 g6 g7 g8 g9 g10 g11 sf v0 v1 v2 v3 v4 v5 v6 v7 v8 v9 v10 v11 s9
    have X0 := X0.keep bS
    have X7 := X7.keep bS
    have X9 := X9.keep bS
    have bb : Hid (Below w6.heap.size w6 wS) := bel_trans bb.out bS
    clear bS
    obtain ⟨⟨i0, i1, i2, i3⟩, ⟨j0, j1, j2, j3, j4, j5, j6, j7, j8, j9, j10, j11⟩, si⟩ := X0.sixteen
    obtain ⟨⟨f0, f1, f2, f3⟩, ⟨g0, g1, g2, g3, g4, g5, g6, g7, g8, g9, g10, g11⟩, sf⟩ := X7.sixteen
    obtain ⟨⟨v0, v1, v2, v3, v4, v5, v6, v7, v8, v9, v10, v11⟩, s9⟩ := X9.twelve
    go_wp2_with fail
    refine (bSame_any mo1 ba1 op oh ot fe fp1 fh1 ft1 st lo1 (.slice a3 n3 c3) l mo1 ba1 op oh ot fe fp1 fh1 ft1 st lo1 (.slice a3 n3 c3) l _ (H3.out.keep bb.out) (H3.out.keep bb.out)).mono ?_
    rintro e wT ⟨rfl, bT⟩
    rw [sameBr_self]
    clear i0 i1 i2 i3 j0 j1 j2 j3 j4 j5 j6 j7 j8 j9 j10 j11 si f0 f1 f2 f3 g0 g1 g2 g3 g4 g5 g6 g7 g8 g9 g10 g11 sf v0 v1 v2 v3 v4 v5 v6 v7 v8 v9 v10 v11 s9
    have X0 := X0.keep bT
    have X7 := X7.keep bT
    have X9 := X9.keep bT
    have bb : Hid (Below w6.heap.size w6 wT) := bel_trans bb.out bT
    clear bT
    obtain ⟨⟨i0, i1, i2, i3⟩, ⟨j0, j1, j2, j3, j4, j5, j6, j7, j8, j9, j10, j11⟩, si⟩ := X0.sixteen
    obtain ⟨⟨f0, f1, f2, f3⟩, ⟨g0, g1, g2, g3, g4, g5, g6, g7, g8, g9, g10, g11⟩, sf⟩ := X7.sixteen
    obtain ⟨⟨v0, v1, v2, v3, v4, v5, v6, v7, v8, v9, v10, v11⟩, s9⟩ := X9.twelve
    go_wp2_with fail
    go_ret
    exact ⟨rfl, bel_trans B6.out bb.out⟩
set_option maxRecDepth 10000 in
set_option maxHeartbeats 4000000 in
theorem mheld_3 {m : Mc} {x : Hp} {cs ch : Array Value} {w : World} (hm : IsM w m cs) (hx : IsH w x ch) (hE : hpE m x = 0) (hk : x.kind = 3):
    Calls Tryz.prog 4 #[.agg cs, .agg ch] w fun e w' => e = .returned (.bool true) ∧ Below w.heap.size w w' := by
  obtain ⟨⟨Y, T⟩, hYT⟩ : ∃ R, hpR m x = R := ⟨_, rfl⟩
  obtain ⟨gM, gY, -, gT, gH, g1, g2, g3, g4⟩ := hp_good hE hYT
  have HM : Hid (IsM w m cs) := hm
  have HX : Hid (IsH w x ch) := hx
  have HYT : Hid (hpR m x = (Y, T)) := hYT
  have HE : Hid (hpE m x = 0) := hE
  have hc16 : cs.size = 16 := hm.size.1
  have hh7 : ch.size = 7 := hx.size.1
  have X0 := (Box.newAt (w := w) (n := w.heap.size) rfl 33 cs).past (.cells ch 37)
  have X1 := Box.newAt (w := w.alloc (.cells cs 33)) (n := w.heap.size + 1) (by simp) 37 ch
  have BW : Hid (Below w.heap.size w ((w.alloc (.cells cs 33)).alloc (.cells ch 37))) := bel_alloc (bel_alloc (Below.refl w.heap.size w) _) _
  clear hm hx hYT hE
  go_enter Tryz.func4, Tryz.ntmps4
  go_upto_region 1 with fail
  generalize ((w.alloc (.cells cs 33)).alloc (.cells ch 37)) = W at *
  have HI : (Tryz.prog.info? 33).map (·.size) = some cs.size := by rw [infoM, hc16]
  have HJ : (Tryz.prog.info? 37).map (·.size) = some ch.size := by rw [infoH, hh7]
  go_wp2_with (first
    | fail
    | (refine wpList_load_row rfl 33 (.tmp 2) rfl w.heap.size rfl _ _ _ _ X0 Tryz.underlying33 rfl HI ?_)
    | (refine wpList_load_row rfl 37 (.tmp 3) rfl (w.heap.size + 1) rfl _ _ _ _ X1 Tryz.underlying37 rfl HJ ?_))
  refine (mDo_row (HM.out.keep BW.out) (HX.out.keep BW.out)).mono ?_
  rintro e w4 ⟨cs1, cs2, rfl, hM, hT, -, -, b4⟩
  rw [HYT.out] at hM hT
  dsimp only at hM hT
  obtain ⟨E, hEE⟩ : ∃ E, hpE m x = E := ⟨_, rfl⟩
  rw [hEE] at HE ⊢
  clear hEE
  obtain ⟨hs1, ha1⟩ := hM.size
  obtain ⟨hs2, ha2⟩ := hT.size
  have s1 := X1.lt
  have bs := b4.size
  obtain ⟨n7, hn7⟩ : ∃ n, w4.heap.size = n := ⟨_, rfl⟩
  obtain ⟨n8, hn8⟩ : ∃ n, n7 + 1 = n := ⟨_, rfl⟩
  have Z7 : Box ((w4.alloc (.cells #[.slice none 0 0, J 0, .slice none 0 0, .bool false, J 0, J 0, .slice none 0 0, J 0, J 0, J 0, .bool false, J 0, J 0, J 0, J 0, .bool false] 33)).alloc (.cells #[.bool false, .slice none 0 0, J 0, .slice none 0 0] 40)) n7 33 zeroM := (Box.newAt hn7.symm _ _).past _
  have X8 : Box ((w4.alloc (.cells #[.slice none 0 0, J 0, .slice none 0 0, .bool false, J 0, J 0, .slice none 0 0, J 0, J 0, J 0, .bool false, J 0, J 0, J 0, J 0, .bool false] 33)).alloc (.cells #[.bool false, .slice none 0 0, J 0, .slice none 0 0] 40)) n8 40 zeroT := Box.newAt (by simp; omega) _ _
  have h78 : n7 ≠ n8 := by omega
  have Z8 := X8.otherRow h78.symm cs1
  have X7 := (Z7.setRow cs1).otherRow h78 cs2
  have X8 := Z8.setRow cs2
  have K5 : Below w4.heap.size w4 ((((w4.alloc (.cells #[.slice none 0 0, J 0, .slice none 0 0, .bool false, J 0, J 0, .slice none 0 0, J 0, J 0, J 0, .bool false, J 0, J 0, J 0, J 0, .bool false] 33)).alloc (.cells #[.bool false, .slice none 0 0, J 0, .slice none 0 0] 40)).setRow n7 cs1).setRow n8 cs2) := bel_setRow (by omega) (bel_setRow (by omega) (bel_alloc (bel_alloc (Below.refl _ _) _) _) _) _
  have X0 := (X0.keep b4).keep K5
  have X1 := (X1.keep b4).keep K5
  have hM := hM.keep K5
  have hT := hT.keep K5
  have HM := HM.out.keep (bel_trans BW.out (bel_trans b4 K5))
  have HX := HX.out.keep (bel_trans BW.out (bel_trans b4 K5))
  have B5 : Hid (Below w.heap.size w ((((w4.alloc (.cells #[.slice none 0 0, J 0, .slice none 0 0, .bool false, J 0, J 0, .slice none 0 0, J 0, J 0, J 0, .bool false, J 0, J 0, J 0, J 0, .bool false] 33)).alloc (.cells #[.bool false, .slice none 0 0, J 0, .slice none 0 0] 40)).setRow n7 cs1).setRow n8 cs2)) := bel_trans BW.out (bel_trans b4 K5)
  clear K5 b4 BW
  go_upto_region 2 with (first
    | fail
    | (refine wpList_store_row rfl 33 (.tmp 5) (.tmp 15) rfl n7 cs1 rfl rfl _ _ Z7 (by rw [infoM, hs1]) (by rw [hs1]; rfl) ha1 ?_)
    | (refine wpList_store_row rfl 40 (.tmp 6) (.tmp 16) rfl n8 cs2 rfl rfl _ _ Z8 (by rw [infoTo, hs2]) (by rw [hs2]; rfl) ha2 ?_))
  clear Z7 Z8 hn7 HI HJ
  generalize ((((w4.alloc (.cells #[.slice none 0 0, J 0, .slice none 0 0, .bool false, J 0, J 0, .slice none 0 0, J 0, J 0, J 0, .bool false, J 0, J 0, J 0, J 0, .bool false] 33)).alloc (.cells #[.bool false, .slice none 0 0, J 0, .slice none 0 0] 40)).setRow n7 cs1).setRow n8 cs2) = w5 at *
  go_wp2_with fail
  refine (driven_true _).mono ?_
  rintro e w6 ⟨rfl, b6⟩
  have X0 := X0.keep b6
  have X1 := X1.keep b6
  have X7 := X7.keep b6
  have X8 := X8.keep b6
  have hM := hM.keep b6
  have hT := hT.keep b6
  have HM := HM.keep b6
  have HX := HX.keep b6
  have B6 : Hid (Below w.heap.size w w6) := bel_trans B5.out b6
  clear b6 B5 bs
  obtain rfl : E = 0 := HE.out
  have q : ((0 : Int) != 0) = false := rfl
  have HC : Hid (chkM Y = 0) := gY
  have HMY : Hid (IsM w6 Y cs1) := hM
  clear HE gY
  obtain ⟨zs, ⟨p, r, d⟩, ⟨mo, ba, l, op, oh, ot, st, fe, fp, fh, ft, lo⟩⟩ := m
  obtain ⟨zs1, ⟨p1, r1, d1⟩, ⟨mo1, ba1, l1, op1, oh1, ot1, st1, fe1, fp1, fh1, ft1, lo1⟩⟩ := Y
  obtain ⟨rfl, rfl, rfl⟩ : p1 = p ∧ r1 = r ∧ d1 = d := by have := gH (by omega); simpa using this
  have e2 := g3 hk
  simp only [Br.mk.injEq] at e2
  obtain ⟨rfl, rfl, -, rfl, rfl, rfl, rfl, rfl, -, -, -, -⟩ := e2
  have hl6 : l.length ≤ 6 := (chkC_zero.1 (chkB_ok (chkM_ok gM).2.2).2.2.2.1).1
  clear gT gH g1 g2 g3 g4 gM
  obtain ⟨a1, n1, c1, a2, n2, c2, a3, n3, c3, rfl, h1, h2, h3⟩ := HM
  obtain ⟨b1, k1, e1, b2, k2, e2, b3, k3, e3, rfl, u1, u2, u3⟩ := hM
  obtain ⟨a6, m6, c6, rfl, -⟩ := HX
  obtain ⟨a4, n4, c4, a5, n5, c5, rfl, d4, t5⟩ := hT
  dsimp only at h1 h2 h3 u1 u2 u3 d4 t5 X0 X1 X7 X8
  rw [hk] at X1
  have hn3 : n3 = l.length := by obtain ⟨_, _, e, _⟩ := h3; simp only [Value.slice.injEq] at e; exact e.2.1
  have hk3 : k3 = l1.length := by obtain ⟨_, _, e, _⟩ := u3; simp only [Value.slice.injEq] at e; exact e.2.1
  have H1 : Hid (Sl w6 (.slice a1 n1 c1) zs) := h1
  have H2 : Hid (Sl w6 (.slice a2 n2 c2) r1) := h2
  have H3 : Hid (Ls w6 (.slice a3 n3 c3) l) := h3
  have U1 : Hid (Sl w6 (.slice b1 k1 e1) zs1) := u1
  have U2 : Hid (Sl w6 (.slice b2 k2 e2) r1) := u2
  have U3 : Hid (Ls w6 (.slice b3 k3 e3) l1) := u3
  have D4 : Hid (Sl w6 (.slice a4 n4 c4) T.dat) := d4
  have T5 : Hid (Ts w6 (.slice a5 n5 c5) T.tch) := t5
  clear h1 h2 h3 u1 u2 u3 d4 t5 hk hc16 hh7 hs1 ha1 hs2 ha2
  clear hn3 hk3 hl6
  go_wp2_with (first
    | fail
    | (refine wpList_load_row rfl 33 (.tmp 5) rfl n7 rfl _ _ _ _ X7 Tryz.underlying33 rfl (by rw [infoM]; rfl) ?_))
  refine (mCheck_row HMY.out).mono ?_
  rintro e w7 ⟨rfl, b7⟩
  rw [HC.out]
  have bb : Hid (Below w6.heap.size w6 w7) := b7
  have X0 := X0.keep b7
  have X1 := X1.keep b7
  have X7 := X7.keep b7
  have X8 := X8.keep b7
  clear b7 HMY HC
  obtain ⟨⟨i0, i1, i2, i3⟩, ⟨j0, j1, j2, j3, j4, j5, j6, j7, j8, j9, j10, j11⟩, si⟩ := X0.sixteen
  obtain ⟨⟨f0, f1, f2, f3⟩, ⟨g0, g1, g2, g3, g4, g5, g6, g7, g8, g9, g10, g11⟩, sf⟩ := X7.sixteen
  obtain ⟨⟨y0, y1, y2, y3, y4, y5, y6⟩, sH⟩ := X1.seven
  obtain ⟨z0, z1, z2, z3, -, -, -, -, s8⟩ := X8.four
  go_wp2_with fail
  refine (hSame_any p1 _ r1 d1 p1 _ r1 d1 _ (H2.out.keep bb.out) (U2.out.keep bb.out)).mono ?_
  rintro e w8 ⟨rfl, b8⟩
  clear i0 i1 i2 i3 j0 j1 j2 j3 j4 j5 j6 j7 j8 j9 j10 j11 si f0 f1 f2 f3 g0 g1 g2 g3 g4 g5 g6 g7 g8 g9 g10 g11 sf y0 y1 y2 y3 y4 y5 y6 sH z0 z1 z2 z3 s8
  have X0 := X0.keep b8
  have X1 := X1.keep b8
  have X7 := X7.keep b8
  have X8 := X8.keep b8
  have bb : Hid (Below w6.heap.size w6 w8) := bel_trans bb.out b8
  clear b8
  obtain ⟨⟨i0, i1, i2, i3⟩, ⟨j0, j1, j2, j3, j4, j5, j6, j7, j8, j9, j10, j11⟩, si⟩ := X0.sixteen
  obtain ⟨⟨f0, f1, f2, f3⟩, ⟨g0, g1, g2, g3, g4, g5, g6, g7, g8, g9, g10, g11⟩, sf⟩ := X7.sixteen
  obtain ⟨⟨y0, y1, y2, y3, y4, y5, y6⟩, sH⟩ := X1.seven
  obtain ⟨z0, z1, z2, z3, -, -, -, -, s8⟩ := X8.four
  rw [show sameH ⟨p1, r1, d1⟩ ⟨p1, r1, d1⟩ = true by simp [sameH]]
  go_upto_region 15 with fail
  clear i0 i1 i2 i3 j0 j1 j2 j3 j4 j5 j6 j7 j8 j9 j10 j11 si f0 f1 f2 f3 g0 g1 g2 g3 g4 g5 g6 g7 g8 g9 g10 g11 sf y0 y1 y2 y3 y4 y5 y6 sH z0 z1 z2 z3 s8
  have hN9 : w6.heap.size ≤ w8.heap.size := bb.out.size
  have X9 : Box (w8.alloc (.cells #[J mo1, J ba1, .slice b3 k3 e3, J op1, J oh1, J ot1, .bool st1, J fe1, J fp1, J fh1, J ft1, .bool lo1] 31)) w8.heap.size 31 #[J mo1, J ba1, .slice b3 k3 e3, J op1, J oh1, J ot1, .bool st1, J fe1, J fp1, J fh1, J ft1, .bool lo1] := Box.newAt rfl _ _
  have bb9 : Below w8.heap.size w8 (w8.alloc (.cells #[J mo1, J ba1, .slice b3 k3 e3, J op1, J oh1, J ot1, .bool st1, J fe1, J fp1, J fh1, J ft1, .bool lo1] 31)) := bel_alloc (Below.refl _ _) _
  have bb : Hid (Below w6.heap.size w6 (w8.alloc (.cells #[J mo1, J ba1, .slice b3 k3 e3, J op1, J oh1, J ot1, .bool st1, J fe1, J fp1, J fh1, J ft1, .bool lo1] 31))) := bel_trans bb.out bb9
  have s0 := X0.lt
  have s7 := X7.lt
  have X0 := X0.keep bb9
  have X7 := X7.keep bb9
  clear bb9 X1 X8
  generalize (w8.alloc (.cells #[J mo1, J ba1, .slice b3 k3 e3, J op1, J oh1, J ot1, .bool st1, J fe1, J fp1, J fh1, J ft1, .bool lo1] 31)) = V at *
  generalize w8.heap.size = N9 at *
  go_cut [] from 109 to 120 (fun wx => Box wx N9 31 #[J mo1, J ba1, .slice a3 n3 c3, J op1, J oh1, J ot1, .bool st1, J fe1, J fp, J fh, J ft, .bool lo] ∧ KeptB (fun q => q = N9) V wx ∧ Below w6.heap.size w6 wx)
  case first =>
    refine wp_region_held_drew (S := fun w' => Box w' w.heap.size 33 #[.slice a1 n1 c1, J p1, .slice a2 n2 c2, .bool d1, J mo1, J ba1, .slice a3 n3 c3, J op1, J oh1, J ot1, .bool st1, J fe1, J fp, J fh, J ft, .bool lo]) (by kernel_rfl) X0.drew (fun hHeld => ?_)
    refine wpHeld_takeL (i := 0) (v := ?_) rfl (by kernel_rfl) (by kernel_rfl) (by kernel_rfl) (fun _ _ _ h => h) (Or.inl ⟨by kernel_rfl, ?_⟩) (by assumption) ?_
    rotate_left 1
    focus (intro wz hSz; (obtain ⟨⟨i0, i1, i2, i3⟩, ⟨j0, j1, j2, j3, j4, j5, j6, j7, j8, j9, j10, j11⟩, si⟩ := Box.sixteen hSz); go_simp; (try with_reducible rfl))
    simp only [nmz]
    refine wpHeld_takeL (i := 1) (v := ?_) rfl (by kernel_rfl) (by kernel_rfl) (by kernel_rfl) (fun _ _ _ h => h) (Or.inl ⟨by kernel_rfl, ?_⟩) (by assumption) ?_
    rotate_left 1
    focus (intro wz hSz; (obtain ⟨⟨i0, i1, i2, i3⟩, ⟨j0, j1, j2, j3, j4, j5, j6, j7, j8, j9, j10, j11⟩, si⟩ := Box.sixteen hSz); go_simp; (try with_reducible rfl))
    simp only [nmz]
    refine wpHeld_takeL (i := 2) (v := ?_) rfl (by kernel_rfl) (by kernel_rfl) (by kernel_rfl) (fun _ _ _ h => h) (Or.inl ⟨by kernel_rfl, ?_⟩) (by assumption) ?_
    rotate_left 1
    focus (intro wz hSz; (obtain ⟨⟨i0, i1, i2, i3⟩, ⟨j0, j1, j2, j3, j4, j5, j6, j7, j8, j9, j10, j11⟩, si⟩ := Box.sixteen hSz); go_simp; (try with_reducible rfl))
    simp only [nmz]
    refine wpHeld_takeL (i := 3) (v := ?_) rfl (by kernel_rfl) (by kernel_rfl) (by kernel_rfl) (fun _ _ _ h => h) (Or.inl ⟨by kernel_rfl, ?_⟩) (by assumption) ?_
    rotate_left 1
    focus (intro wz hSz; (obtain ⟨⟨i0, i1, i2, i3⟩, ⟨j0, j1, j2, j3, j4, j5, j6, j7, j8, j9, j10, j11⟩, si⟩ := Box.sixteen hSz); go_simp; (try with_reducible rfl))
    simp only [nmz]
    refine wpHeld_takeL (i := 4) (v := ?_) rfl (by kernel_rfl) (by kernel_rfl) (by kernel_rfl) (fun _ _ _ h => h) (Or.inl ⟨by kernel_rfl, ?_⟩) (by assumption) ?_
    rotate_left 1
    focus (intro wz hSz; (obtain ⟨⟨i0, i1, i2, i3⟩, ⟨j0, j1, j2, j3, j4, j5, j6, j7, j8, j9, j10, j11⟩, si⟩ := Box.sixteen hSz); go_simp; (try with_reducible rfl))
    simp only [nmz]
    refine wpHeld_takeL (i := 5) (v := ?_) rfl (by kernel_rfl) (by kernel_rfl) (by kernel_rfl) (fun _ _ _ h => h) (Or.inl ⟨by kernel_rfl, ?_⟩) (by assumption) ?_
    rotate_left 1
    focus (intro wz hSz; (obtain ⟨⟨i0, i1, i2, i3⟩, ⟨j0, j1, j2, j3, j4, j5, j6, j7, j8, j9, j10, j11⟩, si⟩ := Box.sixteen hSz); go_simp; (try with_reducible rfl))
    simp only [nmz]
    refine wpHeld_takeL (i := 6) (v := ?_) rfl (by kernel_rfl) (by kernel_rfl) (by kernel_rfl) (fun _ _ _ h => h) (Or.inl ⟨by kernel_rfl, ?_⟩) (by assumption) ?_
    rotate_left 1
    focus (intro wz hSz; (obtain ⟨⟨i0, i1, i2, i3⟩, ⟨j0, j1, j2, j3, j4, j5, j6, j7, j8, j9, j10, j11⟩, si⟩ := Box.sixteen hSz); go_simp; (try with_reducible rfl))
    simp only [nmz]
    refine wpHeld_takeL (i := 7) (v := ?_) rfl (by kernel_rfl) (by kernel_rfl) (by kernel_rfl) (fun _ _ _ h => h) (Or.inl ⟨by kernel_rfl, ?_⟩) (by assumption) ?_
    rotate_left 1
    focus (intro wz hSz; (obtain ⟨⟨i0, i1, i2, i3⟩, ⟨j0, j1, j2, j3, j4, j5, j6, j7, j8, j9, j10, j11⟩, si⟩ := Box.sixteen hSz); go_simp; (try with_reducible rfl))
    simp only [nmz]
    refine wpHeld_takeL (i := 8) (v := ?_) rfl (by kernel_rfl) (by kernel_rfl) (by kernel_rfl) (fun _ _ _ h => h) (Or.inl ⟨by kernel_rfl, ?_⟩) (by assumption) ?_
    rotate_left 1
    focus (intro wz hSz; (obtain ⟨⟨i0, i1, i2, i3⟩, ⟨j0, j1, j2, j3, j4, j5, j6, j7, j8, j9, j10, j11⟩, si⟩ := Box.sixteen hSz); go_simp; (try with_reducible rfl))
    simp only [nmz]
    have Y9 := X9.drew
    have KK : Hid (KeptB (fun q => q = N9) V V.drew) := (KeptB.refl _ _).drew
    have BB : Hid (Below w6.heap.size w6 V.drew) := Below.drew bb.out
    have hne : w.heap.size ≠ N9 := by omega
    generalize V.drew = V0 at *
    refine tkH 9 rfl (by kernel_rfl) (fun _ _ _ h => h) (by assumption) (by intro wz hSz; (try dsimp only at hSz); go_simp; (try with_reducible rfl)) ?_
    simp only [nmz]
    obtain ⟨⟨v0, v1, v2, v3, v4, v5, v6, v7, v8, v9, v10, v11⟩, s9⟩ := Y9.twelve
    have mk := Y9.marksOf
    refine wpHeld_oneL (i := 10) (by kernel_rfl) (by rfl) (fun K hK => ?_)
    go_simp
    refine hK.out _ _ (Box.other (p := ⟨N9, 2, none⟩) hHeld hne (.slice a3 n3 c3)) (fun hHeld2 => ?_)
    have Y9 := (Y9.set 2 (.slice a3 n3 c3))
    have KK : Hid (KeptB (fun q => q = N9) V _) := (KeptB.setCell (p := ⟨N9, 2, none⟩) KK.out (.inl rfl) (.slice a3 n3 c3))
    have BB : Hid (Below w6.heap.size w6 _) := (bel_set (p := ⟨N9, 2, none⟩) hN9 BB.out (.slice a3 n3 c3))
    clear hK K hHeld v0 v1 v2 v3 v4 v5 v6 v7 v8 v9 v10 v11 s9 mk
    have hHeld := hHeld2
    clear hHeld2
    (try simp only [Act.put])
    refine tkH 11 rfl (by kernel_rfl) (fun _ _ _ h => h) (by assumption) (by intro wz hSz; (try dsimp only at hSz); go_simp; (try with_reducible rfl)) ?_
    simp only [nmz]
    obtain ⟨⟨v0, v1, v2, v3, v4, v5, v6, v7, v8, v9, v10, v11⟩, s9⟩ := Y9.twelve
    have mk := Y9.marksOf
    refine wpHeld_oneL (i := 12) (by kernel_rfl) (by rfl) (fun K hK => ?_)
    go_simp
    refine hK.out _ _ (Box.other (p := ⟨N9, 10, none⟩) (Box.other (p := ⟨N9, 9, none⟩) (Box.other (p := ⟨N9, 8, none⟩) hHeld hne (J fp)) hne (J fh)) hne (J ft)) (fun hHeld2 => ?_)
    have Y9 := (((Y9.set 8 (J fp)).set 9 (J fh)).set 10 (J ft))
    have KK : Hid (KeptB (fun q => q = N9) V _) := (KeptB.setCell (p := ⟨N9, 10, none⟩) (KeptB.setCell (p := ⟨N9, 9, none⟩) (KeptB.setCell (p := ⟨N9, 8, none⟩) KK.out (.inl rfl) (J fp)) (.inl rfl) (J fh)) (.inl rfl) (J ft))
    have BB : Hid (Below w6.heap.size w6 _) := (bel_set (p := ⟨N9, 10, none⟩) hN9 (bel_set (p := ⟨N9, 9, none⟩) hN9 (bel_set (p := ⟨N9, 8, none⟩) hN9 BB.out (J fp)) (J fh)) (J ft))
    clear hK K hHeld v0 v1 v2 v3 v4 v5 v6 v7 v8 v9 v10 v11 s9 mk
    have hHeld := hHeld2
    clear hHeld2
    (try simp only [Act.put])
    refine tkH 13 rfl (by kernel_rfl) (fun _ _ _ h => h) (by assumption) (by intro wz hSz; (try dsimp only at hSz); go_simp; (try with_reducible rfl)) ?_
    simp only [nmz]
    obtain ⟨⟨v0, v1, v2, v3, v4, v5, v6, v7, v8, v9, v10, v11⟩, s9⟩ := Y9.twelve
    have mk := Y9.marksOf
    refine wpHeld_oneL (i := 14) (by kernel_rfl) (by rfl) (fun K hK => ?_)
    go_simp
    refine hK.out _ _ (Box.other (p := ⟨N9, 11, none⟩) hHeld hne (.bool lo)) (fun hHeld2 => ?_)
    have Y9 := (Y9.set 11 (.bool lo))
    have KK : Hid (KeptB (fun q => q = N9) V _) := (KeptB.setCell (p := ⟨N9, 11, none⟩) KK.out (.inl rfl) (.bool lo))
    have BB : Hid (Below w6.heap.size w6 _) := (bel_set (p := ⟨N9, 11, none⟩) hN9 BB.out (.bool lo))
    clear hK K hHeld v0 v1 v2 v3 v4 v5 v6 v7 v8 v9 v10 v11 s9 mk
    have hHeld := hHeld2
    clear hHeld2
    (try simp only [Act.put])
    refine wpAnyH_done (by kernel_rfl) ?_ _
    go_wp2_with fail
    go_meet
    exact ⟨Y9, KK.out, BB.out⟩
  case rest =>
    obtain ⟨X9, KK, bc⟩ := hcut
    have X0 := X0.kept KK (by omega)
    have X7 := X7.kept KK (by omega)
    have bb : Hid (Below w6.heap.size w6 wc) := bc
    clear bc KK
    obtain ⟨⟨i0, i1, i2, i3⟩, ⟨j0, j1, j2, j3, j4, j5, j6, j7, j8, j9, j10, j11⟩, si⟩ := X0.sixteen
    obtain ⟨⟨f0, f1, f2, f3⟩, ⟨g0, g1, g2, g3, g4, g5, g6, g7, g8, g9, g10, g11⟩, sf⟩ := X7.sixteen
    obtain ⟨⟨v0, v1, v2, v3, v4, v5, v6, v7, v8, v9, v10, v11⟩, s9⟩ := X9.twelve
    go_wp2_with fail
    refine (bSame_any mo1 ba1 op1 oh1 ot1 fe1 fp fh ft st1 lo (.slice a3 n3 c3) l mo1 ba1 op1 oh1 ot1 fe1 fp fh ft st1 lo (.slice a3 n3 c3) l _ (H3.out.keep bb.out) (H3.out.keep bb.out)).mono ?_
    rintro e wT ⟨rfl, bT⟩
    rw [sameBr_self]
    clear i0 i1 i2 i3 j0 j1 j2 j3 j4 j5 j6 j7 j8 j9 j10 j11 si f0 f1 f2 f3 g0 g1 g2 g3 g4 g5 g6 g7 g8 g9 g10 g11 sf v0 v1 v2 v3 v4 v5 v6 v7 v8 v9 v10 v11 s9
    have X0 := X0.keep bT
    have X7 := X7.keep bT
    have X9 := X9.keep bT
    have bb : Hid (Below w6.heap.size w6 wT) := bel_trans bb.out bT
    clear bT
    obtain ⟨⟨i0, i1, i2, i3⟩, ⟨j0, j1, j2, j3, j4, j5, j6, j7, j8, j9, j10, j11⟩, si⟩ := X0.sixteen
    obtain ⟨⟨f0, f1, f2, f3⟩, ⟨g0, g1, g2, g3, g4, g5, g6, g7, g8, g9, g10, g11⟩, sf⟩ := X7.sixteen
    obtain ⟨⟨v0, v1, v2, v3, v4, v5, v6, v7, v8, v9, v10, v11⟩, s9⟩ := X9.twelve
    go_wp2_with fail
    go_ret
    exact ⟨rfl, bel_trans B6.out bb.out⟩
set_option maxRecDepth 10000 in
set_option maxHeartbeats 4000000 in
theorem mheld_4 {m : Mc} {x : Hp} {cs ch : Array Value} {w : World} (hm : IsM w m cs) (hx : IsH w x ch) (hE : hpE m x = 0) (hk : x.kind = 4):
    Calls Tryz.prog 4 #[.agg cs, .agg ch] w fun e w' => e = .returned (.bool true) ∧ Below w.heap.size w w' := by
  obtain ⟨⟨Y, T⟩, hYT⟩ : ∃ R, hpR m x = R := ⟨_, rfl⟩
  obtain ⟨gM, gY, -, gT, gH, g1, g2, g3, g4⟩ := hp_good hE hYT
  have HM : Hid (IsM w m cs) := hm
  have HX : Hid (IsH w x ch) := hx
  have HYT : Hid (hpR m x = (Y, T)) := hYT
  have HE : Hid (hpE m x = 0) := hE
  have hc16 : cs.size = 16 := hm.size.1
  have hh7 : ch.size = 7 := hx.size.1
  have X0 := (Box.newAt (w := w) (n := w.heap.size) rfl 33 cs).past (.cells ch 37)
  have X1 := Box.newAt (w := w.alloc (.cells cs 33)) (n := w.heap.size + 1) (by simp) 37 ch
  have BW : Hid (Below w.heap.size w ((w.alloc (.cells cs 33)).alloc (.cells ch 37))) := bel_alloc (bel_alloc (Below.refl w.heap.size w) _) _
  clear hm hx hYT hE
  go_enter Tryz.func4, Tryz.ntmps4
  go_upto_region 1 with fail
  generalize ((w.alloc (.cells cs 33)).alloc (.cells ch 37)) = W at *
  have HI : (Tryz.prog.info? 33).map (·.size) = some cs.size := by rw [infoM, hc16]
  have HJ : (Tryz.prog.info? 37).map (·.size) = some ch.size := by rw [infoH, hh7]
  go_wp2_with (first
    | fail
    | (refine wpList_load_row rfl 33 (.tmp 2) rfl w.heap.size rfl _ _ _ _ X0 Tryz.underlying33 rfl HI ?_)
    | (refine wpList_load_row rfl 37 (.tmp 3) rfl (w.heap.size + 1) rfl _ _ _ _ X1 Tryz.underlying37 rfl HJ ?_))
  refine (mDo_row (HM.out.keep BW.out) (HX.out.keep BW.out)).mono ?_
  rintro e w4 ⟨cs1, cs2, rfl, hM, hT, -, -, b4⟩
  rw [HYT.out] at hM hT
  dsimp only at hM hT
  obtain ⟨E, hEE⟩ : ∃ E, hpE m x = E := ⟨_, rfl⟩
  rw [hEE] at HE ⊢
  clear hEE
  obtain ⟨hs1, ha1⟩ := hM.size
  obtain ⟨hs2, ha2⟩ := hT.size
  have s1 := X1.lt
  have bs := b4.size
  obtain ⟨n7, hn7⟩ : ∃ n, w4.heap.size = n := ⟨_, rfl⟩
  obtain ⟨n8, hn8⟩ : ∃ n, n7 + 1 = n := ⟨_, rfl⟩
  have Z7 : Box ((w4.alloc (.cells #[.slice none 0 0, J 0, .slice none 0 0, .bool false, J 0, J 0, .slice none 0 0, J 0, J 0, J 0, .bool false, J 0, J 0, J 0, J 0, .bool false] 33)).alloc (.cells #[.bool false, .slice none 0 0, J 0, .slice none 0 0] 40)) n7 33 zeroM := (Box.newAt hn7.symm _ _).past _
  have X8 : Box ((w4.alloc (.cells #[.slice none 0 0, J 0, .slice none 0 0, .bool false, J 0, J 0, .slice none 0 0, J 0, J 0, J 0, .bool false, J 0, J 0, J 0, J 0, .bool false] 33)).alloc (.cells #[.bool false, .slice none 0 0, J 0, .slice none 0 0] 40)) n8 40 zeroT := Box.newAt (by simp; omega) _ _
  have h78 : n7 ≠ n8 := by omega
  have Z8 := X8.otherRow h78.symm cs1
  have X7 := (Z7.setRow cs1).otherRow h78 cs2
  have X8 := Z8.setRow cs2
  have K5 : Below w4.heap.size w4 ((((w4.alloc (.cells #[.slice none 0 0, J 0, .slice none 0 0, .bool false, J 0, J 0, .slice none 0 0, J 0, J 0, J 0, .bool false, J 0, J 0, J 0, J 0, .bool false] 33)).alloc (.cells #[.bool false, .slice none 0 0, J 0, .slice none 0 0] 40)).setRow n7 cs1).setRow n8 cs2) := bel_setRow (by omega) (bel_setRow (by omega) (bel_alloc (bel_alloc (Below.refl _ _) _) _) _) _
  have X0 := (X0.keep b4).keep K5
  have X1 := (X1.keep b4).keep K5
  have hM := hM.keep K5
  have hT := hT.keep K5
  have HM := HM.out.keep (bel_trans BW.out (bel_trans b4 K5))
  have HX := HX.out.keep (bel_trans BW.out (bel_trans b4 K5))
  have B5 : Hid (Below w.heap.size w ((((w4.alloc (.cells #[.slice none 0 0, J 0, .slice none 0 0, .bool false, J 0, J 0, .slice none 0 0, J 0, J 0, J 0, .bool false, J 0, J 0, J 0, J 0, .bool false] 33)).alloc (.cells #[.bool false, .slice none 0 0, J 0, .slice none 0 0] 40)).setRow n7 cs1).setRow n8 cs2)) := bel_trans BW.out (bel_trans b4 K5)
  clear K5 b4 BW
  go_upto_region 2 with (first
    | fail
    | (refine wpList_store_row rfl 33 (.tmp 5) (.tmp 15) rfl n7 cs1 rfl rfl _ _ Z7 (by rw [infoM, hs1]) (by rw [hs1]; rfl) ha1 ?_)
    | (refine wpList_store_row rfl 40 (.tmp 6) (.tmp 16) rfl n8 cs2 rfl rfl _ _ Z8 (by rw [infoTo, hs2]) (by rw [hs2]; rfl) ha2 ?_))
  clear Z7 Z8 hn7 HI HJ
  generalize ((((w4.alloc (.cells #[.slice none 0 0, J 0, .slice none 0 0, .bool false, J 0, J 0, .slice none 0 0, J 0, J 0, J 0, .bool false, J 0, J 0, J 0, J 0, .bool false] 33)).alloc (.cells #[.bool false, .slice none 0 0, J 0, .slice none 0 0] 40)).setRow n7 cs1).setRow n8 cs2) = w5 at *
  go_wp2_with fail
  refine (driven_true _).mono ?_
  rintro e w6 ⟨rfl, b6⟩
  have X0 := X0.keep b6
  have X1 := X1.keep b6
  have X7 := X7.keep b6
  have X8 := X8.keep b6
  have hM := hM.keep b6
  have hT := hT.keep b6
  have HM := HM.keep b6
  have HX := HX.keep b6
  have B6 : Hid (Below w.heap.size w w6) := bel_trans B5.out b6
  clear b6 B5 bs
  obtain rfl : E = 0 := HE.out
  have q : ((0 : Int) != 0) = false := rfl
  have HC : Hid (chkM Y = 0) := gY
  have HMY : Hid (IsM w6 Y cs1) := hM
  clear HE gY
  obtain rfl : T = T0 := gT (by omega)
  obtain ⟨zs, ⟨p, r, d⟩, ⟨mo, ba, l, op, oh, ot, st, fe, fp, fh, ft, lo⟩⟩ := m
  obtain ⟨zs1, ⟨p1, r1, d1⟩, ⟨mo1, ba1, l1, op1, oh1, ot1, st1, fe1, fp1, fh1, ft1, lo1⟩⟩ := Y
  obtain ⟨rfl, rfl, rfl⟩ : p1 = p ∧ r1 = r ∧ d1 = d := by have := gH (by omega); simpa using this
  obtain ⟨e1, e2, hlen⟩ := g4 hk
  simp only [Br.with, Br.mk.injEq] at e1 e2 hlen
  obtain rfl := e1
  obtain ⟨rfl, rfl, -, rfl, rfl, rfl, rfl, rfl, rfl, rfl, rfl, rfl⟩ := e2
  have hl6 : l.length ≤ 6 := (chkC_zero.1 (chkB_ok (chkM_ok gM).2.2).2.2.2.1).1
  clear gT gH g1 g2 g3 g4 gM
  obtain ⟨a1, n1, c1, a2, n2, c2, a3, n3, c3, rfl, h1, h2, h3⟩ := HM
  obtain ⟨b1, k1, e1, b2, k2, e2, b3, k3, e3, rfl, u1, u2, u3⟩ := hM
  obtain ⟨a6, m6, c6, rfl, -⟩ := HX
  obtain ⟨a4, n4, c4, a5, n5, c5, rfl, d4, t5⟩ := hT
  dsimp only at h1 h2 h3 u1 u2 u3 d4 t5 X0 X1 X7 X8
  rw [hk] at X1
  have hn3 : n3 = l.length := by obtain ⟨_, _, e, _⟩ := h3; simp only [Value.slice.injEq] at e; exact e.2.1
  have hk3 : k3 = l1.length := by obtain ⟨_, _, e, _⟩ := u3; simp only [Value.slice.injEq] at e; exact e.2.1
  have H1 : Hid (Sl w6 (.slice a1 n1 c1) zs1) := h1
  have H2 : Hid (Sl w6 (.slice a2 n2 c2) r1) := h2
  have H3 : Hid (Ls w6 (.slice a3 n3 c3) l) := h3
  have U1 : Hid (Sl w6 (.slice b1 k1 e1) zs1) := u1
  have U2 : Hid (Sl w6 (.slice b2 k2 e2) r1) := u2
  have U3 : Hid (Ls w6 (.slice b3 k3 e3) l1) := u3
  have D4 : Hid (Sl w6 (.slice a4 n4 c4) []) := d4
  have T5 : Hid (Ts w6 (.slice a5 n5 c5) []) := t5
  clear h1 h2 h3 u1 u2 u3 d4 t5 hk hc16 hh7 hs1 ha1 hs2 ha2
  have hle : (k3 : Int) = n3 - 1 := by omega
  have hb6 : n3 ≤ 6 := by omega
  clear hn3 hk3 hl6 hlen
  go_wp2_with (first
    | fail
    | (refine wpList_load_row rfl 33 (.tmp 5) rfl n7 rfl _ _ _ _ X7 Tryz.underlying33 rfl (by rw [infoM]; rfl) ?_))
  refine (mCheck_row HMY.out).mono ?_
  rintro e w7 ⟨rfl, b7⟩
  rw [HC.out]
  have bb : Hid (Below w6.heap.size w6 w7) := b7
  have X0 := X0.keep b7
  have X1 := X1.keep b7
  have X7 := X7.keep b7
  have X8 := X8.keep b7
  clear b7 HMY HC
  obtain ⟨⟨i0, i1, i2, i3⟩, ⟨j0, j1, j2, j3, j4, j5, j6, j7, j8, j9, j10, j11⟩, si⟩ := X0.sixteen
  obtain ⟨⟨f0, f1, f2, f3⟩, ⟨g0, g1, g2, g3, g4, g5, g6, g7, g8, g9, g10, g11⟩, sf⟩ := X7.sixteen
  obtain ⟨⟨y0, y1, y2, y3, y4, y5, y6⟩, sH⟩ := X1.seven
  obtain ⟨z0, z1, z2, z3, -, -, -, -, s8⟩ := X8.four
  go_wp2_with fail
  refine (sameTold_eq false _ _ [] 0 _ _ [] _ (D4.out.keep bb.out) (Sl.nil _ none 0) (T5.out.keep bb.out) (Ts.nothing _)).mono ?_
  rintro e w8 ⟨rfl, b8⟩
  clear i0 i1 i2 i3 j0 j1 j2 j3 j4 j5 j6 j7 j8 j9 j10 j11 si f0 f1 f2 f3 g0 g1 g2 g3 g4 g5 g6 g7 g8 g9 g10 g11 sf y0 y1 y2 y3 y4 y5 y6 sH z0 z1 z2 z3 s8
  have X0 := X0.keep b8
  have X1 := X1.keep b8
  have X7 := X7.keep b8
  have X8 := X8.keep b8
  have bb : Hid (Below w6.heap.size w6 w8) := bel_trans bb.out b8
  clear b8
  obtain ⟨⟨i0, i1, i2, i3⟩, ⟨j0, j1, j2, j3, j4, j5, j6, j7, j8, j9, j10, j11⟩, si⟩ := X0.sixteen
  obtain ⟨⟨f0, f1, f2, f3⟩, ⟨g0, g1, g2, g3, g4, g5, g6, g7, g8, g9, g10, g11⟩, sf⟩ := X7.sixteen
  obtain ⟨⟨y0, y1, y2, y3, y4, y5, y6⟩, sH⟩ := X1.seven
  obtain ⟨z0, z1, z2, z3, -, -, -, -, s8⟩ := X8.four
  go_wp2_with fail
  refine (hSame_any p1 _ r1 d1 p1 _ r1 d1 _ (H2.out.keep bb.out) (U2.out.keep bb.out)).mono ?_
  rintro e w9 ⟨rfl, b9⟩
  clear i0 i1 i2 i3 j0 j1 j2 j3 j4 j5 j6 j7 j8 j9 j10 j11 si f0 f1 f2 f3 g0 g1 g2 g3 g4 g5 g6 g7 g8 g9 g10 g11 sf y0 y1 y2 y3 y4 y5 y6 sH z0 z1 z2 z3 s8
  have X0 := X0.keep b9
  have X1 := X1.keep b9
  have X7 := X7.keep b9
  have X8 := X8.keep b9
  have bb : Hid (Below w6.heap.size w6 w9) := bel_trans bb.out b9
  clear b9
  obtain ⟨⟨i0, i1, i2, i3⟩, ⟨j0, j1, j2, j3, j4, j5, j6, j7, j8, j9, j10, j11⟩, si⟩ := X0.sixteen
  obtain ⟨⟨f0, f1, f2, f3⟩, ⟨g0, g1, g2, g3, g4, g5, g6, g7, g8, g9, g10, g11⟩, sf⟩ := X7.sixteen
  obtain ⟨⟨y0, y1, y2, y3, y4, y5, y6⟩, sH⟩ := X1.seven
  obtain ⟨z0, z1, z2, z3, -, -, -, -, s8⟩ := X8.four
  rw [show sameH ⟨p1, r1, d1⟩ ⟨p1, r1, d1⟩ = true by simp [sameH]]
  go_upto_region 19 with fail
  clear i0 i1 i2 i3 j0 j1 j2 j3 j4 j5 j6 j7 j8 j9 j10 j11 si f0 f1 f2 f3 g0 g1 g2 g3 g4 g5 g6 g7 g8 g9 g10 g11 sf y0 y1 y2 y3 y4 y5 y6 sH z0 z1 z2 z3 s8
  have hN9 : w6.heap.size ≤ w9.heap.size := bb.out.size
  have X9 : Box (w9.alloc (.cells #[J mo1, J ba1, .slice a3 n3 c3, J op1, J oh1, J ot1, .bool st1, J fe1, J fp1, J fh1, J ft1, .bool lo1] 31)) w9.heap.size 31 #[J mo1, J ba1, .slice a3 n3 c3, J op1, J oh1, J ot1, .bool st1, J fe1, J fp1, J fh1, J ft1, .bool lo1] := Box.newAt rfl _ _
  have bb9 : Below w9.heap.size w9 (w9.alloc (.cells #[J mo1, J ba1, .slice a3 n3 c3, J op1, J oh1, J ot1, .bool st1, J fe1, J fp1, J fh1, J ft1, .bool lo1] 31)) := bel_alloc (Below.refl _ _) _
  have bb : Hid (Below w6.heap.size w6 (w9.alloc (.cells #[J mo1, J ba1, .slice a3 n3 c3, J op1, J oh1, J ot1, .bool st1, J fe1, J fp1, J fh1, J ft1, .bool lo1] 31))) := bel_trans bb.out bb9
  have s0 := X0.lt
  have s7 := X7.lt
  have X0 := X0.keep bb9
  have X7 := X7.keep bb9
  clear bb9 X1 X8
  generalize (w9.alloc (.cells #[J mo1, J ba1, .slice a3 n3 c3, J op1, J oh1, J ot1, .bool st1, J fe1, J fp1, J fh1, J ft1, .bool lo1] 31)) = V at *
  generalize w9.heap.size = N9 at *
  obtain ⟨⟨i0, i1, i2, i3⟩, ⟨j0, j1, j2, j3, j4, j5, j6, j7, j8, j9, j10, j11⟩, si⟩ := X0.sixteen
  obtain ⟨⟨f0, f1, f2, f3⟩, ⟨g0, g1, g2, g3, g4, g5, g6, g7, g8, g9, g10, g11⟩, sf⟩ := X7.sixteen
  obtain ⟨⟨v0, v1, v2, v3, v4, v5, v6, v7, v8, v9, v10, v11⟩, s9⟩ := X9.twelve
  go_wp2_with fail
  refine (same_any _ _ zs1 zs1 _ (H1.out.keep bb.out) (U1.out.keep bb.out)).mono ?_
  rintro e wS ⟨rfl, bS⟩
  rw [show decide (zs1 = zs1) = true by simp]
  clear i0 i1 i2 i3 j0 j1 j2 j3 j4 j5 j6 j7 j8 j9 j10 j11 si f0 f1 f2 f3 g0 g1 g2 g3 g4 g5 g6 g7 g8 g9 g10 g11 sf v0 v1 v2 v3 v4 v5 v6 v7 v8 v9 v10 v11 s9
  have X0 := X0.keep bS
  have X7 := X7.keep bS
  have X9 := X9.keep bS
  have bb : Hid (Below w6.heap.size w6 wS) := bel_trans bb.out bS
  clear bS
  obtain ⟨⟨i0, i1, i2, i3⟩, ⟨j0, j1, j2, j3, j4, j5, j6, j7, j8, j9, j10, j11⟩, si⟩ := X0.sixteen
  obtain ⟨⟨f0, f1, f2, f3⟩, ⟨g0, g1, g2, g3, g4, g5, g6, g7, g8, g9, g10, g11⟩, sf⟩ := X7.sixteen
  obtain ⟨⟨v0, v1, v2, v3, v4, v5, v6, v7, v8, v9, v10, v11⟩, s9⟩ := X9.twelve
  go_wp2_with fail
  refine (bSame_any mo1 ba1 op1 oh1 ot1 fe1 fp1 fh1 ft1 st1 lo1 (.slice a3 n3 c3) l mo1 ba1 op1 oh1 ot1 fe1 fp1 fh1 ft1 st1 lo1 (.slice a3 n3 c3) l _ (H3.out.keep bb.out) (H3.out.keep bb.out)).mono ?_
  rintro e wT ⟨rfl, bT⟩
  rw [sameBr_self]
  clear i0 i1 i2 i3 j0 j1 j2 j3 j4 j5 j6 j7 j8 j9 j10 j11 si f0 f1 f2 f3 g0 g1 g2 g3 g4 g5 g6 g7 g8 g9 g10 g11 sf v0 v1 v2 v3 v4 v5 v6 v7 v8 v9 v10 v11 s9
  have X0 := X0.keep bT
  have X7 := X7.keep bT
  have X9 := X9.keep bT
  have bb : Hid (Below w6.heap.size w6 wT) := bel_trans bb.out bT
  clear bT
  obtain ⟨⟨i0, i1, i2, i3⟩, ⟨j0, j1, j2, j3, j4, j5, j6, j7, j8, j9, j10, j11⟩, si⟩ := X0.sixteen
  obtain ⟨⟨f0, f1, f2, f3⟩, ⟨g0, g1, g2, g3, g4, g5, g6, g7, g8, g9, g10, g11⟩, sf⟩ := X7.sixteen
  obtain ⟨⟨v0, v1, v2, v3, v4, v5, v6, v7, v8, v9, v10, v11⟩, s9⟩ := X9.twelve
  go_wp2_with fail
  go_ret
  exact ⟨rfl, bel_trans B6.out bb.out⟩
theorem isH_any {k n d a c : Int} {f : Bool} {u : Value} {ds : List Int} {w : World} (h : Sl w u ds) : IsH w ⟨k, n, d, a, c, f, ds⟩ #[J k, J n, J d, J a, J c, .bool f, u] := by
  obtain ⟨a6, n6, c6, rfl⟩ : ∃ a k c, u = .slice a k c := let ⟨a, c, e, _⟩ := h; ⟨a, _, c, e⟩
  exact ⟨a6, n6, c6, rfl, h⟩
theorem mheld_row {m : Mc} {x : Hp} {cs ch : Array Value} {w : World} (hm : IsM w m cs) (hx : IsH w x ch) : Calls Tryz.prog 4 #[.agg cs, .agg ch] w fun e w' => e = .returned (.bool true) ∧ Below w.heap.size w w' := by
  by_cases hE : hpE m x = 0
  · obtain ⟨-, -, hk, -⟩ := hp_good hE (show hpR m x = ((hpR m x).1, (hpR m x).2) from rfl)
    rcases hk with hk | hk | hk | hk
    · exact mheld_1 hm hx hE hk
    · exact mheld_2 hm hx hE hk
    · exact mheld_3 hm hx hE hk
    · exact mheld_4 hm hx hE hk
  · exact mheld_bad hm hx hE
theorem mheld_walk (u : Value) (zs : List Int) (p : Int) (v : Value) (r : List Int) (d : Bool) (mo ba op oh ot fe fp fh ft : Int) (st lo : Bool) (vc : Value) (l : List Ln) (k0 n0 d0 a0 c0 : Int) (f0 : Bool) (u0 : Value) (ds : List Int) (w : World) (hm : Sl w u zs ∧ Sl w v r ∧ Ls w vc l) (hh : Sl w u0 ds) :
    Calls Tryz.prog 4 #[.agg #[u, J p, v, .bool d, J mo, J ba, vc, J op, J oh, J ot, .bool st, J fe, J fp, J fh, J ft, .bool lo], .agg #[J k0, J n0, J d0, J a0, J c0, .bool f0, u0]] w fun e w' => e = .returned (.bool true) ∧ Below w.heap.size w w' := mheld_row (isM_any hm) (isH_any hh)
end Go.Proofs.YthlhocneggcekaaGreat
