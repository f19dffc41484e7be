/-
  Laid together: AOwnWalk.
-/
import Derived.Test.YthlhocneggcekaaGreatB1
import Derived.Test.YthlhocneggcekaaGreatB2
import Derived.Test.YthlhocneggcekaaGreatB3
import Derived.Test.YthlhocneggcekaaGreatB4
import Derived.Test.YthlhocneggcekaaGreatB5
import Derived.Test.YthlhocneggcekaaGreatB6
import Derived.Test.YthlhocneggcekaaGreatB7
import Derived.Test.YthlhocneggcekaaGreatB8
import Derived.Test.YthlhocneggcekaaGreatB9
import Derived.Test.YthlhocneggcekaaGreatB10
import Derived.Test.YthlhocneggcekaaGreatB11
import Derived.Test.YthlhocneggcekaaGreatB12
import Derived.Test.YthlhocneggcekaaGreatB13
import Derived.Test.YthlhocneggcekaaGreatB14
import Derived.Test.YthlhocneggcekaaGreatB15
import Derived.Test.YthlhocneggcekaaGreatB16
import Derived.Test.YthlhocneggcekaaGreatB17
import Derived.Test.YthlhocneggcekaaGreatB18
import Derived.Test.YthlhocneggcekaaGreatB19
import Derived.Test.YthlhocneggcekaaGreatB20
import Derived.Test.YthlhocneggcekaaGreatB21
import Derived.Test.YthlhocneggcekaaGreatB22
import Derived.Test.YthlhocneggcekaaGreatB23
import Derived.Test.YthlhocneggcekaaGreatB24
import Derived.Test.YthlhocneggcekaaGreatB25
import Derived.Test.YthlhocneggcekaaGreatB26
import Derived.Test.YthlhocneggcekaaGreatB27
import Derived.Test.YthlhocneggcekaaGreatB28
import Derived.Test.YthlhocneggcekaaGreatB29
import Derived.Test.YthlhocneggcekaaGreatB30
import Derived.Test.YthlhocneggcekaaGreatB31
import Derived.Test.YthlhocneggcekaaGreatB32
import Derived.Test.YthlhocneggcekaaGreatB33
import Derived.Test.YthlhocneggcekaaGreatB34
import Derived.Test.YthlhocneggcekaaGreatB35
import Derived.Test.YthlhocneggcekaaGreatB36
import Derived.Test.YthlhocneggcekaaGreatB37
import Derived.Test.YthlhocneggcekaaGreatB38
import Derived.Test.YthlhocneggcekaaGreatB39
import Derived.Test.YthlhocneggcekaaGreatB40
import Derived.Test.YthlhocneggcekaaGreatB41
import Derived.Test.YthlhocneggcekaaGreatB42
import Derived.Test.YthlhocneggcekaaGreatB43
import Derived.Test.YthlhocneggcekaaGreatB44
import Derived.Test.YthlhocneggcekaaGreatO1
import Derived.Test.YthlhocneggcekaaGreatO2
namespace Go.Proofs.YthlhocneggcekaaGreat
open Go.RowKit
theorem infoAsk5 : (Tryz.prog.info? 35).map (·.size) = some 5 := by kernel_rfl
def OwnA (T : To) (E : Int) (W : World) (s6 s7 : Value) (wx : World) : Prop := ∃ n6 cs2, s6 = .pointer (some ⟨n6, 0, none⟩) ∧ s7 = J E ∧ Box wx n6 40 cs2 ∧ IsT wx T cs2 ∧ Below W.heap.size W wx
set_option maxRecDepth 10000 in
set_option maxHeartbeats 40000000 in
theorem aown_row {m : Mc} {cs : Array Value} {d a n : Int} {f : Bool} {u : Value} {ds : List Int} {w : World} (hm : IsM w m cs) (hs : Slc w u ds) : Calls Tryz.prog 9 #[.agg cs, .agg #[J d, J a, J n, .bool f, u]] w fun e w' => e = .returned (.bool true) ∧ Below w.heap.size w w' := by
  have HS : Hid (Slc w u ds) := hs
  obtain ⟨da, dn, dc, rfl⟩ : ∃ a k c, u = .slice a k c := let ⟨a, c, e, _⟩ := hs.1; ⟨a, _, c, e⟩
  have HM : Hid (IsM w m cs) := hm
  obtain ⟨a1, n1, c1, a2, n2, c2, a3, n3, c3, rfl, h1, h2, h3⟩ := hm
  clear hs h1 h2 h3
  have X0 := (Box.newAt (w := w) (n := w.heap.size) rfl 33 #[.slice a1 n1 c1, J m.h.pc, .slice a2 n2 c2, .bool m.h.done, J m.b.mode, J m.b.base, .slice a3 n3 c3, J m.b.op, J m.b.oh, J m.b.ot, .bool m.b.stop, J m.b.fen, J m.b.fp, J m.b.fh, J m.b.ft, .bool m.b.lost]).past (.cells #[J d, J a, J n, .bool f, .slice da dn dc] 35)
  have X1 := Box.newAt (w := w.alloc (.cells #[.slice a1 n1 c1, J m.h.pc, .slice a2 n2 c2, .bool m.h.done, J m.b.mode, J m.b.base, .slice a3 n3 c3, J m.b.op, J m.b.oh, J m.b.ot, .bool m.b.stop, J m.b.fen, J m.b.fp, J m.b.fh, J m.b.ft, .bool m.b.lost] 33)) (n := w.heap.size + 1) (by simp) 35 #[J d, J a, J n, .bool f, .slice da dn dc]
  have BW0 : Hid (Below w.heap.size w ((w.alloc (.cells #[.slice a1 n1 c1, J m.h.pc, .slice a2 n2 c2, .bool m.h.done, J m.b.mode, J m.b.base, .slice a3 n3 c3, J m.b.op, J m.b.oh, J m.b.ot, .bool m.b.stop, J m.b.fen, J m.b.fp, J m.b.fh, J m.b.ft, .bool m.b.lost] 33)).alloc (.cells #[J d, J a, J n, .bool f, .slice da dn dc] 35))) := bel_alloc (bel_alloc (Below.refl w.heap.size w) _) _
  go_enter Tryz.func9, Tryz.ntmps9
  go_upto_region 1 with fail
  generalize ((w.alloc (.cells #[.slice a1 n1 c1, J m.h.pc, .slice a2 n2 c2, .bool m.h.done, J m.b.mode, J m.b.base, .slice a3 n3 c3, J m.b.op, J m.b.oh, J m.b.ot, .bool m.b.stop, J m.b.fen, J m.b.fp, J m.b.fh, J m.b.ft, .bool m.b.lost] 33)).alloc (.cells #[J d, J a, J n, .bool f, .slice da dn dc] 35)) = V at *
  obtain ⟨⟨i0, i1, i2, i3⟩, ⟨j0, j1, j2, j3, j4, j5, j6, j7, j8, j9, j10, j11⟩, s0⟩ := X0.sixteen
  have mk := X0.marksOf
  go_upto_region 2 with fail
  have Y0 : Box (V.setCell ⟨w.heap.size, 6, none⟩ (.slice none 0 0)) w.heap.size 33 #[.slice a1 n1 c1, J m.h.pc, .slice a2 n2 c2, .bool m.h.done, J m.b.mode, J m.b.base, .slice none 0 0, J m.b.op, J m.b.oh, J m.b.ot, .bool m.b.stop, J m.b.fen, J m.b.fp, J m.b.fh, J m.b.ft, .bool m.b.lost] := X0.set 6 _
  have X1 := X1.other (p := ⟨w.heap.size, 6, none⟩) (by dsimp only; omega) (.slice none 0 0)
  have BW : Hid (Below w.heap.size w (V.setCell ⟨w.heap.size, 6, none⟩ (.slice none 0 0))) := bel_set (p := ⟨w.heap.size, 6, none⟩) (Nat.le_refl _) BW0.out _
  have M0 : IsM (V.setCell ⟨w.heap.size, 6, none⟩ (.slice none 0 0)) (plMc m) #[.slice a1 n1 c1, J m.h.pc, .slice a2 n2 c2, .bool m.h.done, J m.b.mode, J m.b.base, .slice none 0 0, J m.b.op, J m.b.oh, J m.b.ot, .bool m.b.stop, J m.b.fen, J m.b.fp, J m.b.fh, J m.b.ft, .bool m.b.lost] := (HM.out.keep BW.out).bare
  have X0 := Y0
  clear mk BW0 Y0
  clear i0 i1 i2 i3 j0 j1 j2 j3 j4 j5 j6 j7 j8 j9 j10 j11 s0
  generalize (V.setCell ⟨w.heap.size, 6, none⟩ (.slice none 0 0)) = W at *
  obtain ⟨⟨i0, i1, i2, i3⟩, ⟨j0, j1, j2, j3, j4, j5, j6, j7, j8, j9, j10, j11⟩, s0⟩ := X0.sixteen
  go_wp2_with fail
  refine (audited_true _).mono ?_
  rintro e w1 ⟨rfl, b1⟩
  clear i0 i1 i2 i3 j0 j1 j2 j3 j4 j5 j6 j7 j8 j9 j10 j11 s0
  have X0 := X0.keep b1
  have X1 := X1.keep b1
  have M0 := M0.keep b1
  have B1 : Hid (Below w.heap.size w w1) := bel_trans BW.out b1
  clear b1 BW
  obtain ⟨⟨i0, i1, i2, i3⟩, ⟨j0, j1, j2, j3, j4, j5, j6, j7, j8, j9, j10, j11⟩, s0⟩ := X0.sixteen
  go_wp2_with fail
  refine (mCheck_row M0).mono ?_
  rintro e wB ⟨rfl, b2⟩
  clear i0 i1 i2 i3 j0 j1 j2 j3 j4 j5 j6 j7 j8 j9 j10 j11 s0
  have X0 := X0.keep b2
  have X1 := X1.keep b2
  have M0 := M0.keep b2
  have B2 : Hid (Below w.heap.size w wB) := bel_trans B1.out b2
  clear b2 B1
  by_cases hE : chkM (plMc m) = 0
  rotate_left
  · obtain ⟨z, hz⟩ : ∃ z, chkM (plMc m) = z := ⟨_, rfl⟩
    rw [hz] at hE ⊢
    have q : (z != 0) = true := by simpa using hE
    clear hz hE
    go_wp2_with fail
    refine (audited_true _).mono ?_
    rintro e w3 ⟨rfl, b3⟩
    go_wp2_with fail
    go_ret
    exact ⟨rfl, bel_trans B2.out b3⟩
  have HCM : Hid (chkM (plMc m) = 0) := hE
  rw [hE]
  have q : ((0 : Int) != 0) = false := rfl
  go_upto_region 4 with fail
  clear q hE
  obtain ⟨w1, rfl⟩ : ∃ w1, w1 = wB := ⟨wB, rfl⟩
  obtain ⟨cs0, hcs0⟩ : ∃ c : Array Value, c = #[.slice a1 n1 c1, J m.h.pc, .slice a2 n2 c2, .bool m.h.done, J m.b.mode, J m.b.base, .slice none 0 0, J m.b.op, J m.b.oh, J m.b.ot, .bool m.b.stop, J m.b.fen, J m.b.fp, J m.b.fh, J m.b.ft, .bool m.b.lost] := ⟨_, rfl⟩
  rw [← hcs0] at X0 M0
  clear hcs0
  obtain ⟨hs0, ha0⟩ := M0.size
  have HM : Hid (IsM w1 (plMc m) cs0) := M0
  have HSd : Hid (Slc w1 (.slice da dn dc) ds) := ⟨HS.out.1.keep B2.out, HS.out.2⟩
  have hsz1 := X1.lt
  clear HS M0
  obtain ⟨⟨Y, T⟩, hYT⟩ : ∃ R, hpR (plMc m) (⟨3, 0, d, a, shN a n, f, shD a n f ds⟩ : Hp) = R := ⟨_, rfl⟩
  obtain ⟨E, hEE⟩ : ∃ E, hpE (plMc m) (⟨3, 0, d, a, shN a n, f, shD a n f ds⟩ : Hp) = E := ⟨_, rfl⟩
  have HYT : Hid (hpR (plMc m) (⟨3, 0, d, a, shN a n, f, shD a n f ds⟩ : Hp) = (Y, T)) := hYT
  have HEE : Hid (hpE (plMc m) (⟨3, 0, d, a, shN a n, f, shD a n f ds⟩ : Hp) = E) := hEE
  clear hYT hEE
  go_cut [5, 6, 7] from 22 to 30 (fun _ s6 s7 wx => OwnA T E w1 s6 s7 wx)
  case first =>
    refine wp_region_held_drew (S := fun w' => Below w1.heap.size w1 w') (by kernel_rfl) (Below.drew (Below.refl _ _)) (fun hHeld => ?_)
    refine wpHeld_takeL (i := 0) (v := .agg cs0) rfl (by kernel_rfl) (by kernel_rfl) (by kernel_rfl) (fun _ _ _ h => h) (yields_row (by kernel_rfl) 33 (.tmp 2) rfl rfl (fun wz hSz => (X0.keep hSz).loadM hs0)) (by assumption) ?_
    simp only [nmz]
    refine wpHeld_takeL (i := 1) (v := .agg #[J d, J a, J n, .bool f, .slice da dn dc]) rfl (by kernel_rfl) (by kernel_rfl) (by kernel_rfl) (fun _ _ _ h => h) (yields_row (by kernel_rfl) 35 (.tmp 3) rfl rfl (fun wz hSz => run_loadVar_row wz _ _ _ _ _ _ (X1.keep hSz) Tryz.underlying35 rfl (by rw [infoAsk5]; rfl))) (by assumption) ?_
    simp only [nmz]
    clear X0 X1 hs0 ha0 hsz1
    generalize w1.drew = v0 at *
    refine wpHeld_threeL (i := 2) (j := 9) (k := 10) (by kernel_rfl) (by rfl) (by rfl) (by rfl) (fun K hK => ?_) (fun K hK => ?_) (fun K hK => ?_)
    · go_simp
      refine (short_any ⟨HSd.out.1.keep hHeld, HSd.out.2⟩).mono ?_
      rintro e v1 ⟨ua, un, uc, rfl, hsu, bc⟩
      have HSU : Hid (∀ w0, Sl w0 (.slice da dn dc) ds → Sl w0 (.slice ua un uc) (shD a n f ds)) := hsu
      clear hsu
      go_wp2_with fail
      refine hK.out _ _ (bel_trans hHeld bc) (fun hHeld2 => ?_)
      clear hK K hHeld bc
      have hHeld := hHeld2
      clear hHeld2
      refine tkH 3 rfl (by kernel_rfl) (fun _ _ _ h => h) (by assumption) (by intro wz hSz; (try dsimp only at hSz); go_simp; (try with_reducible rfl)) ?_
      simp only [nmz]
      refine wpHeld_threeL (i := 4) (j := 9) (k := 10) (by kernel_rfl) (by rfl) (by rfl) (by rfl) (fun K hK => ?_) (fun K hK => ?_) (fun K hK => ?_)
      · go_simp
        refine (mDo_row (m := plMc m) (x := (⟨3, 0, d, a, shN a n, f, shD a n f ds⟩ : Hp)) (HM.out.keep hHeld) ⟨_, _, _, rfl, HSU.out _ (HSd.out.1.keep hHeld)⟩).mono ?_
        rintro e w5 ⟨cs1, cs2, rfl, hM5, HT, o1, o2, bc⟩
        rw [HYT.out] at hM5 HT
        rw [HEE.out]
        dsimp only at hM5 HT
        obtain ⟨bad, hbad⟩ : ∃ b : Nat → Prop, b = fun q => q < v1.heap.size := ⟨_, rfl⟩
        have o2 : OffRow bad cs2 := by rw [hbad]; exact o2
        have K5 : KeptB bad w5 w5 := KeptB.refl _ _
        have hb5 : Below w1.heap.size w1 w5 := bel_trans hHeld bc
        obtain ⟨hs1, ha1⟩ := hM5.size
        obtain ⟨hs2, ha2⟩ := HT.size
        go_wp2_with fail
        refine hK.out _ _ hb5 (fun hHeld2 => ?_)
        clear hK K hHeld bc hbad hb5 hM5 o1
        have hHeld := hHeld2
        clear hHeld2
        refine tkH 5 rfl (by kernel_rfl) (fun _ _ _ h => h) (by assumption) (by intro wz hSz; (try dsimp only at hSz); go_simp; (try with_reducible rfl)) ?_
        simp only [nmz]
        refine tkH 6 rfl (by kernel_rfl) (fun _ _ _ h => h) (by assumption) (by intro wz hSz; (try dsimp only at hSz); go_simp; (try with_reducible rfl)) ?_
        simp only [nmz]
        refine tkH 7 rfl (by kernel_rfl) (fun _ _ _ h => h) (by assumption) (by intro wz hSz; (try dsimp only at hSz); go_simp; (try with_reducible rfl)) ?_
        simp only [nmz]
        refine tkH 8 rfl (by kernel_rfl) (fun _ _ _ h => h) (by assumption) (by intro wz hSz; (try dsimp only at hSz); go_simp; (try with_reducible rfl)) ?_
        simp only [nmz]
        refine wpHeld_twoL (i := 9) (j := 10) (by kernel_rfl) (by rfl) (by rfl) (fun K hK => ?_) (fun K hK => ?_)
        · go_simp
          have hb' : Below w1.heap.size w1 (w5.alloc (.cells #[.slice none 0 0, J 0, .slice none 0 0, .bool false, J 0, J 0, .slice none 0 0, J 0, J 0, J 0, .bool false, J 0, J 0, J 0, J 0, .bool false] 33)) := bel_alloc hHeld _
          refine hK.out _ _ hb' (fun _ => ?_)
          clear hK K
          obtain ⟨n9, hn⟩ : ∃ n, n = w5.heap.size := ⟨_, rfl⟩
          rw [← hn]
          have l9 : w1.heap.size ≤ n9 := by rw [hn]; exact hHeld.size
          have X9 : Box (w5.alloc (.cells #[.slice none 0 0, J 0, .slice none 0 0, .bool false, J 0, J 0, .slice none 0 0, J 0, J 0, J 0, .bool false, J 0, J 0, J 0, J 0, .bool false] 33)) n9 33 #[.slice none 0 0, J 0, .slice none 0 0, .bool false, J 0, J 0, .slice none 0 0, J 0, J 0, J 0, .bool false, J 0, J 0, J 0, J 0, .bool false] := Box.newAt hn _ _
          have b9 : bad n9 ∨ w5.heap.size ≤ n9 := .inr (by rw [hn]; exact K5.size)
          have K5 := K5.alloc (.cells #[.slice none 0 0, J 0, .slice none 0 0, .bool false, J 0, J 0, .slice none 0 0, J 0, J 0, J 0, .bool false, J 0, J 0, J 0, J 0, .bool false] 33)
          clear hHeld hn
          have hHeld := hb'
          clear hb'
          generalize (w5.alloc (.cells #[.slice none 0 0, J 0, .slice none 0 0, .bool false, J 0, J 0, .slice none 0 0, J 0, J 0, J 0, .bool false, J 0, J 0, J 0, J 0, .bool false] 33)) = v3 at *
          refine wpHeld_oneL (i := 10) (by kernel_rfl) (by rfl) (fun K hK => ?_)
          go_simp
          have hb' : Below w1.heap.size w1 (v3.alloc (.cells #[.bool false, .slice none 0 0, J 0, .slice none 0 0] 40)) := bel_alloc hHeld _
          refine hK.out _ _ hb' (fun _ => ?_)
          clear hK K
          obtain ⟨n10, hn⟩ : ∃ n, n = v3.heap.size := ⟨_, rfl⟩
          rw [← hn]
          have l10 : w1.heap.size ≤ n10 := by rw [hn]; exact hHeld.size
          have X10 : Box (v3.alloc (.cells #[.bool false, .slice none 0 0, J 0, .slice none 0 0] 40)) n10 40 #[.bool false, .slice none 0 0, J 0, .slice none 0 0] := Box.newAt hn _ _
          have hne : ¬ n10 = n9 := by have := X9.lt; omega
          have X9 := X9.past (.cells #[.bool false, .slice none 0 0, J 0, .slice none 0 0] 40)
          have b10 : bad n10 ∨ w5.heap.size ≤ n10 := .inr (by rw [hn]; exact K5.size)
          have K5 := K5.alloc (.cells #[.bool false, .slice none 0 0, J 0, .slice none 0 0] 40)
          clear hHeld hn
          have hHeld := hb'
          clear hb'
          generalize (v3.alloc (.cells #[.bool false, .slice none 0 0, J 0, .slice none 0 0] 40)) = v4 at *
          refine wpHeld_oneL (i := 11) (by kernel_rfl) (by rfl) (fun K hK => ?_)
          refine step_store_row rfl 33 (.tmp 5) (.tmp 28) rfl n9 cs1 rfl rfl _ _ X9 (by rw [infoM, hs1]) (by rw [hs1]; rfl) ha1 ?_
          refine hK.out _ _ (bel_setRow l9 hHeld _) (fun hHeld2 => ?_)
          clear hK K
          simp only [Act.put]
          refine wpHeld_oneL (i := 12) (by kernel_rfl) (by rfl) (fun K hK => ?_)
          refine step_store_row rfl 40 (.tmp 6) (.tmp 29) rfl n10 cs2 rfl rfl _ _ (X10.otherRow (by omega) cs1) (by rw [infoTo, hs2]) (by rw [hs2]; rfl) ha2 ?_
          refine hK.out _ _ (bel_setRow l10 hHeld2 _) (fun hHeld3 => ?_)
          clear hK K
          simp only [Act.put]
          refine tkH 13 rfl (by kernel_rfl) (fun _ _ _ h => h) (by assumption) (by intro wz hSz; (try dsimp only at hSz); go_simp; (try with_reducible rfl)) ?_
          simp only [nmz]
          refine wpAnyH_done (by kernel_rfl) ?_ _
          go_wp2_with fail
          go_meet
          exact ⟨n10, cs2, rfl, rfl, (X10.otherRow (by omega) cs1).setRow cs2, HT.kept ((K5.setRow b9 cs1).setRow b10 cs2) o2 (fun _ h => h), hHeld3⟩
        · go_simp
          have hb' : Below w1.heap.size w1 (w5.alloc (.cells #[.bool false, .slice none 0 0, J 0, .slice none 0 0] 40)) := bel_alloc hHeld _
          refine hK.out _ _ hb' (fun _ => ?_)
          clear hK K
          obtain ⟨n10, hn⟩ : ∃ n, n = w5.heap.size := ⟨_, rfl⟩
          rw [← hn]
          have l10 : w1.heap.size ≤ n10 := by rw [hn]; exact hHeld.size
          have X10 : Box (w5.alloc (.cells #[.bool false, .slice none 0 0, J 0, .slice none 0 0] 40)) n10 40 #[.bool false, .slice none 0 0, J 0, .slice none 0 0] := Box.newAt hn _ _
          have b10 : bad n10 ∨ w5.heap.size ≤ n10 := .inr (by rw [hn]; exact K5.size)
          have K5 := K5.alloc (.cells #[.bool false, .slice none 0 0, J 0, .slice none 0 0] 40)
          clear hHeld hn
          have hHeld := hb'
          clear hb'
          generalize (w5.alloc (.cells #[.bool false, .slice none 0 0, J 0, .slice none 0 0] 40)) = v3 at *
          refine wpHeld_oneL (i := 9) (by kernel_rfl) (by rfl) (fun K hK => ?_)
          go_simp
          have hb' : Below w1.heap.size w1 (v3.alloc (.cells #[.slice none 0 0, J 0, .slice none 0 0, .bool false, J 0, J 0, .slice none 0 0, J 0, J 0, J 0, .bool false, J 0, J 0, J 0, J 0, .bool false] 33)) := bel_alloc hHeld _
          refine hK.out _ _ hb' (fun _ => ?_)
          clear hK K
          obtain ⟨n9, hn⟩ : ∃ n, n = v3.heap.size := ⟨_, rfl⟩
          rw [← hn]
          have l9 : w1.heap.size ≤ n9 := by rw [hn]; exact hHeld.size
          have X9 : Box (v3.alloc (.cells #[.slice none 0 0, J 0, .slice none 0 0, .bool false, J 0, J 0, .slice none 0 0, J 0, J 0, J 0, .bool false, J 0, J 0, J 0, J 0, .bool false] 33)) n9 33 #[.slice none 0 0, J 0, .slice none 0 0, .bool false, J 0, J 0, .slice none 0 0, J 0, J 0, J 0, .bool false, J 0, J 0, J 0, J 0, .bool false] := Box.newAt hn _ _
          have hne : ¬ n9 = n10 := by have := X10.lt; omega
          have X10 := X10.past (.cells #[.slice none 0 0, J 0, .slice none 0 0, .bool false, J 0, J 0, .slice none 0 0, J 0, J 0, J 0, .bool false, J 0, J 0, J 0, J 0, .bool false] 33)
          have b9 : bad n9 ∨ w5.heap.size ≤ n9 := .inr (by rw [hn]; exact K5.size)
          have K5 := K5.alloc (.cells #[.slice none 0 0, J 0, .slice none 0 0, .bool false, J 0, J 0, .slice none 0 0, J 0, J 0, J 0, .bool false, J 0, J 0, J 0, J 0, .bool false] 33)
          clear hHeld hn
          have hHeld := hb'
          clear hb'
          generalize (v3.alloc (.cells #[.slice none 0 0, J 0, .slice none 0 0, .bool false, J 0, J 0, .slice none 0 0, J 0, J 0, J 0, .bool false, J 0, J 0, J 0, J 0, .bool false] 33)) = v4 at *
          refine wpHeld_oneL (i := 11) (by kernel_rfl) (by rfl) (fun K hK => ?_)
          refine step_store_row rfl 33 (.tmp 5) (.tmp 28) rfl n9 cs1 rfl rfl _ _ X9 (by rw [infoM, hs1]) (by rw [hs1]; rfl) ha1 ?_
          refine hK.out _ _ (bel_setRow l9 hHeld _) (fun hHeld2 => ?_)
          clear hK K
          simp only [Act.put]
          refine wpHeld_oneL (i := 12) (by kernel_rfl) (by rfl) (fun K hK => ?_)
          refine step_store_row rfl 40 (.tmp 6) (.tmp 29) rfl n10 cs2 rfl rfl _ _ (X10.otherRow (by omega) cs1) (by rw [infoTo, hs2]) (by rw [hs2]; rfl) ha2 ?_
          refine hK.out _ _ (bel_setRow l10 hHeld2 _) (fun hHeld3 => ?_)
          clear hK K
          simp only [Act.put]
          refine tkH 13 rfl (by kernel_rfl) (fun _ _ _ h => h) (by assumption) (by intro wz hSz; (try dsimp only at hSz); go_simp; (try with_reducible rfl)) ?_
          simp only [nmz]
          refine wpAnyH_done (by kernel_rfl) ?_ _
          go_wp2_with fail
          go_meet
          exact ⟨n10, cs2, rfl, rfl, (X10.otherRow (by omega) cs1).setRow cs2, HT.kept ((K5.setRow b9 cs1).setRow b10 cs2) o2 (fun _ h => h), hHeld3⟩
      · go_simp
        have hb' : Below w1.heap.size w1 (v1.alloc (.cells #[.slice none 0 0, J 0, .slice none 0 0, .bool false, J 0, J 0, .slice none 0 0, J 0, J 0, J 0, .bool false, J 0, J 0, J 0, J 0, .bool false] 33)) := bel_alloc hHeld _
        refine hK.out _ _ hb' (fun _ => ?_)
        clear hK K
        obtain ⟨n9, hn⟩ : ∃ n, n = v1.heap.size := ⟨_, rfl⟩
        rw [← hn]
        have l9 : w1.heap.size ≤ n9 := by rw [hn]; exact hHeld.size
        have X9 : Box (v1.alloc (.cells #[.slice none 0 0, J 0, .slice none 0 0, .bool false, J 0, J 0, .slice none 0 0, J 0, J 0, J 0, .bool false, J 0, J 0, J 0, J 0, .bool false] 33)) n9 33 #[.slice none 0 0, J 0, .slice none 0 0, .bool false, J 0, J 0, .slice none 0 0, J 0, J 0, J 0, .bool false, J 0, J 0, J 0, J 0, .bool false] := Box.newAt hn _ _
        clear hHeld hn
        have hHeld := hb'
        clear hb'
        generalize (v1.alloc (.cells #[.slice none 0 0, J 0, .slice none 0 0, .bool false, J 0, J 0, .slice none 0 0, J 0, J 0, J 0, .bool false, J 0, J 0, J 0, J 0, .bool false] 33)) = v2 at *
        refine wpHeld_twoL (i := 4) (j := 10) (by kernel_rfl) (by rfl) (by rfl) (fun K hK => ?_) (fun K hK => ?_)
        · go_simp
          refine (mDo_row (m := plMc m) (x := (⟨3, 0, d, a, shN a n, f, shD a n f ds⟩ : Hp)) (HM.out.keep hHeld) ⟨_, _, _, rfl, HSU.out _ (HSd.out.1.keep hHeld)⟩).mono ?_
          rintro e w5 ⟨cs1, cs2, rfl, hM5, HT, o1, o2, bc⟩
          rw [HYT.out] at hM5 HT
          rw [HEE.out]
          dsimp only at hM5 HT
          obtain ⟨bad, hbad⟩ : ∃ b : Nat → Prop, b = fun q => q < v2.heap.size := ⟨_, rfl⟩
          have o2 : OffRow bad cs2 := by rw [hbad]; exact o2
          have K5 : KeptB bad w5 w5 := KeptB.refl _ _
          have b9 : bad n9 ∨ w5.heap.size ≤ n9 := .inl (by rw [hbad]; exact X9.lt)
          have X9 := X9.keep bc
          have hb5 : Below w1.heap.size w1 w5 := bel_trans hHeld bc
          obtain ⟨hs1, ha1⟩ := hM5.size
          obtain ⟨hs2, ha2⟩ := HT.size
          go_wp2_with fail
          refine hK.out _ _ hb5 (fun hHeld2 => ?_)
          clear hK K hHeld bc hbad hb5 hM5 o1
          have hHeld := hHeld2
          clear hHeld2
          refine tkH 5 rfl (by kernel_rfl) (fun _ _ _ h => h) (by assumption) (by intro wz hSz; (try dsimp only at hSz); go_simp; (try with_reducible rfl)) ?_
          simp only [nmz]
          refine tkH 6 rfl (by kernel_rfl) (fun _ _ _ h => h) (by assumption) (by intro wz hSz; (try dsimp only at hSz); go_simp; (try with_reducible rfl)) ?_
          simp only [nmz]
          refine tkH 7 rfl (by kernel_rfl) (fun _ _ _ h => h) (by assumption) (by intro wz hSz; (try dsimp only at hSz); go_simp; (try with_reducible rfl)) ?_
          simp only [nmz]
          refine tkH 8 rfl (by kernel_rfl) (fun _ _ _ h => h) (by assumption) (by intro wz hSz; (try dsimp only at hSz); go_simp; (try with_reducible rfl)) ?_
          simp only [nmz]
          refine wpHeld_oneL (i := 10) (by kernel_rfl) (by rfl) (fun K hK => ?_)
          go_simp
          have hb' : Below w1.heap.size w1 (w5.alloc (.cells #[.bool false, .slice none 0 0, J 0, .slice none 0 0] 40)) := bel_alloc hHeld _
          refine hK.out _ _ hb' (fun _ => ?_)
          clear hK K
          obtain ⟨n10, hn⟩ : ∃ n, n = w5.heap.size := ⟨_, rfl⟩
          rw [← hn]
          have l10 : w1.heap.size ≤ n10 := by rw [hn]; exact hHeld.size
          have X10 : Box (w5.alloc (.cells #[.bool false, .slice none 0 0, J 0, .slice none 0 0] 40)) n10 40 #[.bool false, .slice none 0 0, J 0, .slice none 0 0] := Box.newAt hn _ _
          have hne : ¬ n10 = n9 := by have := X9.lt; omega
          have X9 := X9.past (.cells #[.bool false, .slice none 0 0, J 0, .slice none 0 0] 40)
          have b10 : bad n10 ∨ w5.heap.size ≤ n10 := .inr (by rw [hn]; exact K5.size)
          have K5 := K5.alloc (.cells #[.bool false, .slice none 0 0, J 0, .slice none 0 0] 40)
          clear hHeld hn
          have hHeld := hb'
          clear hb'
          generalize (w5.alloc (.cells #[.bool false, .slice none 0 0, J 0, .slice none 0 0] 40)) = v4 at *
          refine wpHeld_oneL (i := 11) (by kernel_rfl) (by rfl) (fun K hK => ?_)
          refine step_store_row rfl 33 (.tmp 5) (.tmp 28) rfl n9 cs1 rfl rfl _ _ X9 (by rw [infoM, hs1]) (by rw [hs1]; rfl) ha1 ?_
          refine hK.out _ _ (bel_setRow l9 hHeld _) (fun hHeld2 => ?_)
          clear hK K
          simp only [Act.put]
          refine wpHeld_oneL (i := 12) (by kernel_rfl) (by rfl) (fun K hK => ?_)
          refine step_store_row rfl 40 (.tmp 6) (.tmp 29) rfl n10 cs2 rfl rfl _ _ (X10.otherRow (by omega) cs1) (by rw [infoTo, hs2]) (by rw [hs2]; rfl) ha2 ?_
          refine hK.out _ _ (bel_setRow l10 hHeld2 _) (fun hHeld3 => ?_)
          clear hK K
          simp only [Act.put]
          refine tkH 13 rfl (by kernel_rfl) (fun _ _ _ h => h) (by assumption) (by intro wz hSz; (try dsimp only at hSz); go_simp; (try with_reducible rfl)) ?_
          simp only [nmz]
          refine wpAnyH_done (by kernel_rfl) ?_ _
          go_wp2_with fail
          go_meet
          exact ⟨n10, cs2, rfl, rfl, (X10.otherRow (by omega) cs1).setRow cs2, HT.kept ((K5.setRow b9 cs1).setRow b10 cs2) o2 (fun _ h => h), hHeld3⟩
        · go_simp
          have hb' : Below w1.heap.size w1 (v2.alloc (.cells #[.bool false, .slice none 0 0, J 0, .slice none 0 0] 40)) := bel_alloc hHeld _
          refine hK.out _ _ hb' (fun _ => ?_)
          clear hK K
          obtain ⟨n10, hn⟩ : ∃ n, n = v2.heap.size := ⟨_, rfl⟩
          rw [← hn]
          have l10 : w1.heap.size ≤ n10 := by rw [hn]; exact hHeld.size
          have X10 : Box (v2.alloc (.cells #[.bool false, .slice none 0 0, J 0, .slice none 0 0] 40)) n10 40 #[.bool false, .slice none 0 0, J 0, .slice none 0 0] := Box.newAt hn _ _
          have hne : ¬ n10 = n9 := by have := X9.lt; omega
          have X9 := X9.past (.cells #[.bool false, .slice none 0 0, J 0, .slice none 0 0] 40)
          clear hHeld hn
          have hHeld := hb'
          clear hb'
          generalize (v2.alloc (.cells #[.bool false, .slice none 0 0, J 0, .slice none 0 0] 40)) = v3 at *
          refine wpHeld_oneL (i := 4) (by kernel_rfl) (by rfl) (fun K hK => ?_)
          go_simp
          refine (mDo_row (m := plMc m) (x := (⟨3, 0, d, a, shN a n, f, shD a n f ds⟩ : Hp)) (HM.out.keep hHeld) ⟨_, _, _, rfl, HSU.out _ (HSd.out.1.keep hHeld)⟩).mono ?_
          rintro e w5 ⟨cs1, cs2, rfl, hM5, HT, o1, o2, bc⟩
          rw [HYT.out] at hM5 HT
          rw [HEE.out]
          dsimp only at hM5 HT
          obtain ⟨bad, hbad⟩ : ∃ b : Nat → Prop, b = fun q => q < v3.heap.size := ⟨_, rfl⟩
          have o2 : OffRow bad cs2 := by rw [hbad]; exact o2
          have K5 : KeptB bad w5 w5 := KeptB.refl _ _
          have b9 : bad n9 ∨ w5.heap.size ≤ n9 := .inl (by rw [hbad]; exact X9.lt)
          have X9 := X9.keep bc
          have b10 : bad n10 ∨ w5.heap.size ≤ n10 := .inl (by rw [hbad]; exact X10.lt)
          have X10 := X10.keep bc
          have hb5 : Below w1.heap.size w1 w5 := bel_trans hHeld bc
          obtain ⟨hs1, ha1⟩ := hM5.size
          obtain ⟨hs2, ha2⟩ := HT.size
          go_wp2_with fail
          refine hK.out _ _ hb5 (fun hHeld2 => ?_)
          clear hK K hHeld bc hbad hb5 hM5 o1
          have hHeld := hHeld2
          clear hHeld2
          refine tkH 5 rfl (by kernel_rfl) (fun _ _ _ h => h) (by assumption) (by intro wz hSz; (try dsimp only at hSz); go_simp; (try with_reducible rfl)) ?_
          simp only [nmz]
          refine tkH 6 rfl (by kernel_rfl) (fun _ _ _ h => h) (by assumption) (by intro wz hSz; (try dsimp only at hSz); go_simp; (try with_reducible rfl)) ?_
          simp only [nmz]
          refine tkH 7 rfl (by kernel_rfl) (fun _ _ _ h => h) (by assumption) (by intro wz hSz; (try dsimp only at hSz); go_simp; (try with_reducible rfl)) ?_
          simp only [nmz]
          refine tkH 8 rfl (by kernel_rfl) (fun _ _ _ h => h) (by assumption) (by intro wz hSz; (try dsimp only at hSz); go_simp; (try with_reducible rfl)) ?_
          simp only [nmz]
          refine wpHeld_oneL (i := 11) (by kernel_rfl) (by rfl) (fun K hK => ?_)
          refine step_store_row rfl 33 (.tmp 5) (.tmp 28) rfl n9 cs1 rfl rfl _ _ X9 (by rw [infoM, hs1]) (by rw [hs1]; rfl) ha1 ?_
          refine hK.out _ _ (bel_setRow l9 hHeld _) (fun hHeld2 => ?_)
          clear hK K
          simp only [Act.put]
          refine wpHeld_oneL (i := 12) (by kernel_rfl) (by rfl) (fun K hK => ?_)
          refine step_store_row rfl 40 (.tmp 6) (.tmp 29) rfl n10 cs2 rfl rfl _ _ (X10.otherRow (by omega) cs1) (by rw [infoTo, hs2]) (by rw [hs2]; rfl) ha2 ?_
          refine hK.out _ _ (bel_setRow l10 hHeld2 _) (fun hHeld3 => ?_)
          clear hK K
          simp only [Act.put]
          refine tkH 13 rfl (by kernel_rfl) (fun _ _ _ h => h) (by assumption) (by intro wz hSz; (try dsimp only at hSz); go_simp; (try with_reducible rfl)) ?_
          simp only [nmz]
          refine wpAnyH_done (by kernel_rfl) ?_ _
          go_wp2_with fail
          go_meet
          exact ⟨n10, cs2, rfl, rfl, (X10.otherRow (by omega) cs1).setRow cs2, HT.kept ((K5.setRow b9 cs1).setRow b10 cs2) o2 (fun _ h => h), hHeld3⟩
      · go_simp
        have hb' : Below w1.heap.size w1 (v1.alloc (.cells #[.bool false, .slice none 0 0, J 0, .slice none 0 0] 40)) := bel_alloc hHeld _
        refine hK.out _ _ hb' (fun _ => ?_)
        clear hK K
        obtain ⟨n10, hn⟩ : ∃ n, n = v1.heap.size := ⟨_, rfl⟩
        rw [← hn]
        have l10 : w1.heap.size ≤ n10 := by rw [hn]; exact hHeld.size
        have X10 : Box (v1.alloc (.cells #[.bool false, .slice none 0 0, J 0, .slice none 0 0] 40)) n10 40 #[.bool false, .slice none 0 0, J 0, .slice none 0 0] := Box.newAt hn _ _
        clear hHeld hn
        have hHeld := hb'
        clear hb'
        generalize (v1.alloc (.cells #[.bool false, .slice none 0 0, J 0, .slice none 0 0] 40)) = v2 at *
        refine wpHeld_twoL (i := 4) (j := 9) (by kernel_rfl) (by rfl) (by rfl) (fun K hK => ?_) (fun K hK => ?_)
        · go_simp
          refine (mDo_row (m := plMc m) (x := (⟨3, 0, d, a, shN a n, f, shD a n f ds⟩ : Hp)) (HM.out.keep hHeld) ⟨_, _, _, rfl, HSU.out _ (HSd.out.1.keep hHeld)⟩).mono ?_
          rintro e w5 ⟨cs1, cs2, rfl, hM5, HT, o1, o2, bc⟩
          rw [HYT.out] at hM5 HT
          rw [HEE.out]
          dsimp only at hM5 HT
          obtain ⟨bad, hbad⟩ : ∃ b : Nat → Prop, b = fun q => q < v2.heap.size := ⟨_, rfl⟩
          have o2 : OffRow bad cs2 := by rw [hbad]; exact o2
          have K5 : KeptB bad w5 w5 := KeptB.refl _ _
          have b10 : bad n10 ∨ w5.heap.size ≤ n10 := .inl (by rw [hbad]; exact X10.lt)
          have X10 := X10.keep bc
          have hb5 : Below w1.heap.size w1 w5 := bel_trans hHeld bc
          obtain ⟨hs1, ha1⟩ := hM5.size
          obtain ⟨hs2, ha2⟩ := HT.size
          go_wp2_with fail
          refine hK.out _ _ hb5 (fun hHeld2 => ?_)
          clear hK K hHeld bc hbad hb5 hM5 o1
          have hHeld := hHeld2
          clear hHeld2
          refine tkH 5 rfl (by kernel_rfl) (fun _ _ _ h => h) (by assumption) (by intro wz hSz; (try dsimp only at hSz); go_simp; (try with_reducible rfl)) ?_
          simp only [nmz]
          refine tkH 6 rfl (by kernel_rfl) (fun _ _ _ h => h) (by assumption) (by intro wz hSz; (try dsimp only at hSz); go_simp; (try with_reducible rfl)) ?_
          simp only [nmz]
          refine tkH 7 rfl (by kernel_rfl) (fun _ _ _ h => h) (by assumption) (by intro wz hSz; (try dsimp only at hSz); go_simp; (try with_reducible rfl)) ?_
          simp only [nmz]
          refine tkH 8 rfl (by kernel_rfl) (fun _ _ _ h => h) (by assumption) (by intro wz hSz; (try dsimp only at hSz); go_simp; (try with_reducible rfl)) ?_
          simp only [nmz]
          refine wpHeld_oneL (i := 9) (by kernel_rfl) (by rfl) (fun K hK => ?_)
          go_simp
          have hb' : Below w1.heap.size w1 (w5.alloc (.cells #[.slice none 0 0, J 0, .slice none 0 0, .bool false, J 0, J 0, .slice none 0 0, J 0, J 0, J 0, .bool false, J 0, J 0, J 0, J 0, .bool false] 33)) := bel_alloc hHeld _
          refine hK.out _ _ hb' (fun _ => ?_)
          clear hK K
          obtain ⟨n9, hn⟩ : ∃ n, n = w5.heap.size := ⟨_, rfl⟩
          rw [← hn]
          have l9 : w1.heap.size ≤ n9 := by rw [hn]; exact hHeld.size
          have X9 : Box (w5.alloc (.cells #[.slice none 0 0, J 0, .slice none 0 0, .bool false, J 0, J 0, .slice none 0 0, J 0, J 0, J 0, .bool false, J 0, J 0, J 0, J 0, .bool false] 33)) n9 33 #[.slice none 0 0, J 0, .slice none 0 0, .bool false, J 0, J 0, .slice none 0 0, J 0, J 0, J 0, .bool false, J 0, J 0, J 0, J 0, .bool false] := Box.newAt hn _ _
          have hne : ¬ n9 = n10 := by have := X10.lt; omega
          have X10 := X10.past (.cells #[.slice none 0 0, J 0, .slice none 0 0, .bool false, J 0, J 0, .slice none 0 0, J 0, J 0, J 0, .bool false, J 0, J 0, J 0, J 0, .bool false] 33)
          have b9 : bad n9 ∨ w5.heap.size ≤ n9 := .inr (by rw [hn]; exact K5.size)
          have K5 := K5.alloc (.cells #[.slice none 0 0, J 0, .slice none 0 0, .bool false, J 0, J 0, .slice none 0 0, J 0, J 0, J 0, .bool false, J 0, J 0, J 0, J 0, .bool false] 33)
          clear hHeld hn
          have hHeld := hb'
          clear hb'
          generalize (w5.alloc (.cells #[.slice none 0 0, J 0, .slice none 0 0, .bool false, J 0, J 0, .slice none 0 0, J 0, J 0, J 0, .bool false, J 0, J 0, J 0, J 0, .bool false] 33)) = v4 at *
          refine wpHeld_oneL (i := 11) (by kernel_rfl) (by rfl) (fun K hK => ?_)
          refine step_store_row rfl 33 (.tmp 5) (.tmp 28) rfl n9 cs1 rfl rfl _ _ X9 (by rw [infoM, hs1]) (by rw [hs1]; rfl) ha1 ?_
          refine hK.out _ _ (bel_setRow l9 hHeld _) (fun hHeld2 => ?_)
          clear hK K
          simp only [Act.put]
          refine wpHeld_oneL (i := 12) (by kernel_rfl) (by rfl) (fun K hK => ?_)
          refine step_store_row rfl 40 (.tmp 6) (.tmp 29) rfl n10 cs2 rfl rfl _ _ (X10.otherRow (by omega) cs1) (by rw [infoTo, hs2]) (by rw [hs2]; rfl) ha2 ?_
          refine hK.out _ _ (bel_setRow l10 hHeld2 _) (fun hHeld3 => ?_)
          clear hK K
          simp only [Act.put]
          refine tkH 13 rfl (by kernel_rfl) (fun _ _ _ h => h) (by assumption) (by intro wz hSz; (try dsimp only at hSz); go_simp; (try with_reducible rfl)) ?_
          simp only [nmz]
          refine wpAnyH_done (by kernel_rfl) ?_ _
          go_wp2_with fail
          go_meet
          exact ⟨n10, cs2, rfl, rfl, (X10.otherRow (by omega) cs1).setRow cs2, HT.kept ((K5.setRow b9 cs1).setRow b10 cs2) o2 (fun _ h => h), hHeld3⟩
        · go_simp
          have hb' : Below w1.heap.size w1 (v2.alloc (.cells #[.slice none 0 0, J 0, .slice none 0 0, .bool false, J 0, J 0, .slice none 0 0, J 0, J 0, J 0, .bool false, J 0, J 0, J 0, J 0, .bool false] 33)) := bel_alloc hHeld _
          refine hK.out _ _ hb' (fun _ => ?_)
          clear hK K
          obtain ⟨n9, hn⟩ : ∃ n, n = v2.heap.size := ⟨_, rfl⟩
          rw [← hn]
          have l9 : w1.heap.size ≤ n9 := by rw [hn]; exact hHeld.size
          have X9 : Box (v2.alloc (.cells #[.slice none 0 0, J 0, .slice none 0 0, .bool false, J 0, J 0, .slice none 0 0, J 0, J 0, J 0, .bool false, J 0, J 0, J 0, J 0, .bool false] 33)) n9 33 #[.slice none 0 0, J 0, .slice none 0 0, .bool false, J 0, J 0, .slice none 0 0, J 0, J 0, J 0, .bool false, J 0, J 0, J 0, J 0, .bool false] := Box.newAt hn _ _
          have hne : ¬ n9 = n10 := by have := X10.lt; omega
          have X10 := X10.past (.cells #[.slice none 0 0, J 0, .slice none 0 0, .bool false, J 0, J 0, .slice none 0 0, J 0, J 0, J 0, .bool false, J 0, J 0, J 0, J 0, .bool false] 33)
          clear hHeld hn
          have hHeld := hb'
          clear hb'
          generalize (v2.alloc (.cells #[.slice none 0 0, J 0, .slice none 0 0, .bool false, J 0, J 0, .slice none 0 0, J 0, J 0, J 0, .bool false, J 0, J 0, J 0, J 0, .bool false] 33)) = v3 at *
          refine wpHeld_oneL (i := 4) (by kernel_rfl) (by rfl) (fun K hK => ?_)
          go_simp
          refine (mDo_row (m := plMc m) (x := (⟨3, 0, d, a, shN a n, f, shD a n f ds⟩ : Hp)) (HM.out.keep hHeld) ⟨_, _, _, rfl, HSU.out _ (HSd.out.1.keep hHeld)⟩).mono ?_
          rintro e w5 ⟨cs1, cs2, rfl, hM5, HT, o1, o2, bc⟩
          rw [HYT.out] at hM5 HT
          rw [HEE.out]
          dsimp only at hM5 HT
          obtain ⟨bad, hbad⟩ : ∃ b : Nat → Prop, b = fun q => q < v3.heap.size := ⟨_, rfl⟩
          have o2 : OffRow bad cs2 := by rw [hbad]; exact o2
          have K5 : KeptB bad w5 w5 := KeptB.refl _ _
          have b9 : bad n9 ∨ w5.heap.size ≤ n9 := .inl (by rw [hbad]; exact X9.lt)
          have X9 := X9.keep bc
          have b10 : bad n10 ∨ w5.heap.size ≤ n10 := .inl (by rw [hbad]; exact X10.lt)
          have X10 := X10.keep bc
          have hb5 : Below w1.heap.size w1 w5 := bel_trans hHeld bc
          obtain ⟨hs1, ha1⟩ := hM5.size
          obtain ⟨hs2, ha2⟩ := HT.size
          go_wp2_with fail
          refine hK.out _ _ hb5 (fun hHeld2 => ?_)
          clear hK K hHeld bc hbad hb5 hM5 o1
          have hHeld := hHeld2
          clear hHeld2
          refine tkH 5 rfl (by kernel_rfl) (fun _ _ _ h => h) (by assumption) (by intro wz hSz; (try dsimp only at hSz); go_simp; (try with_reducible rfl)) ?_
          simp only [nmz]
          refine tkH 6 rfl (by kernel_rfl) (fun _ _ _ h => h) (by assumption) (by intro wz hSz; (try dsimp only at hSz); go_simp; (try with_reducible rfl)) ?_
          simp only [nmz]
          refine tkH 7 rfl (by kernel_rfl) (fun _ _ _ h => h) (by assumption) (by intro wz hSz; (try dsimp only at hSz); go_simp; (try with_reducible rfl)) ?_
          simp only [nmz]
          refine tkH 8 rfl (by kernel_rfl) (fun _ _ _ h => h) (by assumption) (by intro wz hSz; (try dsimp only at hSz); go_simp; (try with_reducible rfl)) ?_
          simp only [nmz]
          refine wpHeld_oneL (i := 11) (by kernel_rfl) (by rfl) (fun K hK => ?_)
          refine step_store_row rfl 33 (.tmp 5) (.tmp 28) rfl n9 cs1 rfl rfl _ _ X9 (by rw [infoM, hs1]) (by rw [hs1]; rfl) ha1 ?_
          refine hK.out _ _ (bel_setRow l9 hHeld _) (fun hHeld2 => ?_)
          clear hK K
          simp only [Act.put]
          refine wpHeld_oneL (i := 12) (by kernel_rfl) (by rfl) (fun K hK => ?_)
          refine step_store_row rfl 40 (.tmp 6) (.tmp 29) rfl n10 cs2 rfl rfl _ _ (X10.otherRow (by omega) cs1) (by rw [infoTo, hs2]) (by rw [hs2]; rfl) ha2 ?_
          refine hK.out _ _ (bel_setRow l10 hHeld2 _) (fun hHeld3 => ?_)
          clear hK K
          simp only [Act.put]
          refine tkH 13 rfl (by kernel_rfl) (fun _ _ _ h => h) (by assumption) (by intro wz hSz; (try dsimp only at hSz); go_simp; (try with_reducible rfl)) ?_
          simp only [nmz]
          refine wpAnyH_done (by kernel_rfl) ?_ _
          go_wp2_with fail
          go_meet
          exact ⟨n10, cs2, rfl, rfl, (X10.otherRow (by omega) cs1).setRow cs2, HT.kept ((K5.setRow b9 cs1).setRow b10 cs2) o2 (fun _ h => h), hHeld3⟩
    · go_simp
      have hb' : Below w1.heap.size w1 (v0.alloc (.cells #[.slice none 0 0, J 0, .slice none 0 0, .bool false, J 0, J 0, .slice none 0 0, J 0, J 0, J 0, .bool false, J 0, J 0, J 0, J 0, .bool false] 33)) := bel_alloc hHeld _
      refine hK.out _ _ hb' (fun _ => ?_)
      clear hK K
      obtain ⟨n9, hn⟩ : ∃ n, n = v0.heap.size := ⟨_, rfl⟩
      rw [← hn]
      have l9 : w1.heap.size ≤ n9 := by rw [hn]; exact hHeld.size
      have X9 : Box (v0.alloc (.cells #[.slice none 0 0, J 0, .slice none 0 0, .bool false, J 0, J 0, .slice none 0 0, J 0, J 0, J 0, .bool false, J 0, J 0, J 0, J 0, .bool false] 33)) n9 33 #[.slice none 0 0, J 0, .slice none 0 0, .bool false, J 0, J 0, .slice none 0 0, J 0, J 0, J 0, .bool false, J 0, J 0, J 0, J 0, .bool false] := Box.newAt hn _ _
      clear hHeld hn
      have hHeld := hb'
      clear hb'
      generalize (v0.alloc (.cells #[.slice none 0 0, J 0, .slice none 0 0, .bool false, J 0, J 0, .slice none 0 0, J 0, J 0, J 0, .bool false, J 0, J 0, J 0, J 0, .bool false] 33)) = v1 at *
      refine wpHeld_twoL (i := 2) (j := 10) (by kernel_rfl) (by rfl) (by rfl) (fun K hK => ?_) (fun K hK => ?_)
      · go_simp
        refine (short_any ⟨HSd.out.1.keep hHeld, HSd.out.2⟩).mono ?_
        rintro e v2 ⟨ua, un, uc, rfl, hsu, bc⟩
        have HSU : Hid (∀ w0, Sl w0 (.slice da dn dc) ds → Sl w0 (.slice ua un uc) (shD a n f ds)) := hsu
        clear hsu
        have X9 := X9.keep bc
        go_wp2_with fail
        refine hK.out _ _ (bel_trans hHeld bc) (fun hHeld2 => ?_)
        clear hK K hHeld bc
        have hHeld := hHeld2
        clear hHeld2
        refine tkH 3 rfl (by kernel_rfl) (fun _ _ _ h => h) (by assumption) (by intro wz hSz; (try dsimp only at hSz); go_simp; (try with_reducible rfl)) ?_
        simp only [nmz]
        refine wpHeld_twoL (i := 4) (j := 10) (by kernel_rfl) (by rfl) (by rfl) (fun K hK => ?_) (fun K hK => ?_)
        · go_simp
          refine (mDo_row (m := plMc m) (x := (⟨3, 0, d, a, shN a n, f, shD a n f ds⟩ : Hp)) (HM.out.keep hHeld) ⟨_, _, _, rfl, HSU.out _ (HSd.out.1.keep hHeld)⟩).mono ?_
          rintro e w5 ⟨cs1, cs2, rfl, hM5, HT, o1, o2, bc⟩
          rw [HYT.out] at hM5 HT
          rw [HEE.out]
          dsimp only at hM5 HT
          obtain ⟨bad, hbad⟩ : ∃ b : Nat → Prop, b = fun q => q < v2.heap.size := ⟨_, rfl⟩
          have o2 : OffRow bad cs2 := by rw [hbad]; exact o2
          have K5 : KeptB bad w5 w5 := KeptB.refl _ _
          have b9 : bad n9 ∨ w5.heap.size ≤ n9 := .inl (by rw [hbad]; exact X9.lt)
          have X9 := X9.keep bc
          have hb5 : Below w1.heap.size w1 w5 := bel_trans hHeld bc
          obtain ⟨hs1, ha1⟩ := hM5.size
          obtain ⟨hs2, ha2⟩ := HT.size
          go_wp2_with fail
          refine hK.out _ _ hb5 (fun hHeld2 => ?_)
          clear hK K hHeld bc hbad hb5 hM5 o1
          have hHeld := hHeld2
          clear hHeld2
          refine tkH 5 rfl (by kernel_rfl) (fun _ _ _ h => h) (by assumption) (by intro wz hSz; (try dsimp only at hSz); go_simp; (try with_reducible rfl)) ?_
          simp only [nmz]
          refine tkH 6 rfl (by kernel_rfl) (fun _ _ _ h => h) (by assumption) (by intro wz hSz; (try dsimp only at hSz); go_simp; (try with_reducible rfl)) ?_
          simp only [nmz]
          refine tkH 7 rfl (by kernel_rfl) (fun _ _ _ h => h) (by assumption) (by intro wz hSz; (try dsimp only at hSz); go_simp; (try with_reducible rfl)) ?_
          simp only [nmz]
          refine tkH 8 rfl (by kernel_rfl) (fun _ _ _ h => h) (by assumption) (by intro wz hSz; (try dsimp only at hSz); go_simp; (try with_reducible rfl)) ?_
          simp only [nmz]
          refine wpHeld_oneL (i := 10) (by kernel_rfl) (by rfl) (fun K hK => ?_)
          go_simp
          have hb' : Below w1.heap.size w1 (w5.alloc (.cells #[.bool false, .slice none 0 0, J 0, .slice none 0 0] 40)) := bel_alloc hHeld _
          refine hK.out _ _ hb' (fun _ => ?_)
          clear hK K
          obtain ⟨n10, hn⟩ : ∃ n, n = w5.heap.size := ⟨_, rfl⟩
          rw [← hn]
          have l10 : w1.heap.size ≤ n10 := by rw [hn]; exact hHeld.size
          have X10 : Box (w5.alloc (.cells #[.bool false, .slice none 0 0, J 0, .slice none 0 0] 40)) n10 40 #[.bool false, .slice none 0 0, J 0, .slice none 0 0] := Box.newAt hn _ _
          have hne : ¬ n10 = n9 := by have := X9.lt; omega
          have X9 := X9.past (.cells #[.bool false, .slice none 0 0, J 0, .slice none 0 0] 40)
          have b10 : bad n10 ∨ w5.heap.size ≤ n10 := .inr (by rw [hn]; exact K5.size)
          have K5 := K5.alloc (.cells #[.bool false, .slice none 0 0, J 0, .slice none 0 0] 40)
          clear hHeld hn
          have hHeld := hb'
          clear hb'
          generalize (w5.alloc (.cells #[.bool false, .slice none 0 0, J 0, .slice none 0 0] 40)) = v4 at *
          refine wpHeld_oneL (i := 11) (by kernel_rfl) (by rfl) (fun K hK => ?_)
          refine step_store_row rfl 33 (.tmp 5) (.tmp 28) rfl n9 cs1 rfl rfl _ _ X9 (by rw [infoM, hs1]) (by rw [hs1]; rfl) ha1 ?_
          refine hK.out _ _ (bel_setRow l9 hHeld _) (fun hHeld2 => ?_)
          clear hK K
          simp only [Act.put]
          refine wpHeld_oneL (i := 12) (by kernel_rfl) (by rfl) (fun K hK => ?_)
          refine step_store_row rfl 40 (.tmp 6) (.tmp 29) rfl n10 cs2 rfl rfl _ _ (X10.otherRow (by omega) cs1) (by rw [infoTo, hs2]) (by rw [hs2]; rfl) ha2 ?_
          refine hK.out _ _ (bel_setRow l10 hHeld2 _) (fun hHeld3 => ?_)
          clear hK K
          simp only [Act.put]
          refine tkH 13 rfl (by kernel_rfl) (fun _ _ _ h => h) (by assumption) (by intro wz hSz; (try dsimp only at hSz); go_simp; (try with_reducible rfl)) ?_
          simp only [nmz]
          refine wpAnyH_done (by kernel_rfl) ?_ _
          go_wp2_with fail
          go_meet
          exact ⟨n10, cs2, rfl, rfl, (X10.otherRow (by omega) cs1).setRow cs2, HT.kept ((K5.setRow b9 cs1).setRow b10 cs2) o2 (fun _ h => h), hHeld3⟩
        · go_simp
          have hb' : Below w1.heap.size w1 (v2.alloc (.cells #[.bool false, .slice none 0 0, J 0, .slice none 0 0] 40)) := bel_alloc hHeld _
          refine hK.out _ _ hb' (fun _ => ?_)
          clear hK K
          obtain ⟨n10, hn⟩ : ∃ n, n = v2.heap.size := ⟨_, rfl⟩
          rw [← hn]
          have l10 : w1.heap.size ≤ n10 := by rw [hn]; exact hHeld.size
          have X10 : Box (v2.alloc (.cells #[.bool false, .slice none 0 0, J 0, .slice none 0 0] 40)) n10 40 #[.bool false, .slice none 0 0, J 0, .slice none 0 0] := Box.newAt hn _ _
          have hne : ¬ n10 = n9 := by have := X9.lt; omega
          have X9 := X9.past (.cells #[.bool false, .slice none 0 0, J 0, .slice none 0 0] 40)
          clear hHeld hn
          have hHeld := hb'
          clear hb'
          generalize (v2.alloc (.cells #[.bool false, .slice none 0 0, J 0, .slice none 0 0] 40)) = v3 at *
          refine wpHeld_oneL (i := 4) (by kernel_rfl) (by rfl) (fun K hK => ?_)
          go_simp
          refine (mDo_row (m := plMc m) (x := (⟨3, 0, d, a, shN a n, f, shD a n f ds⟩ : Hp)) (HM.out.keep hHeld) ⟨_, _, _, rfl, HSU.out _ (HSd.out.1.keep hHeld)⟩).mono ?_
          rintro e w5 ⟨cs1, cs2, rfl, hM5, HT, o1, o2, bc⟩
          rw [HYT.out] at hM5 HT
          rw [HEE.out]
          dsimp only at hM5 HT
          obtain ⟨bad, hbad⟩ : ∃ b : Nat → Prop, b = fun q => q < v3.heap.size := ⟨_, rfl⟩
          have o2 : OffRow bad cs2 := by rw [hbad]; exact o2
          have K5 : KeptB bad w5 w5 := KeptB.refl _ _
          have b9 : bad n9 ∨ w5.heap.size ≤ n9 := .inl (by rw [hbad]; exact X9.lt)
          have X9 := X9.keep bc
          have b10 : bad n10 ∨ w5.heap.size ≤ n10 := .inl (by rw [hbad]; exact X10.lt)
          have X10 := X10.keep bc
          have hb5 : Below w1.heap.size w1 w5 := bel_trans hHeld bc
          obtain ⟨hs1, ha1⟩ := hM5.size
          obtain ⟨hs2, ha2⟩ := HT.size
          go_wp2_with fail
          refine hK.out _ _ hb5 (fun hHeld2 => ?_)
          clear hK K hHeld bc hbad hb5 hM5 o1
          have hHeld := hHeld2
          clear hHeld2
          refine tkH 5 rfl (by kernel_rfl) (fun _ _ _ h => h) (by assumption) (by intro wz hSz; (try dsimp only at hSz); go_simp; (try with_reducible rfl)) ?_
          simp only [nmz]
          refine tkH 6 rfl (by kernel_rfl) (fun _ _ _ h => h) (by assumption) (by intro wz hSz; (try dsimp only at hSz); go_simp; (try with_reducible rfl)) ?_
          simp only [nmz]
          refine tkH 7 rfl (by kernel_rfl) (fun _ _ _ h => h) (by assumption) (by intro wz hSz; (try dsimp only at hSz); go_simp; (try with_reducible rfl)) ?_
          simp only [nmz]
          refine tkH 8 rfl (by kernel_rfl) (fun _ _ _ h => h) (by assumption) (by intro wz hSz; (try dsimp only at hSz); go_simp; (try with_reducible rfl)) ?_
          simp only [nmz]
          refine wpHeld_oneL (i := 11) (by kernel_rfl) (by rfl) (fun K hK => ?_)
          refine step_store_row rfl 33 (.tmp 5) (.tmp 28) rfl n9 cs1 rfl rfl _ _ X9 (by rw [infoM, hs1]) (by rw [hs1]; rfl) ha1 ?_
          refine hK.out _ _ (bel_setRow l9 hHeld _) (fun hHeld2 => ?_)
          clear hK K
          simp only [Act.put]
          refine wpHeld_oneL (i := 12) (by kernel_rfl) (by rfl) (fun K hK => ?_)
          refine step_store_row rfl 40 (.tmp 6) (.tmp 29) rfl n10 cs2 rfl rfl _ _ (X10.otherRow (by omega) cs1) (by rw [infoTo, hs2]) (by rw [hs2]; rfl) ha2 ?_
          refine hK.out _ _ (bel_setRow l10 hHeld2 _) (fun hHeld3 => ?_)
          clear hK K
          simp only [Act.put]
          refine tkH 13 rfl (by kernel_rfl) (fun _ _ _ h => h) (by assumption) (by intro wz hSz; (try dsimp only at hSz); go_simp; (try with_reducible rfl)) ?_
          simp only [nmz]
          refine wpAnyH_done (by kernel_rfl) ?_ _
          go_wp2_with fail
          go_meet
          exact ⟨n10, cs2, rfl, rfl, (X10.otherRow (by omega) cs1).setRow cs2, HT.kept ((K5.setRow b9 cs1).setRow b10 cs2) o2 (fun _ h => h), hHeld3⟩
      · go_simp
        have hb' : Below w1.heap.size w1 (v1.alloc (.cells #[.bool false, .slice none 0 0, J 0, .slice none 0 0] 40)) := bel_alloc hHeld _
        refine hK.out _ _ hb' (fun _ => ?_)
        clear hK K
        obtain ⟨n10, hn⟩ : ∃ n, n = v1.heap.size := ⟨_, rfl⟩
        rw [← hn]
        have l10 : w1.heap.size ≤ n10 := by rw [hn]; exact hHeld.size
        have X10 : Box (v1.alloc (.cells #[.bool false, .slice none 0 0, J 0, .slice none 0 0] 40)) n10 40 #[.bool false, .slice none 0 0, J 0, .slice none 0 0] := Box.newAt hn _ _
        have hne : ¬ n10 = n9 := by have := X9.lt; omega
        have X9 := X9.past (.cells #[.bool false, .slice none 0 0, J 0, .slice none 0 0] 40)
        clear hHeld hn
        have hHeld := hb'
        clear hb'
        generalize (v1.alloc (.cells #[.bool false, .slice none 0 0, J 0, .slice none 0 0] 40)) = v2 at *
        refine wpHeld_oneL (i := 2) (by kernel_rfl) (by rfl) (fun K hK => ?_)
        go_simp
        refine (short_any ⟨HSd.out.1.keep hHeld, HSd.out.2⟩).mono ?_
        rintro e v3 ⟨ua, un, uc, rfl, hsu, bc⟩
        have HSU : Hid (∀ w0, Sl w0 (.slice da dn dc) ds → Sl w0 (.slice ua un uc) (shD a n f ds)) := hsu
        clear hsu
        have X9 := X9.keep bc
        have X10 := X10.keep bc
        go_wp2_with fail
        refine hK.out _ _ (bel_trans hHeld bc) (fun hHeld2 => ?_)
        clear hK K hHeld bc
        have hHeld := hHeld2
        clear hHeld2
        refine tkH 3 rfl (by kernel_rfl) (fun _ _ _ h => h) (by assumption) (by intro wz hSz; (try dsimp only at hSz); go_simp; (try with_reducible rfl)) ?_
        simp only [nmz]
        refine wpHeld_oneL (i := 4) (by kernel_rfl) (by rfl) (fun K hK => ?_)
        go_simp
        refine (mDo_row (m := plMc m) (x := (⟨3, 0, d, a, shN a n, f, shD a n f ds⟩ : Hp)) (HM.out.keep hHeld) ⟨_, _, _, rfl, HSU.out _ (HSd.out.1.keep hHeld)⟩).mono ?_
        rintro e w5 ⟨cs1, cs2, rfl, hM5, HT, o1, o2, bc⟩
        rw [HYT.out] at hM5 HT
        rw [HEE.out]
        dsimp only at hM5 HT
        obtain ⟨bad, hbad⟩ : ∃ b : Nat → Prop, b = fun q => q < v3.heap.size := ⟨_, rfl⟩
        have o2 : OffRow bad cs2 := by rw [hbad]; exact o2
        have K5 : KeptB bad w5 w5 := KeptB.refl _ _
        have b9 : bad n9 ∨ w5.heap.size ≤ n9 := .inl (by rw [hbad]; exact X9.lt)
        have X9 := X9.keep bc
        have b10 : bad n10 ∨ w5.heap.size ≤ n10 := .inl (by rw [hbad]; exact X10.lt)
        have X10 := X10.keep bc
        have hb5 : Below w1.heap.size w1 w5 := bel_trans hHeld bc
        obtain ⟨hs1, ha1⟩ := hM5.size
        obtain ⟨hs2, ha2⟩ := HT.size
        go_wp2_with fail
        refine hK.out _ _ hb5 (fun hHeld2 => ?_)
        clear hK K hHeld bc hbad hb5 hM5 o1
        have hHeld := hHeld2
        clear hHeld2
        refine tkH 5 rfl (by kernel_rfl) (fun _ _ _ h => h) (by assumption) (by intro wz hSz; (try dsimp only at hSz); go_simp; (try with_reducible rfl)) ?_
        simp only [nmz]
        refine tkH 6 rfl (by kernel_rfl) (fun _ _ _ h => h) (by assumption) (by intro wz hSz; (try dsimp only at hSz); go_simp; (try with_reducible rfl)) ?_
        simp only [nmz]
        refine tkH 7 rfl (by kernel_rfl) (fun _ _ _ h => h) (by assumption) (by intro wz hSz; (try dsimp only at hSz); go_simp; (try with_reducible rfl)) ?_
        simp only [nmz]
        refine tkH 8 rfl (by kernel_rfl) (fun _ _ _ h => h) (by assumption) (by intro wz hSz; (try dsimp only at hSz); go_simp; (try with_reducible rfl)) ?_
        simp only [nmz]
        refine wpHeld_oneL (i := 11) (by kernel_rfl) (by rfl) (fun K hK => ?_)
        refine step_store_row rfl 33 (.tmp 5) (.tmp 28) rfl n9 cs1 rfl rfl _ _ X9 (by rw [infoM, hs1]) (by rw [hs1]; rfl) ha1 ?_
        refine hK.out _ _ (bel_setRow l9 hHeld _) (fun hHeld2 => ?_)
        clear hK K
        simp only [Act.put]
        refine wpHeld_oneL (i := 12) (by kernel_rfl) (by rfl) (fun K hK => ?_)
        refine step_store_row rfl 40 (.tmp 6) (.tmp 29) rfl n10 cs2 rfl rfl _ _ (X10.otherRow (by omega) cs1) (by rw [infoTo, hs2]) (by rw [hs2]; rfl) ha2 ?_
        refine hK.out _ _ (bel_setRow l10 hHeld2 _) (fun hHeld3 => ?_)
        clear hK K
        simp only [Act.put]
        refine tkH 13 rfl (by kernel_rfl) (fun _ _ _ h => h) (by assumption) (by intro wz hSz; (try dsimp only at hSz); go_simp; (try with_reducible rfl)) ?_
        simp only [nmz]
        refine wpAnyH_done (by kernel_rfl) ?_ _
        go_wp2_with fail
        go_meet
        exact ⟨n10, cs2, rfl, rfl, (X10.otherRow (by omega) cs1).setRow cs2, HT.kept ((K5.setRow b9 cs1).setRow b10 cs2) o2 (fun _ h => h), hHeld3⟩
    · go_simp
      have hb' : Below w1.heap.size w1 (v0.alloc (.cells #[.bool false, .slice none 0 0, J 0, .slice none 0 0] 40)) := bel_alloc hHeld _
      refine hK.out _ _ hb' (fun _ => ?_)
      clear hK K
      obtain ⟨n10, hn⟩ : ∃ n, n = v0.heap.size := ⟨_, rfl⟩
      rw [← hn]
      have l10 : w1.heap.size ≤ n10 := by rw [hn]; exact hHeld.size
      have X10 : Box (v0.alloc (.cells #[.bool false, .slice none 0 0, J 0, .slice none 0 0] 40)) n10 40 #[.bool false, .slice none 0 0, J 0, .slice none 0 0] := Box.newAt hn _ _
      clear hHeld hn
      have hHeld := hb'
      clear hb'
      generalize (v0.alloc (.cells #[.bool false, .slice none 0 0, J 0, .slice none 0 0] 40)) = v1 at *
      refine wpHeld_twoL (i := 2) (j := 9) (by kernel_rfl) (by rfl) (by rfl) (fun K hK => ?_) (fun K hK => ?_)
      · go_simp
        refine (short_any ⟨HSd.out.1.keep hHeld, HSd.out.2⟩).mono ?_
        rintro e v2 ⟨ua, un, uc, rfl, hsu, bc⟩
        have HSU : Hid (∀ w0, Sl w0 (.slice da dn dc) ds → Sl w0 (.slice ua un uc) (shD a n f ds)) := hsu
        clear hsu
        have X10 := X10.keep bc
        go_wp2_with fail
        refine hK.out _ _ (bel_trans hHeld bc) (fun hHeld2 => ?_)
        clear hK K hHeld bc
        have hHeld := hHeld2
        clear hHeld2
        refine tkH 3 rfl (by kernel_rfl) (fun _ _ _ h => h) (by assumption) (by intro wz hSz; (try dsimp only at hSz); go_simp; (try with_reducible rfl)) ?_
        simp only [nmz]
        refine wpHeld_twoL (i := 4) (j := 9) (by kernel_rfl) (by rfl) (by rfl) (fun K hK => ?_) (fun K hK => ?_)
        · go_simp
          refine (mDo_row (m := plMc m) (x := (⟨3, 0, d, a, shN a n, f, shD a n f ds⟩ : Hp)) (HM.out.keep hHeld) ⟨_, _, _, rfl, HSU.out _ (HSd.out.1.keep hHeld)⟩).mono ?_
          rintro e w5 ⟨cs1, cs2, rfl, hM5, HT, o1, o2, bc⟩
          rw [HYT.out] at hM5 HT
          rw [HEE.out]
          dsimp only at hM5 HT
          obtain ⟨bad, hbad⟩ : ∃ b : Nat → Prop, b = fun q => q < v2.heap.size := ⟨_, rfl⟩
          have o2 : OffRow bad cs2 := by rw [hbad]; exact o2
          have K5 : KeptB bad w5 w5 := KeptB.refl _ _
          have b10 : bad n10 ∨ w5.heap.size ≤ n10 := .inl (by rw [hbad]; exact X10.lt)
          have X10 := X10.keep bc
          have hb5 : Below w1.heap.size w1 w5 := bel_trans hHeld bc
          obtain ⟨hs1, ha1⟩ := hM5.size
          obtain ⟨hs2, ha2⟩ := HT.size
          go_wp2_with fail
          refine hK.out _ _ hb5 (fun hHeld2 => ?_)
          clear hK K hHeld bc hbad hb5 hM5 o1
          have hHeld := hHeld2
          clear hHeld2
          refine tkH 5 rfl (by kernel_rfl) (fun _ _ _ h => h) (by assumption) (by intro wz hSz; (try dsimp only at hSz); go_simp; (try with_reducible rfl)) ?_
          simp only [nmz]
          refine tkH 6 rfl (by kernel_rfl) (fun _ _ _ h => h) (by assumption) (by intro wz hSz; (try dsimp only at hSz); go_simp; (try with_reducible rfl)) ?_
          simp only [nmz]
          refine tkH 7 rfl (by kernel_rfl) (fun _ _ _ h => h) (by assumption) (by intro wz hSz; (try dsimp only at hSz); go_simp; (try with_reducible rfl)) ?_
          simp only [nmz]
          refine tkH 8 rfl (by kernel_rfl) (fun _ _ _ h => h) (by assumption) (by intro wz hSz; (try dsimp only at hSz); go_simp; (try with_reducible rfl)) ?_
          simp only [nmz]
          refine wpHeld_oneL (i := 9) (by kernel_rfl) (by rfl) (fun K hK => ?_)
          go_simp
          have hb' : Below w1.heap.size w1 (w5.alloc (.cells #[.slice none 0 0, J 0, .slice none 0 0, .bool false, J 0, J 0, .slice none 0 0, J 0, J 0, J 0, .bool false, J 0, J 0, J 0, J 0, .bool false] 33)) := bel_alloc hHeld _
          refine hK.out _ _ hb' (fun _ => ?_)
          clear hK K
          obtain ⟨n9, hn⟩ : ∃ n, n = w5.heap.size := ⟨_, rfl⟩
          rw [← hn]
          have l9 : w1.heap.size ≤ n9 := by rw [hn]; exact hHeld.size
          have X9 : Box (w5.alloc (.cells #[.slice none 0 0, J 0, .slice none 0 0, .bool false, J 0, J 0, .slice none 0 0, J 0, J 0, J 0, .bool false, J 0, J 0, J 0, J 0, .bool false] 33)) n9 33 #[.slice none 0 0, J 0, .slice none 0 0, .bool false, J 0, J 0, .slice none 0 0, J 0, J 0, J 0, .bool false, J 0, J 0, J 0, J 0, .bool false] := Box.newAt hn _ _
          have hne : ¬ n9 = n10 := by have := X10.lt; omega
          have X10 := X10.past (.cells #[.slice none 0 0, J 0, .slice none 0 0, .bool false, J 0, J 0, .slice none 0 0, J 0, J 0, J 0, .bool false, J 0, J 0, J 0, J 0, .bool false] 33)
          have b9 : bad n9 ∨ w5.heap.size ≤ n9 := .inr (by rw [hn]; exact K5.size)
          have K5 := K5.alloc (.cells #[.slice none 0 0, J 0, .slice none 0 0, .bool false, J 0, J 0, .slice none 0 0, J 0, J 0, J 0, .bool false, J 0, J 0, J 0, J 0, .bool false] 33)
          clear hHeld hn
          have hHeld := hb'
          clear hb'
          generalize (w5.alloc (.cells #[.slice none 0 0, J 0, .slice none 0 0, .bool false, J 0, J 0, .slice none 0 0, J 0, J 0, J 0, .bool false, J 0, J 0, J 0, J 0, .bool false] 33)) = v4 at *
          refine wpHeld_oneL (i := 11) (by kernel_rfl) (by rfl) (fun K hK => ?_)
          refine step_store_row rfl 33 (.tmp 5) (.tmp 28) rfl n9 cs1 rfl rfl _ _ X9 (by rw [infoM, hs1]) (by rw [hs1]; rfl) ha1 ?_
          refine hK.out _ _ (bel_setRow l9 hHeld _) (fun hHeld2 => ?_)
          clear hK K
          simp only [Act.put]
          refine wpHeld_oneL (i := 12) (by kernel_rfl) (by rfl) (fun K hK => ?_)
          refine step_store_row rfl 40 (.tmp 6) (.tmp 29) rfl n10 cs2 rfl rfl _ _ (X10.otherRow (by omega) cs1) (by rw [infoTo, hs2]) (by rw [hs2]; rfl) ha2 ?_
          refine hK.out _ _ (bel_setRow l10 hHeld2 _) (fun hHeld3 => ?_)
          clear hK K
          simp only [Act.put]
          refine tkH 13 rfl (by kernel_rfl) (fun _ _ _ h => h) (by assumption) (by intro wz hSz; (try dsimp only at hSz); go_simp; (try with_reducible rfl)) ?_
          simp only [nmz]
          refine wpAnyH_done (by kernel_rfl) ?_ _
          go_wp2_with fail
          go_meet
          exact ⟨n10, cs2, rfl, rfl, (X10.otherRow (by omega) cs1).setRow cs2, HT.kept ((K5.setRow b9 cs1).setRow b10 cs2) o2 (fun _ h => h), hHeld3⟩
        · go_simp
          have hb' : Below w1.heap.size w1 (v2.alloc (.cells #[.slice none 0 0, J 0, .slice none 0 0, .bool false, J 0, J 0, .slice none 0 0, J 0, J 0, J 0, .bool false, J 0, J 0, J 0, J 0, .bool false] 33)) := bel_alloc hHeld _
          refine hK.out _ _ hb' (fun _ => ?_)
          clear hK K
          obtain ⟨n9, hn⟩ : ∃ n, n = v2.heap.size := ⟨_, rfl⟩
          rw [← hn]
          have l9 : w1.heap.size ≤ n9 := by rw [hn]; exact hHeld.size
          have X9 : Box (v2.alloc (.cells #[.slice none 0 0, J 0, .slice none 0 0, .bool false, J 0, J 0, .slice none 0 0, J 0, J 0, J 0, .bool false, J 0, J 0, J 0, J 0, .bool false] 33)) n9 33 #[.slice none 0 0, J 0, .slice none 0 0, .bool false, J 0, J 0, .slice none 0 0, J 0, J 0, J 0, .bool false, J 0, J 0, J 0, J 0, .bool false] := Box.newAt hn _ _
          have hne : ¬ n9 = n10 := by have := X10.lt; omega
          have X10 := X10.past (.cells #[.slice none 0 0, J 0, .slice none 0 0, .bool false, J 0, J 0, .slice none 0 0, J 0, J 0, J 0, .bool false, J 0, J 0, J 0, J 0, .bool false] 33)
          clear hHeld hn
          have hHeld := hb'
          clear hb'
          generalize (v2.alloc (.cells #[.slice none 0 0, J 0, .slice none 0 0, .bool false, J 0, J 0, .slice none 0 0, J 0, J 0, J 0, .bool false, J 0, J 0, J 0, J 0, .bool false] 33)) = v3 at *
          refine wpHeld_oneL (i := 4) (by kernel_rfl) (by rfl) (fun K hK => ?_)
          go_simp
          refine (mDo_row (m := plMc m) (x := (⟨3, 0, d, a, shN a n, f, shD a n f ds⟩ : Hp)) (HM.out.keep hHeld) ⟨_, _, _, rfl, HSU.out _ (HSd.out.1.keep hHeld)⟩).mono ?_
          rintro e w5 ⟨cs1, cs2, rfl, hM5, HT, o1, o2, bc⟩
          rw [HYT.out] at hM5 HT
          rw [HEE.out]
          dsimp only at hM5 HT
          obtain ⟨bad, hbad⟩ : ∃ b : Nat → Prop, b = fun q => q < v3.heap.size := ⟨_, rfl⟩
          have o2 : OffRow bad cs2 := by rw [hbad]; exact o2
          have K5 : KeptB bad w5 w5 := KeptB.refl _ _
          have b9 : bad n9 ∨ w5.heap.size ≤ n9 := .inl (by rw [hbad]; exact X9.lt)
          have X9 := X9.keep bc
          have b10 : bad n10 ∨ w5.heap.size ≤ n10 := .inl (by rw [hbad]; exact X10.lt)
          have X10 := X10.keep bc
          have hb5 : Below w1.heap.size w1 w5 := bel_trans hHeld bc
          obtain ⟨hs1, ha1⟩ := hM5.size
          obtain ⟨hs2, ha2⟩ := HT.size
          go_wp2_with fail
          refine hK.out _ _ hb5 (fun hHeld2 => ?_)
          clear hK K hHeld bc hbad hb5 hM5 o1
          have hHeld := hHeld2
          clear hHeld2
          refine tkH 5 rfl (by kernel_rfl) (fun _ _ _ h => h) (by assumption) (by intro wz hSz; (try dsimp only at hSz); go_simp; (try with_reducible rfl)) ?_
          simp only [nmz]
          refine tkH 6 rfl (by kernel_rfl) (fun _ _ _ h => h) (by assumption) (by intro wz hSz; (try dsimp only at hSz); go_simp; (try with_reducible rfl)) ?_
          simp only [nmz]
          refine tkH 7 rfl (by kernel_rfl) (fun _ _ _ h => h) (by assumption) (by intro wz hSz; (try dsimp only at hSz); go_simp; (try with_reducible rfl)) ?_
          simp only [nmz]
          refine tkH 8 rfl (by kernel_rfl) (fun _ _ _ h => h) (by assumption) (by intro wz hSz; (try dsimp only at hSz); go_simp; (try with_reducible rfl)) ?_
          simp only [nmz]
          refine wpHeld_oneL (i := 11) (by kernel_rfl) (by rfl) (fun K hK => ?_)
          refine step_store_row rfl 33 (.tmp 5) (.tmp 28) rfl n9 cs1 rfl rfl _ _ X9 (by rw [infoM, hs1]) (by rw [hs1]; rfl) ha1 ?_
          refine hK.out _ _ (bel_setRow l9 hHeld _) (fun hHeld2 => ?_)
          clear hK K
          simp only [Act.put]
          refine wpHeld_oneL (i := 12) (by kernel_rfl) (by rfl) (fun K hK => ?_)
          refine step_store_row rfl 40 (.tmp 6) (.tmp 29) rfl n10 cs2 rfl rfl _ _ (X10.otherRow (by omega) cs1) (by rw [infoTo, hs2]) (by rw [hs2]; rfl) ha2 ?_
          refine hK.out _ _ (bel_setRow l10 hHeld2 _) (fun hHeld3 => ?_)
          clear hK K
          simp only [Act.put]
          refine tkH 13 rfl (by kernel_rfl) (fun _ _ _ h => h) (by assumption) (by intro wz hSz; (try dsimp only at hSz); go_simp; (try with_reducible rfl)) ?_
          simp only [nmz]
          refine wpAnyH_done (by kernel_rfl) ?_ _
          go_wp2_with fail
          go_meet
          exact ⟨n10, cs2, rfl, rfl, (X10.otherRow (by omega) cs1).setRow cs2, HT.kept ((K5.setRow b9 cs1).setRow b10 cs2) o2 (fun _ h => h), hHeld3⟩
      · go_simp
        have hb' : Below w1.heap.size w1 (v1.alloc (.cells #[.slice none 0 0, J 0, .slice none 0 0, .bool false, J 0, J 0, .slice none 0 0, J 0, J 0, J 0, .bool false, J 0, J 0, J 0, J 0, .bool false] 33)) := bel_alloc hHeld _
        refine hK.out _ _ hb' (fun _ => ?_)
        clear hK K
        obtain ⟨n9, hn⟩ : ∃ n, n = v1.heap.size := ⟨_, rfl⟩
        rw [← hn]
        have l9 : w1.heap.size ≤ n9 := by rw [hn]; exact hHeld.size
        have X9 : Box (v1.alloc (.cells #[.slice none 0 0, J 0, .slice none 0 0, .bool false, J 0, J 0, .slice none 0 0, J 0, J 0, J 0, .bool false, J 0, J 0, J 0, J 0, .bool false] 33)) n9 33 #[.slice none 0 0, J 0, .slice none 0 0, .bool false, J 0, J 0, .slice none 0 0, J 0, J 0, J 0, .bool false, J 0, J 0, J 0, J 0, .bool false] := Box.newAt hn _ _
        have hne : ¬ n9 = n10 := by have := X10.lt; omega
        have X10 := X10.past (.cells #[.slice none 0 0, J 0, .slice none 0 0, .bool false, J 0, J 0, .slice none 0 0, J 0, J 0, J 0, .bool false, J 0, J 0, J 0, J 0, .bool false] 33)
        clear hHeld hn
        have hHeld := hb'
        clear hb'
        generalize (v1.alloc (.cells #[.slice none 0 0, J 0, .slice none 0 0, .bool false, J 0, J 0, .slice none 0 0, J 0, J 0, J 0, .bool false, J 0, J 0, J 0, J 0, .bool false] 33)) = v2 at *
        refine wpHeld_oneL (i := 2) (by kernel_rfl) (by rfl) (fun K hK => ?_)
        go_simp
        refine (short_any ⟨HSd.out.1.keep hHeld, HSd.out.2⟩).mono ?_
        rintro e v3 ⟨ua, un, uc, rfl, hsu, bc⟩
        have HSU : Hid (∀ w0, Sl w0 (.slice da dn dc) ds → Sl w0 (.slice ua un uc) (shD a n f ds)) := hsu
        clear hsu
        have X9 := X9.keep bc
        have X10 := X10.keep bc
        go_wp2_with fail
        refine hK.out _ _ (bel_trans hHeld bc) (fun hHeld2 => ?_)
        clear hK K hHeld bc
        have hHeld := hHeld2
        clear hHeld2
        refine tkH 3 rfl (by kernel_rfl) (fun _ _ _ h => h) (by assumption) (by intro wz hSz; (try dsimp only at hSz); go_simp; (try with_reducible rfl)) ?_
        simp only [nmz]
        refine wpHeld_oneL (i := 4) (by kernel_rfl) (by rfl) (fun K hK => ?_)
        go_simp
        refine (mDo_row (m := plMc m) (x := (⟨3, 0, d, a, shN a n, f, shD a n f ds⟩ : Hp)) (HM.out.keep hHeld) ⟨_, _, _, rfl, HSU.out _ (HSd.out.1.keep hHeld)⟩).mono ?_
        rintro e w5 ⟨cs1, cs2, rfl, hM5, HT, o1, o2, bc⟩
        rw [HYT.out] at hM5 HT
        rw [HEE.out]
        dsimp only at hM5 HT
        obtain ⟨bad, hbad⟩ : ∃ b : Nat → Prop, b = fun q => q < v3.heap.size := ⟨_, rfl⟩
        have o2 : OffRow bad cs2 := by rw [hbad]; exact o2
        have K5 : KeptB bad w5 w5 := KeptB.refl _ _
        have b9 : bad n9 ∨ w5.heap.size ≤ n9 := .inl (by rw [hbad]; exact X9.lt)
        have X9 := X9.keep bc
        have b10 : bad n10 ∨ w5.heap.size ≤ n10 := .inl (by rw [hbad]; exact X10.lt)
        have X10 := X10.keep bc
        have hb5 : Below w1.heap.size w1 w5 := bel_trans hHeld bc
        obtain ⟨hs1, ha1⟩ := hM5.size
        obtain ⟨hs2, ha2⟩ := HT.size
        go_wp2_with fail
        refine hK.out _ _ hb5 (fun hHeld2 => ?_)
        clear hK K hHeld bc hbad hb5 hM5 o1
        have hHeld := hHeld2
        clear hHeld2
        refine tkH 5 rfl (by kernel_rfl) (fun _ _ _ h => h) (by assumption) (by intro wz hSz; (try dsimp only at hSz); go_simp; (try with_reducible rfl)) ?_
        simp only [nmz]
        refine tkH 6 rfl (by kernel_rfl) (fun _ _ _ h => h) (by assumption) (by intro wz hSz; (try dsimp only at hSz); go_simp; (try with_reducible rfl)) ?_
        simp only [nmz]
        refine tkH 7 rfl (by kernel_rfl) (fun _ _ _ h => h) (by assumption) (by intro wz hSz; (try dsimp only at hSz); go_simp; (try with_reducible rfl)) ?_
        simp only [nmz]
        refine tkH 8 rfl (by kernel_rfl) (fun _ _ _ h => h) (by assumption) (by intro wz hSz; (try dsimp only at hSz); go_simp; (try with_reducible rfl)) ?_
        simp only [nmz]
        refine wpHeld_oneL (i := 11) (by kernel_rfl) (by rfl) (fun K hK => ?_)
        refine step_store_row rfl 33 (.tmp 5) (.tmp 28) rfl n9 cs1 rfl rfl _ _ X9 (by rw [infoM, hs1]) (by rw [hs1]; rfl) ha1 ?_
        refine hK.out _ _ (bel_setRow l9 hHeld _) (fun hHeld2 => ?_)
        clear hK K
        simp only [Act.put]
        refine wpHeld_oneL (i := 12) (by kernel_rfl) (by rfl) (fun K hK => ?_)
        refine step_store_row rfl 40 (.tmp 6) (.tmp 29) rfl n10 cs2 rfl rfl _ _ (X10.otherRow (by omega) cs1) (by rw [infoTo, hs2]) (by rw [hs2]; rfl) ha2 ?_
        refine hK.out _ _ (bel_setRow l10 hHeld2 _) (fun hHeld3 => ?_)
        clear hK K
        simp only [Act.put]
        refine tkH 13 rfl (by kernel_rfl) (fun _ _ _ h => h) (by assumption) (by intro wz hSz; (try dsimp only at hSz); go_simp; (try with_reducible rfl)) ?_
        simp only [nmz]
        refine wpAnyH_done (by kernel_rfl) ?_ _
        go_wp2_with fail
        go_meet
        exact ⟨n10, cs2, rfl, rfl, (X10.otherRow (by omega) cs1).setRow cs2, HT.kept ((K5.setRow b9 cs1).setRow b10 cs2) o2 (fun _ h => h), hHeld3⟩
  case rest =>
    obtain ⟨n6, cs2, rfl, rfl, X6, HT, bc⟩ := hcut
    have X0 := X0.keep bc
    have HM : Hid (IsM wc (plMc m) cs0) := HM.out.keep bc
    have B3 : Hid (Below w.heap.size w wc) := bel_trans B2.out bc
    obtain ⟨wA, rfl⟩ : ∃ wA, wA = wc := ⟨wc, rfl⟩
    clear bc X1 HSd hsz1
    by_cases h0 : E = 0
    rotate_left
    · have q : (E != 0) = true := by simpa using h0
      clear h0 HT X6
      go_wp2_with fail
      go_ret
      exact ⟨rfl, B3.out⟩
    subst h0
    have q : ((0 : Int) != 0) = false := rfl
    obtain ⟨a4, n4, c4, a5, n5, c5, rfl, -, ht5⟩ := HT
    obtain ⟨td, tdat, tf, ttch⟩ := T
    dsimp only at X6 ht5
    have HTC : Hid (∀ u ∈ ttch, frE [plMc m] u = 0 ∧ ∀ k, IsLast [plMc m] u k → k = 0) := fun u hu => by
      have FI : FairI [plMc m] (fun _ _ => 0) (plMc m) := FairI.first HCM.out rfl
      obtain ⟨g1, g2⟩ := FI.touch (x := ⟨3, 0, d, a, n, f, ds⟩) (by simp) HEE.out HYT.out rfl hu
      refine ⟨g1, fun k hk => ?_⟩
      have g3 := g2 k hk
      have g4 := hk.1.2
      simp at g4
      omega
    have HT5 : Hid (Ts wA (.slice a5 n5 c5) ttch) := ht5
    have hn5 : n5 = ttch.length := by obtain ⟨_, _, e, _⟩ := ht5; simp only [Value.slice.injEq] at e; exact e.2.1
    have htl : ttch.length ≤ maxLen := by obtain ⟨_, _, _, e1, e2, _⟩ := ht5; omega
    unfold maxLen at htl
    subst hn5
    obtain ⟨z0, z1, z2, z3, -, -, -, -, s8⟩ := X6.four
    have HI : (Tryz.prog.info? 33).map (·.size) = some cs0.size := by rw [infoM, hs0]
    go_wp2_with fail
    clear z0 z1 z2 z3 s8 X6 ht5 q
    go_loopw [9, 10, 11, 36] (fun _ _ _ s wx => ∃ j : Nat, s = J j ∧ j ≤ ttch.length ∧ Below wA.heap.size wA wx) (fun _ _ _ s _ => ttch.length - (intOf s).toNat)
    case atStart => exact ⟨0, rfl, Nat.zero_le _, Below.refl _ _⟩
    case round =>
      obtain ⟨j, rfl, hj, hb⟩ := hrel
      have HJ : Hid (Below wA.heap.size wA wr) := hb
      clear hb
      by_cases hlt2 : j < ttch.length
      rotate_left
      · obtain rfl : j = ttch.length := by omega
        go_wp2_with fail
        go_ret
        exact ⟨rfl, bel_trans B3.out HJ.out⟩
      obtain ⟨b2, o2, hva, hbl2, t0, t1, t2, t3, t4⟩ := ts_at HT5.out HJ.out hlt2
      subst hva
      obtain ⟨e4, e5⟩ := HTC.out (tth ttch j) (by rw [tth_get hlt2]; exact List.getElem_mem _)
      obtain ⟨⟨ud, us, ua2, uw, uv⟩, hu⟩ : ∃ u, tth ttch j = u := ⟨_, rfl⟩
      rw [hu] at t0 t1 t2 t3 t4 e4 e5
      dsimp only at t0 t1 t2 t3 t4
      have HE4 : Hid (frE [plMc m] (ud, us, ua2, uw, uv) = 0) := e4
      have HE5 : Hid (∀ k, IsLast [plMc m] (ud, us, ua2, uw, uv) k → k = 0) := e5
      have hlt3 : (j : Int) < (ttch.length : Int) := by omega
      clear hu e4 e5
      go_upto_region 10 with fail
      have Z13 : Box (wr.alloc (.cells #[J ud, J us, J ua2, .bool uw, J uv] 72)) wr.heap.size 72 #[J ud, J us, J ua2, .bool uw, J uv] := Box.newAt rfl _ _
      have BV : Hid (Below wA.heap.size wA (wr.alloc (.cells #[J ud, J us, J ua2, .bool uw, J uv] 72))) := bel_alloc HJ.out _
      have Z0 := X0.keep BV.out
      clear t0 t1 t2 t3 t4
      generalize (wr.alloc (.cells #[J ud, J us, J ua2, .bool uw, J uv] 72)) = V9 at *
      generalize wr.heap.size = n13 at *
      have Z14 := Z13.past (.cells cs0 33)
      obtain ⟨t0, t1, t2, t3, t4⟩ := Z14.blk.five
      have sT := Z14.lt
      go_wp2_with (first
        | fail
        | (refine wpList_load_row rfl 33 (.tmp 2) rfl (w.heap.size) rfl _ _ _ _ Z0 Tryz.underlying33 rfl HI ?_)
        | (refine wpList_built1 rfl (.tmp 41) rfl rfl hs0 ?_))
      have BU : Hid (Below V9.heap.size V9 (V9.alloc (.cells cs0 33))) := bel_alloc (Below.refl _ _) _
      refine (fair_any (l := [plMc m]) (ms_one (Box.newAt rfl 33 _) (HM.out.keep (bel_trans BV.out BU.out)))).mono ?_
      rintro e w7 ⟨k, rfl, h7, -, b7⟩
      obtain rfl := HE5.out k (h7 HE4.out)
      rw [HE4.out]
      have HB7 : Hid (Below wA.heap.size wA w7) := bel_trans BV.out (bel_trans BU.out b7)
      clear h7 b7 BU BV Z13 Z14 Z0 t0 t1 t2 t3 t4 sT
      go_wp2_with fail
      exact ⟨⟨j + 1, by go_num, by omega, HB7.out⟩, by simp [intOf]; omega⟩
theorem aown_walk (u : Value) (zs : List Int) (p : Int) (v : Value) (r : List Int) (d : Bool) (mo ba op oh ot fe fp fh ft : Int) (st lo : Bool) (vc : Value) (l : List Ln) (x y z : Int) (f : Bool) (u1 : Value) (ds : List Int) (w : World) (hm : Sl w u zs ∧ Sl w v r ∧ Ls w vc l) (hs : Slc w u1 ds) :
    Calls Tryz.prog 9 #[.agg #[u, J p, v, .bool d, J mo, J ba, vc, J op, J oh, J ot, .bool st, J fe, J fp, J fh, J ft, .bool lo], .agg #[J x, J y, J z, .bool f, u1]] w fun e w' => e = .returned (.bool true) ∧ Below w.heap.size w w' := aown_row (isM_any hm) hs
end Go.Proofs.YthlhocneggcekaaGreat
