/-
  MachineParts: a script in two runs does what it does in one, for every machine, every script and every number; no condition.
  Laid together: MPartsWalk, Open0, MachineParts.
-/
import Derived.Test.YthlhocneggcekaaGreatB1
import Derived.Test.YthlhocneggcekaaGreatB2
import Derived.Test.YthlhocneggcekaaGreatB3
import Derived.Test.YthlhocneggcekaaGreatB4
import Derived.Test.YthlhocneggcekaaGreatB5
import Derived.Test.YthlhocneggcekaaGreatB6
import Derived.Test.YthlhocneggcekaaGreatB7
import Derived.Test.YthlhocneggcekaaGreatB8
import Derived.Test.YthlhocneggcekaaGreatB9
import Derived.Test.YthlhocneggcekaaGreatB10
import Derived.Test.YthlhocneggcekaaGreatB11
import Derived.Test.YthlhocneggcekaaGreatB12
import Derived.Test.YthlhocneggcekaaGreatB13
import Derived.Test.YthlhocneggcekaaGreatB14
import Derived.Test.YthlhocneggcekaaGreatB15
import Derived.Test.YthlhocneggcekaaGreatB16
import Derived.Test.YthlhocneggcekaaGreatB17
import Derived.Test.YthlhocneggcekaaGreatB18
import Derived.Test.YthlhocneggcekaaGreatB19
import Derived.Test.YthlhocneggcekaaGreatB20
import Derived.Test.YthlhocneggcekaaGreatB21
import Derived.Test.YthlhocneggcekaaGreatB22
import Derived.Test.YthlhocneggcekaaGreatB23
import Derived.Test.YthlhocneggcekaaGreatB24
import Derived.Test.YthlhocneggcekaaGreatB25
import Derived.Test.YthlhocneggcekaaGreatB26
import Derived.Test.YthlhocneggcekaaGreatB27
import Derived.Test.YthlhocneggcekaaGreatB28
import Derived.Test.YthlhocneggcekaaGreatB29
import Derived.Test.YthlhocneggcekaaGreatB30
import Derived.Test.YthlhocneggcekaaGreatB31
import Derived.Test.YthlhocneggcekaaGreatB32
import Derived.Test.YthlhocneggcekaaGreatB33
import Derived.Test.YthlhocneggcekaaGreatB34
import Derived.Test.YthlhocneggcekaaGreatB35
import Derived.Test.YthlhocneggcekaaGreatB36
import Derived.Test.YthlhocneggcekaaGreatB37
import Derived.Test.YthlhocneggcekaaGreatB38
import Derived.Test.YthlhocneggcekaaGreatB39
import Derived.Test.YthlhocneggcekaaGreatB40
import Derived.Test.YthlhocneggcekaaGreatB41
import Derived.Test.YthlhocneggcekaaGreatB42
import Derived.Test.YthlhocneggcekaaGreatB43
import Derived.Test.YthlhocneggcekaaGreatB44
import Derived.Test.YthlhocneggcekaaGreatP1
import Derived.Test.YthlhocneggcekaaGreatP2
import Derived.Lib.AppendZerosOnto
import Derived.Lib.SliceRun
import Derived.ProofKit
import Derived.OpenShut
import Derived.ShutString
import Derived.ChangeOld
namespace Go.Proofs.YthlhocneggcekaaGreat
open Go.RowKit
theorem mRun_at {m : Mc} {l : List Hp} {Y : Mc} {ts : List To} {es : List Int} {cs : Array Value} {v : Value} {w : World} (hm : IsM w m cs) (hl : Hps w v l) (h0 : rnE m l = 0) (hR : rnM m l = (Y, ts, es)) :
    Calls Tryz.prog 23 #[.agg cs, v] w fun e w' => ∃ cs1 a1 c1 a2 c2, e = .returned (.tuple #[.agg cs1, .slice a1 ts.length c1, .slice a2 es.length c2, J 0]) ∧ IsM w' Y cs1 ∧ Tos w' w.heap.size (.slice a1 ts.length c1) ts ∧ Sl w' (.slice a2 es.length c2) es ∧
      OffRow (fun q => q < w.heap.size) cs1 ∧ Fresh w.heap.size (.slice a1 ts.length c1) ∧ Fresh w.heap.size (.slice a2 es.length c2) ∧ Below w.heap.size w w' := by
  refine (mRun_row hm hl).mono ?_
  rintro e w' ⟨cs1, a1, c1, a2, c2, rfl, h1, h2, h3, h4, h5, h6, h7⟩
  rw [rnX_ok h0, hR] at *
  rw [h0]
  exact ⟨cs1, a1, c1, a2, c2, rfl, h1, h2, h3, h4, h5, h6, h7⟩
theorem rnE_zero {m : Mc} {l : List Hp} (h : rnE m l = 0) : chkM m = 0 ∧ l.length ≤ 120 := by
  unfold rnE at h
  split at h
  · split at h
    · exact ⟨by assumption, by assumption⟩
    · simp at h
  · contradiction
theorem Tos.mono {w : World} {a b : Nat} {v : Value} {ts : List To} (h : Tos w b v ts) (k : a ≤ b) : Tos w a v ts := by
  obtain ⟨qs, h1, h2⟩ := h
  exact ⟨qs, h1, h2.mono k⟩
theorem exec_slice {a : Act} {o : Oper} {t : TypeId} {x : Operand} {lo hi mx : Option Operand} {v : Value} {w : World} (ho : o.op = .slice t x lo hi mx) (h : (Instr.sliceAt t (a.eval x) (lo.map a.eval) (hi.map a.eval) (mx.map a.eval)).run Tryz.prog w = .ok v w) : (execOp a.eval o).run Tryz.prog w = .ok (.value v) w := by
  unfold execOp
  simp only [ho, Sem.run_bind, h, Result.andThen_ok, Sem.run_pure]
def PartA (Y : Mc) (ts : List To) (es : List Int) (W : World) (s1 s2 s3 s4 : Value) (wx : World) : Prop := ∃ n cs1 a1 c1 a2 c2, s1 = .pointer (some ⟨n, 0, none⟩) ∧ s2 = .slice a1 ts.length c1 ∧ s3 = .slice a2 es.length c2 ∧ s4 = J 0 ∧ Box wx n 33 cs1 ∧ IsM wx Y cs1 ∧ Tos wx W.heap.size (.slice a1 ts.length c1) ts ∧ Sl wx (.slice a2 es.length c2) es ∧ W.heap.size ≤ n ∧ Below W.heap.size W wx
set_option maxRecDepth 10000 in
set_option maxHeartbeats 4000000 in
theorem mparts_bad {m : Mc} {l : List Hp} {cs : Array Value} {v : Value} {k : Int} {w : World} (hm : IsM w m cs) (hl : Hps w v l) (hE : ¬ rnE m l = 0) :
    Calls Tryz.prog 6 #[.agg cs, v, J k] w fun e w' => e = .returned (.bool true) ∧ Below w.heap.size w w' := by
  have HM : Hid (IsM w m cs) := hm
  have HL : Hid (Hps w v l) := hl
  obtain ⟨va, vk, rfl⟩ := hl.shape
  have hc16 : cs.size = 16 := hm.size.1
  have X0 := Box.newAt (w := w) (n := w.heap.size) rfl 33 cs
  have BW : Hid (Below w.heap.size w (w.alloc (.cells cs 33))) := bel_alloc (Below.refl w.heap.size w) _
  clear hm hl
  go_enter Tryz.func6, Tryz.ntmps6
  go_upto_region 1 with fail
  (try simp only [Value.cells])
  generalize (w.alloc (.cells cs 33)) = W at *
  have HI : (Tryz.prog.info? 33).map (·.size) = some cs.size := by rw [infoM, hc16]
  go_wp2_with (first
    | fail
    | (refine wpList_load_row rfl 33 (.tmp 3) rfl w.heap.size rfl _ _ _ _ X0 Tryz.underlying33 rfl HI ?_))
  refine (mRun_row (HM.out.keep BW.out) (HL.out.keep BW.out)).mono ?_
  rintro e w1 ⟨cs1, a1, c1, a2, c2, rfl, IM, -, -, -, -, -, b1⟩
  obtain ⟨E, hEE⟩ : ∃ E, rnE m l = E := ⟨_, rfl⟩
  obtain ⟨⟨Y, ts, es⟩, hR⟩ : ∃ R, rnX m l = R := ⟨_, rfl⟩
  rw [hEE] at hE ⊢
  rw [hR] at IM ⊢
  clear hEE hR
  dsimp only at IM ⊢
  have q : (E != 0) = true := by simpa using hE
  obtain ⟨hs1, ha1⟩ := IM.size
  have B1 : Hid (Below w.heap.size w w1) := bel_trans BW.out b1
  have hn : w.heap.size ≤ w1.heap.size := B1.out.size
  clear hE BW X0 HI b1
  have Z7 : Box (w1.alloc (.cells #[.slice none 0 0, J 0, .slice none 0 0, .bool false, J 0, J 0, .slice none 0 0, J 0, J 0, J 0, .bool false, J 0, J 0, J 0, J 0, .bool false] 33)) w1.heap.size 33 zeroM := Box.newAt rfl _ _
  have B2 : Hid (Below w.heap.size w ((w1.alloc (.cells #[.slice none 0 0, J 0, .slice none 0 0, .bool false, J 0, J 0, .slice none 0 0, J 0, J 0, J 0, .bool false, J 0, J 0, J 0, J 0, .bool false] 33)).setRow w1.heap.size cs1)) := bel_setRow hn (bel_alloc B1.out _) _
  go_upto_region 2 with (first
    | fail
    | (refine wpList_store_row rfl 33 (.tmp 7) (.tmp 22) rfl w1.heap.size cs1 rfl rfl _ _ Z7 (by rw [infoM, hs1]) (by rw [hs1]; rfl) ha1 ?_))
  clear Z7
  generalize ((w1.alloc (.cells #[.slice none 0 0, J 0, .slice none 0 0, .bool false, J 0, J 0, .slice none 0 0, J 0, J 0, J 0, .bool false, J 0, J 0, J 0, J 0, .bool false] 33)).setRow w1.heap.size cs1) = w2 at *
  go_wp2_with fail
  refine (driven_true _).mono ?_
  rintro e w3 ⟨rfl, b3⟩
  go_wp2_with fail
  refine (driven_true _).mono ?_
  rintro e w4 ⟨rfl, b4⟩
  go_wp2_with fail
  go_ret
  exact ⟨rfl, bel_trans B2.out (bel_trans b3 b4)⟩
set_option maxRecDepth 10000 in
set_option maxHeartbeats 4000000 in
theorem mparts_ok {m : Mc} {l : List Hp} {cs : Array Value} {v : Value} {k : Int} {w : World} (hm : IsM w m cs) (hl : Hps w v l) (hE : rnE m l = 0) :
    Calls Tryz.prog 6 #[.agg cs, v, J k] w fun e w' => e = .returned (.bool true) ∧ Below w.heap.size w w' := by
  obtain ⟨hc0, hl120⟩ := rnE_zero hE
  obtain ⟨⟨x, told, said⟩, hR⟩ : ∃ R, rnM m l = R := ⟨_, rfl⟩
  have HR : Hid (rnM m l = (x, told, said)) := hR
  have HE : Hid (rnE m l = 0) := hE
  have HC0 : Hid (chkM m = 0) := hc0
  have HM : Hid (IsM w m cs) := hm
  have HL : Hid (Hps w v l) := hl
  obtain ⟨va, vk, rfl⟩ := hl.shape
  have hc16 : cs.size = 16 := hm.size.1
  have HC16 : Hid (cs.size = 16) := hc16
  have X0 := Box.newAt (w := w) (n := w.heap.size) rfl 33 cs
  have BW : Hid (Below w.heap.size w (w.alloc (.cells cs 33))) := bel_alloc (Below.refl w.heap.size w) _
  clear hm hl hc0 hE hR
  go_enter Tryz.func6, Tryz.ntmps6
  go_upto_region 1 with fail
  (try simp only [Value.cells])
  generalize (w.alloc (.cells cs 33)) = W at *
  have HI : (Tryz.prog.info? 33).map (·.size) = some cs.size := by rw [infoM, hc16]
  go_wp2_with (first
    | fail
    | (refine wpList_load_row rfl 33 (.tmp 3) rfl w.heap.size rfl _ _ _ _ X0 Tryz.underlying33 rfl HI ?_))
  refine (mRun_at (HM.out.keep BW.out) (HL.out.keep BW.out) HE.out HR.out).mono ?_
  rintro e w1 ⟨cs1, a1, c1, a2, c2, rfl, IM, TT, SS, -, -, -, b1⟩
  obtain ⟨hs1, ha1⟩ := IM.size
  have B1 : Hid (Below w.heap.size w w1) := bel_trans BW.out b1
  have hn : w.heap.size ≤ w1.heap.size := B1.out.size
  have Z7 : Box (w1.alloc (.cells #[.slice none 0 0, J 0, .slice none 0 0, .bool false, J 0, J 0, .slice none 0 0, J 0, J 0, J 0, .bool false, J 0, J 0, J 0, J 0, .bool false] 33)) w1.heap.size 33 zeroM := Box.newAt rfl _ _
  have B2 : Below w1.heap.size w1 ((w1.alloc (.cells #[.slice none 0 0, J 0, .slice none 0 0, .bool false, J 0, J 0, .slice none 0 0, J 0, J 0, J 0, .bool false, J 0, J 0, J 0, J 0, .bool false] 33)).setRow w1.heap.size cs1) := bel_setRow (Nat.le_refl _) (bel_alloc (Below.refl _ _) _) _
  have X0 := (X0.keep b1).keep B2
  have IM := IM.keep B2
  have TT := TT.keep B2
  have SS := SS.keep B2
  have X7 := Z7.setRow cs1
  have B2h : Hid (Below w.heap.size w _) := bel_trans B1.out B2
  clear B2
  clear BW HI b1 hc16 B1 hn
  go_upto_region 2 with (first
    | fail
    | (refine wpList_store_row rfl 33 (.tmp 7) (.tmp 22) rfl w1.heap.size cs1 rfl rfl _ _ Z7 (by rw [infoM, hs1]) (by rw [hs1]; rfl) ha1 ?_))
  clear Z7
  generalize ((w1.alloc (.cells #[.slice none 0 0, J 0, .slice none 0 0, .bool false, J 0, J 0, .slice none 0 0, J 0, J 0, J 0, .bool false, J 0, J 0, J 0, J 0, .bool false] 33)).setRow w1.heap.size cs1) = w2 at *
  generalize w1.heap.size = n7 at *
  go_wp2_with fail
  refine (driven_true _).mono ?_
  rintro e w3 ⟨rfl, b3⟩
  have X0 := X0.keep b3
  have X7 := X7.keep b3
  have IM := IM.keep b3
  have TT := TT.keep b3
  have SS := SS.keep b3
  have B3 : Hid (Below w.heap.size w w3) := bel_trans B2h.out b3
  clear b3 B2h
  have q : ((0 : Int) != 0) = false := rfl
  have hadd : (l.length : Int) + 1 ≤ 1000 := by omega
  have hnn : (0 : Int) ≤ l.length := by omega
  have IMx : Hid (IsM w3 x cs1) := IM
  have TTx : Hid (Tos w3 W.heap.size (.slice a1 told.length c1) told) := TT
  have SSx : Hid (Sl w3 (.slice a2 said.length c2) said) := SS
  clear IM TT SS
  go_wp2_with fail
  refine (atN_any k (n := l.length + 1) (by omega) (by omega) _).mono ?_
  rintro e w4 ⟨n, hn, rfl, rfl⟩
  have hnl : n ≤ l.length := by omega
  have HL4 : Hid (Hps w4 (.slice va l.length vk) l) := HL.out.keep B3.out
  obtain ⟨b1, hs1', hp1⟩ := cut_to HL4.out hnl
  obtain ⟨b2, hs2', hp2⟩ := cut_from HL4.out hnl
  have HS1 : Hid (∀ w', (Instr.sliceAt 56 (.slice va l.length vk) none (some (J n)) none).run Tryz.prog w' = .ok (.slice b1 n vk) w') := hs1'
  have HS2 : Hid (∀ w', (Instr.sliceAt 56 (.slice va l.length vk) (some (J n)) none none).run Tryz.prog w' = .ok (.slice b2 (l.length - n) (vk - n)) w') := hs2'
  have HP1 : Hid (Hps w4 (.slice b1 n vk) (l.take n)) := hp1
  have HP2 : Hid (Hps w4 (.slice b2 (l.length - n) (vk - n)) (l.drop n)) := hp2
  obtain ⟨⟨y, t, a⟩, hy⟩ : ∃ R, rnM m (l.take n) = R := ⟨_, rfl⟩
  obtain ⟨⟨z, u, b⟩, hz⟩ : ∃ R, rnM y (l.drop n) = R := ⟨_, rfl⟩
  have hcy : chkM y = 0 := by have := rnM_good (l.take n) m HC0.out; rw [hy] at this; exact this
  have HE1 : Hid (rnE m (l.take n) = 0) := rnE_ok HC0.out (by rw [List.length_take]; omega)
  have HE2 : Hid (rnE y (l.drop n) = 0) := rnE_ok hcy (by rw [List.length_drop]; omega)
  have HR1 : Hid (rnM m (l.take n) = (y, t, a)) := hy
  have HR2 : Hid (rnM y (l.drop n) = (z, u, b)) := hz
  have HALL : Hid (x = z ∧ told = t ++ u ∧ said = a ++ b) := by
    have e := rnM_two (l.take n) (l.drop n) m
    rw [List.take_append_drop, HR.out, hy] at e
    dsimp only at e
    rw [hz] at e
    simp only [Prod.mk.injEq] at e
    exact e
  have hlen : Hid (told.length = l.length ∧ said.length = l.length) := by have := rnM_len l m; rw [HR.out] at this; exact this
  have HM4 : Hid (IsM w4 m cs) := HM.out.keep B3.out
  clear hs1' hs2' hp1 hp2 hy hz hcy q hadd hnn hs1 ha1 hn HM HL HL4 HR
  go_upto_region 5 with fail
  go_cut [11, 12, 13, 10] from 38 to 48 (fun s1 s2 s3 s4 wx => PartA y t a w4 s1 s2 s3 s4 wx)
  case first =>
    clear X7 HP2 HS2 hlen hnl
    refine wp_region_held_drew (S := fun w' => Below w4.heap.size w4 w') (by kernel_rfl) (Below.drew (Below.refl _ _)) (fun hHeld => ?_)
    refine wpHeld_takeL (i := 0) (v := .agg cs) rfl (by kernel_rfl) (by kernel_rfl) (by kernel_rfl) (fun _ _ _ h => h) (yields_row (by kernel_rfl) 33 (.tmp 3) rfl rfl (fun _ hSz => (X0.keep hSz).loadM HC16.out)) (by assumption) ?_
    simp only [nmz]
    refine tkH 1 rfl (by kernel_rfl) (fun _ _ _ h => h) (by assumption) (by intro wz hSz; (try dsimp only at hSz); go_simp; (try with_reducible rfl)) ?_
    simp only [nmz]
    refine tkH 2 rfl (by kernel_rfl) (fun _ _ _ h => h) (by assumption) (by intro wz hSz; (try dsimp only at hSz); go_simp; (try with_reducible rfl)) ?_
    simp only [nmz]
    refine wpHeld_takeL (i := 3) (v := .slice b1 n vk) rfl (by kernel_rfl) (by kernel_rfl) (by kernel_rfl) (fun _ _ _ h => h) (Or.inl ⟨by kernel_rfl, fun wz _ => exec_slice rfl (HS1.out wz)⟩) (by assumption) ?_
    simp only [nmz]
    generalize w4.drew = v0 at *
    refine wpHeld_twoL (i := 4) (j := 10) (by kernel_rfl) (by rfl) (by rfl) (fun K hK => ?_) (fun K hK => ?_)
    · go_simp
      refine (mRun_at (HM4.out.keep hHeld) (HP1.out.keep hHeld) HE1.out HR1.out).mono ?_
      rintro e w5 ⟨cs1, a1, c1, a2, c2, rfl, IM, TT, SS, OR, F1, F2, b5⟩
      obtain ⟨hs1, ha1⟩ := IM.size
      have hb5 := bel_trans hHeld b5
      go_wp2_with fail
      refine hK.out _ _ hb5 (fun _ => ?_)
      clear hK K
      have hz := hHeld.size
      have hz5 := b5.size
      clear hHeld b5
      have hHeld := hb5
      clear hb5
      refine tkH 5 rfl (by kernel_rfl) (fun _ _ _ h => h) (by assumption) (by intro wz hSz; (try dsimp only at hSz); go_simp; (try with_reducible rfl)) ?_
      simp only [nmz]
      refine tkH 6 rfl (by kernel_rfl) (fun _ _ _ h => h) (by assumption) (by intro wz hSz; (try dsimp only at hSz); go_simp; (try with_reducible rfl)) ?_
      simp only [nmz]
      refine tkH 7 rfl (by kernel_rfl) (fun _ _ _ h => h) (by assumption) (by intro wz hSz; (try dsimp only at hSz); go_simp; (try with_reducible rfl)) ?_
      simp only [nmz]
      refine tkH 8 rfl (by kernel_rfl) (fun _ _ _ h => h) (by assumption) (by intro wz hSz; (try dsimp only at hSz); go_simp; (try with_reducible rfl)) ?_
      simp only [nmz]
      refine tkH 9 rfl (by kernel_rfl) (fun _ _ _ h => h) (by assumption) (by intro wz hSz; (try dsimp only at hSz); go_simp; (try with_reducible rfl)) ?_
      simp only [nmz]
      refine wpHeld_oneL (i := 10) (by kernel_rfl) (by rfl) (fun K hK => ?_)
      go_simp
      have hb' : Below w4.heap.size w4 (w5.alloc (.cells #[.slice none 0 0, J 0, .slice none 0 0, .bool false, J 0, J 0, .slice none 0 0, J 0, J 0, J 0, .bool false, J 0, J 0, J 0, J 0, .bool false] 33)) := bel_alloc hHeld _
      refine hK.out _ _ hb' (fun _ => ?_)
      clear hK K
      obtain ⟨n9, hn⟩ : ∃ n, n = w5.heap.size := ⟨_, rfl⟩
      rw [← hn]
      have l9 : w4.heap.size ≤ n9 := by rw [hn]; exact hHeld.size
      have X9 : Box (w5.alloc (.cells #[.slice none 0 0, J 0, .slice none 0 0, .bool false, J 0, J 0, .slice none 0 0, J 0, J 0, J 0, .bool false, J 0, J 0, J 0, J 0, .bool false] 33)) n9 33 zeroM := Box.newAt hn _ _
      have B6 : Below w5.heap.size w5 (w5.alloc (.cells #[.slice none 0 0, J 0, .slice none 0 0, .bool false, J 0, J 0, .slice none 0 0, J 0, J 0, J 0, .bool false, J 0, J 0, J 0, J 0, .bool false] 33)) := bel_alloc (Below.refl _ _) _
      have hn5 : w5.heap.size ≤ n9 := by rw [hn]; exact Nat.le_refl _
      clear hHeld hn
      have hHeld := hb'
      clear hb'
      generalize (w5.alloc (.cells #[.slice none 0 0, J 0, .slice none 0 0, .bool false, J 0, J 0, .slice none 0 0, J 0, J 0, J 0, .bool false, J 0, J 0, J 0, J 0, .bool false] 33)) = w6 at *
      refine wpHeld_oneL (i := 11) (by kernel_rfl) (by rfl) (fun K hK => ?_)
      refine step_store_row rfl 33 (.tmp 11) (.tmp 44) rfl n9 cs1 rfl rfl _ _ X9 (by rw [infoM, hs1]) (by rw [hs1]; rfl) ha1 ?_
      refine hK.out _ _ (bel_setRow l9 hHeld _) (fun hHeld2 => ?_)
      clear hK K
      simp only [Act.put]
      refine tkH 12 rfl (by kernel_rfl) (fun _ _ _ h => h) (by assumption) (by intro wz hSz; (try dsimp only at hSz); go_simp; (try with_reducible rfl)) ?_
      simp only [nmz]
      refine tkH 13 rfl (by kernel_rfl) (fun _ _ _ h => h) (by assumption) (by intro wz hSz; (try dsimp only at hSz); go_simp; (try with_reducible rfl)) ?_
      simp only [nmz]
      refine tkH 14 rfl (by kernel_rfl) (fun _ _ _ h => h) (by assumption) (by intro wz hSz; (try dsimp only at hSz); go_simp; (try with_reducible rfl)) ?_
      simp only [nmz]
      refine wpAnyH_done (by kernel_rfl) ?_ _
      go_wp2_with fail
      go_meet
      have B7 := bel_setRow hn5 B6 cs1
      exact ⟨n9, cs1, a1, c1, a2, c2, rfl, rfl, rfl, rfl, X9.setRow cs1, IM.keep B7, (TT.keep B7).mono (by omega), SS.keep B7, l9, hHeld2⟩
    · go_simp
      have hb' : Below w4.heap.size w4 (v0.alloc (.cells #[.slice none 0 0, J 0, .slice none 0 0, .bool false, J 0, J 0, .slice none 0 0, J 0, J 0, J 0, .bool false, J 0, J 0, J 0, J 0, .bool false] 33)) := bel_alloc hHeld _
      refine hK.out _ _ hb' (fun _ => ?_)
      clear hK K
      obtain ⟨n9, hn⟩ : ∃ n, n = v0.heap.size := ⟨_, rfl⟩
      rw [← hn]
      have l9 : w4.heap.size ≤ n9 := by rw [hn]; exact hHeld.size
      have X9 : Box (v0.alloc (.cells #[.slice none 0 0, J 0, .slice none 0 0, .bool false, J 0, J 0, .slice none 0 0, J 0, J 0, J 0, .bool false, J 0, J 0, J 0, J 0, .bool false] 33)) n9 33 zeroM := Box.newAt hn _ _
      have hlt : n9 < (v0.alloc (.cells #[.slice none 0 0, J 0, .slice none 0 0, .bool false, J 0, J 0, .slice none 0 0, J 0, J 0, J 0, .bool false, J 0, J 0, J 0, J 0, .bool false] 33)).heap.size := X9.lt
      clear hHeld hn
      have hHeld := hb'
      clear hb'
      generalize (v0.alloc (.cells #[.slice none 0 0, J 0, .slice none 0 0, .bool false, J 0, J 0, .slice none 0 0, J 0, J 0, J 0, .bool false, J 0, J 0, J 0, J 0, .bool false] 33)) = v1 at *
      refine wpHeld_oneL (i := 4) (by kernel_rfl) (by rfl) (fun K hK => ?_)
      go_simp
      refine (mRun_at (HM4.out.keep hHeld) (HP1.out.keep hHeld) HE1.out HR1.out).mono ?_
      rintro e w5 ⟨cs1, a1, c1, a2, c2, rfl, IM, TT, SS, OR, F1, F2, b5⟩
      obtain ⟨hs1, ha1⟩ := IM.size
      have hb5 := bel_trans hHeld b5
      go_wp2_with fail
      refine hK.out _ _ hb5 (fun _ => ?_)
      clear hK K
      have hz := hHeld.size
      have hz5 := b5.size
      have X9 := X9.keep b5
      clear hHeld b5
      have hHeld := hb5
      clear hb5
      refine tkH 5 rfl (by kernel_rfl) (fun _ _ _ h => h) (by assumption) (by intro wz hSz; (try dsimp only at hSz); go_simp; (try with_reducible rfl)) ?_
      simp only [nmz]
      refine tkH 6 rfl (by kernel_rfl) (fun _ _ _ h => h) (by assumption) (by intro wz hSz; (try dsimp only at hSz); go_simp; (try with_reducible rfl)) ?_
      simp only [nmz]
      refine tkH 7 rfl (by kernel_rfl) (fun _ _ _ h => h) (by assumption) (by intro wz hSz; (try dsimp only at hSz); go_simp; (try with_reducible rfl)) ?_
      simp only [nmz]
      refine tkH 8 rfl (by kernel_rfl) (fun _ _ _ h => h) (by assumption) (by intro wz hSz; (try dsimp only at hSz); go_simp; (try with_reducible rfl)) ?_
      simp only [nmz]
      refine tkH 9 rfl (by kernel_rfl) (fun _ _ _ h => h) (by assumption) (by intro wz hSz; (try dsimp only at hSz); go_simp; (try with_reducible rfl)) ?_
      simp only [nmz]
      refine wpHeld_oneL (i := 11) (by kernel_rfl) (by rfl) (fun K hK => ?_)
      refine step_store_row rfl 33 (.tmp 11) (.tmp 44) rfl n9 cs1 rfl rfl _ _ X9 (by rw [infoM, hs1]) (by rw [hs1]; rfl) ha1 ?_
      refine hK.out _ _ (bel_setRow l9 hHeld _) (fun hHeld2 => ?_)
      clear hK K
      simp only [Act.put]
      refine tkH 12 rfl (by kernel_rfl) (fun _ _ _ h => h) (by assumption) (by intro wz hSz; (try dsimp only at hSz); go_simp; (try with_reducible rfl)) ?_
      simp only [nmz]
      refine tkH 13 rfl (by kernel_rfl) (fun _ _ _ h => h) (by assumption) (by intro wz hSz; (try dsimp only at hSz); go_simp; (try with_reducible rfl)) ?_
      simp only [nmz]
      refine tkH 14 rfl (by kernel_rfl) (fun _ _ _ h => h) (by assumption) (by intro wz hSz; (try dsimp only at hSz); go_simp; (try with_reducible rfl)) ?_
      simp only [nmz]
      refine wpAnyH_done (by kernel_rfl) ?_ _
      go_wp2_with fail
      go_meet
      have K7 : KeptB (fun q => q = n9) w5 (w5.setRow n9 cs1) := (KeptB.refl (fun q => q = n9) w5).setRow (n := n9) (.inl rfl) _
      exact ⟨n9, cs1, a1, c1, a2, c2, rfl, rfl, rfl, rfl, X9.setRow cs1, IM.kept K7 OR (fun q hq => by (try dsimp only at hq ⊢); omega), (TT.kept K7 F1 (fun q hq => by (try dsimp only at hq); omega)).mono (by omega), SS.kept K7 (fun q hq hb => by have := F2 q hq; (try dsimp only at hb); omega), l9, hHeld2⟩
  case rest =>
    obtain ⟨n11, cs2, a3, c3, a4, c4, rfl, rfl, rfl, rfl, X11, IMy, TTy, SSy, l11, bA⟩ := hcut
    obtain ⟨wA, rfl⟩ : ∃ wA, wA = wc := ⟨wc, rfl⟩
    have hc16y : cs2.size = 16 := IMy.size.1
    have HC16y : Hid (cs2.size = 16) := hc16y
    have HP5 : Hid (Hps wA (.slice b2 (l.length - n) (vk - n)) (l.drop n)) := HP2.out.keep bA
    have IMxA : Hid (IsM wA x cs1) := IMx.out.keep bA
    have TTxA : Hid (Tos wA W.heap.size (.slice a1 told.length c1) told) := TTx.out.keep bA
    have SSxA : Hid (Sl wA (.slice a2 said.length c2) said) := SSx.out.keep bA
    have IMyA : Hid (IsM wA y cs2) := IMy
    have TTyA : Hid (Tos wA w4.heap.size (.slice a3 t.length c3) t) := TTy
    have SSyA : Hid (Sl wA (.slice a4 a.length c4) a) := SSy
    have X7 := X7.keep bA
    have BA : Hid (Below w.heap.size w wA) := bel_trans B3.out bA
    clear IMy TTy SSy hc16y HP1 HP2 HS1 HE1 HR1 HM4 X0 IMx TTx SSx bA B3
    go_upto_region 6 with fail
    go_cut [14, 15, 16, 17] from 48 to 58 (fun s1 s2 s3 s4 wx => PartA z u b wA s1 s2 s3 s4 wx)
    case first =>
      clear X7 hlen hnl
      refine wp_region_held_drew (S := fun w' => Below wA.heap.size wA w') (by kernel_rfl) (Below.drew (Below.refl _ _)) (fun hHeld => ?_)
      refine wpHeld_takeL (i := 0) (v := .agg cs2) rfl (by kernel_rfl) (by kernel_rfl) (by kernel_rfl) (fun _ _ _ h => h) (yields_row (by kernel_rfl) 33 (.tmp 11) rfl rfl (fun _ hSz => (X11.keep hSz).loadM HC16y.out)) (by assumption) ?_
      simp only [nmz]
      refine tkH 1 rfl (by kernel_rfl) (fun _ _ _ h => h) (by assumption) (by intro wz hSz; (try dsimp only at hSz); go_simp; (try with_reducible rfl)) ?_
      simp only [nmz]
      refine tkH 2 rfl (by kernel_rfl) (fun _ _ _ h => h) (by assumption) (by intro wz hSz; (try dsimp only at hSz); go_simp; (try with_reducible rfl)) ?_
      simp only [nmz]
      refine wpHeld_takeL (i := 3) (v := .slice b2 (l.length - n) (vk - n)) rfl (by kernel_rfl) (by kernel_rfl) (by kernel_rfl) (fun _ _ _ h => h) (Or.inl ⟨by kernel_rfl, fun wz _ => exec_slice rfl (HS2.out wz)⟩) (by assumption) ?_
      simp only [nmz]
      generalize wA.drew = v0 at *
      refine wpHeld_twoL (i := 4) (j := 10) (by kernel_rfl) (by rfl) (by rfl) (fun K hK => ?_) (fun K hK => ?_)
      · go_simp
        refine (mRun_at (IMyA.out.keep hHeld) (HP5.out.keep hHeld) HE2.out HR2.out).mono ?_
        rintro e w5 ⟨cs1, a1, c1, a2, c2, rfl, IM, TT, SS, OR, F1, F2, b5⟩
        obtain ⟨hs1, ha1⟩ := IM.size
        have hb5 := bel_trans hHeld b5
        go_wp2_with fail
        refine hK.out _ _ hb5 (fun _ => ?_)
        clear hK K
        have hz := hHeld.size
        have hz5 := b5.size
        clear hHeld b5
        have hHeld := hb5
        clear hb5
        refine tkH 5 rfl (by kernel_rfl) (fun _ _ _ h => h) (by assumption) (by intro wz hSz; (try dsimp only at hSz); go_simp; (try with_reducible rfl)) ?_
        simp only [nmz]
        refine tkH 6 rfl (by kernel_rfl) (fun _ _ _ h => h) (by assumption) (by intro wz hSz; (try dsimp only at hSz); go_simp; (try with_reducible rfl)) ?_
        simp only [nmz]
        refine tkH 7 rfl (by kernel_rfl) (fun _ _ _ h => h) (by assumption) (by intro wz hSz; (try dsimp only at hSz); go_simp; (try with_reducible rfl)) ?_
        simp only [nmz]
        refine tkH 8 rfl (by kernel_rfl) (fun _ _ _ h => h) (by assumption) (by intro wz hSz; (try dsimp only at hSz); go_simp; (try with_reducible rfl)) ?_
        simp only [nmz]
        refine tkH 9 rfl (by kernel_rfl) (fun _ _ _ h => h) (by assumption) (by intro wz hSz; (try dsimp only at hSz); go_simp; (try with_reducible rfl)) ?_
        simp only [nmz]
        refine wpHeld_oneL (i := 10) (by kernel_rfl) (by rfl) (fun K hK => ?_)
        go_simp
        have hb' : Below wA.heap.size wA (w5.alloc (.cells #[.slice none 0 0, J 0, .slice none 0 0, .bool false, J 0, J 0, .slice none 0 0, J 0, J 0, J 0, .bool false, J 0, J 0, J 0, J 0, .bool false] 33)) := bel_alloc hHeld _
        refine hK.out _ _ hb' (fun _ => ?_)
        clear hK K
        obtain ⟨n9, hn⟩ : ∃ n, n = w5.heap.size := ⟨_, rfl⟩
        rw [← hn]
        have l9 : wA.heap.size ≤ n9 := by rw [hn]; exact hHeld.size
        have X9 : Box (w5.alloc (.cells #[.slice none 0 0, J 0, .slice none 0 0, .bool false, J 0, J 0, .slice none 0 0, J 0, J 0, J 0, .bool false, J 0, J 0, J 0, J 0, .bool false] 33)) n9 33 zeroM := Box.newAt hn _ _
        have B6 : Below w5.heap.size w5 (w5.alloc (.cells #[.slice none 0 0, J 0, .slice none 0 0, .bool false, J 0, J 0, .slice none 0 0, J 0, J 0, J 0, .bool false, J 0, J 0, J 0, J 0, .bool false] 33)) := bel_alloc (Below.refl _ _) _
        have hn5 : w5.heap.size ≤ n9 := by rw [hn]; exact Nat.le_refl _
        clear hHeld hn
        have hHeld := hb'
        clear hb'
        generalize (w5.alloc (.cells #[.slice none 0 0, J 0, .slice none 0 0, .bool false, J 0, J 0, .slice none 0 0, J 0, J 0, J 0, .bool false, J 0, J 0, J 0, J 0, .bool false] 33)) = w6 at *
        refine wpHeld_oneL (i := 11) (by kernel_rfl) (by rfl) (fun K hK => ?_)
        refine step_store_row rfl 33 (.tmp 14) (.tmp 54) rfl n9 cs1 rfl rfl _ _ X9 (by rw [infoM, hs1]) (by rw [hs1]; rfl) ha1 ?_
        refine hK.out _ _ (bel_setRow l9 hHeld _) (fun hHeld2 => ?_)
        clear hK K
        simp only [Act.put]
        refine tkH 12 rfl (by kernel_rfl) (fun _ _ _ h => h) (by assumption) (by intro wz hSz; (try dsimp only at hSz); go_simp; (try with_reducible rfl)) ?_
        simp only [nmz]
        refine tkH 13 rfl (by kernel_rfl) (fun _ _ _ h => h) (by assumption) (by intro wz hSz; (try dsimp only at hSz); go_simp; (try with_reducible rfl)) ?_
        simp only [nmz]
        refine tkH 14 rfl (by kernel_rfl) (fun _ _ _ h => h) (by assumption) (by intro wz hSz; (try dsimp only at hSz); go_simp; (try with_reducible rfl)) ?_
        simp only [nmz]
        refine wpAnyH_done (by kernel_rfl) ?_ _
        go_wp2_with fail
        go_meet
        have B7 := bel_setRow hn5 B6 cs1
        exact ⟨n9, cs1, a1, c1, a2, c2, rfl, rfl, rfl, rfl, X9.setRow cs1, IM.keep B7, (TT.keep B7).mono (by omega), SS.keep B7, l9, hHeld2⟩
      · go_simp
        have hb' : Below wA.heap.size wA (v0.alloc (.cells #[.slice none 0 0, J 0, .slice none 0 0, .bool false, J 0, J 0, .slice none 0 0, J 0, J 0, J 0, .bool false, J 0, J 0, J 0, J 0, .bool false] 33)) := bel_alloc hHeld _
        refine hK.out _ _ hb' (fun _ => ?_)
        clear hK K
        obtain ⟨n9, hn⟩ : ∃ n, n = v0.heap.size := ⟨_, rfl⟩
        rw [← hn]
        have l9 : wA.heap.size ≤ n9 := by rw [hn]; exact hHeld.size
        have X9 : Box (v0.alloc (.cells #[.slice none 0 0, J 0, .slice none 0 0, .bool false, J 0, J 0, .slice none 0 0, J 0, J 0, J 0, .bool false, J 0, J 0, J 0, J 0, .bool false] 33)) n9 33 zeroM := Box.newAt hn _ _
        have hlt : n9 < (v0.alloc (.cells #[.slice none 0 0, J 0, .slice none 0 0, .bool false, J 0, J 0, .slice none 0 0, J 0, J 0, J 0, .bool false, J 0, J 0, J 0, J 0, .bool false] 33)).heap.size := X9.lt
        clear hHeld hn
        have hHeld := hb'
        clear hb'
        generalize (v0.alloc (.cells #[.slice none 0 0, J 0, .slice none 0 0, .bool false, J 0, J 0, .slice none 0 0, J 0, J 0, J 0, .bool false, J 0, J 0, J 0, J 0, .bool false] 33)) = v1 at *
        refine wpHeld_oneL (i := 4) (by kernel_rfl) (by rfl) (fun K hK => ?_)
        go_simp
        refine (mRun_at (IMyA.out.keep hHeld) (HP5.out.keep hHeld) HE2.out HR2.out).mono ?_
        rintro e w5 ⟨cs1, a1, c1, a2, c2, rfl, IM, TT, SS, OR, F1, F2, b5⟩
        obtain ⟨hs1, ha1⟩ := IM.size
        have hb5 := bel_trans hHeld b5
        go_wp2_with fail
        refine hK.out _ _ hb5 (fun _ => ?_)
        clear hK K
        have hz := hHeld.size
        have hz5 := b5.size
        have X9 := X9.keep b5
        clear hHeld b5
        have hHeld := hb5
        clear hb5
        refine tkH 5 rfl (by kernel_rfl) (fun _ _ _ h => h) (by assumption) (by intro wz hSz; (try dsimp only at hSz); go_simp; (try with_reducible rfl)) ?_
        simp only [nmz]
        refine tkH 6 rfl (by kernel_rfl) (fun _ _ _ h => h) (by assumption) (by intro wz hSz; (try dsimp only at hSz); go_simp; (try with_reducible rfl)) ?_
        simp only [nmz]
        refine tkH 7 rfl (by kernel_rfl) (fun _ _ _ h => h) (by assumption) (by intro wz hSz; (try dsimp only at hSz); go_simp; (try with_reducible rfl)) ?_
        simp only [nmz]
        refine tkH 8 rfl (by kernel_rfl) (fun _ _ _ h => h) (by assumption) (by intro wz hSz; (try dsimp only at hSz); go_simp; (try with_reducible rfl)) ?_
        simp only [nmz]
        refine tkH 9 rfl (by kernel_rfl) (fun _ _ _ h => h) (by assumption) (by intro wz hSz; (try dsimp only at hSz); go_simp; (try with_reducible rfl)) ?_
        simp only [nmz]
        refine wpHeld_oneL (i := 11) (by kernel_rfl) (by rfl) (fun K hK => ?_)
        refine step_store_row rfl 33 (.tmp 14) (.tmp 54) rfl n9 cs1 rfl rfl _ _ X9 (by rw [infoM, hs1]) (by rw [hs1]; rfl) ha1 ?_
        refine hK.out _ _ (bel_setRow l9 hHeld _) (fun hHeld2 => ?_)
        clear hK K
        simp only [Act.put]
        refine tkH 12 rfl (by kernel_rfl) (fun _ _ _ h => h) (by assumption) (by intro wz hSz; (try dsimp only at hSz); go_simp; (try with_reducible rfl)) ?_
        simp only [nmz]
        refine tkH 13 rfl (by kernel_rfl) (fun _ _ _ h => h) (by assumption) (by intro wz hSz; (try dsimp only at hSz); go_simp; (try with_reducible rfl)) ?_
        simp only [nmz]
        refine tkH 14 rfl (by kernel_rfl) (fun _ _ _ h => h) (by assumption) (by intro wz hSz; (try dsimp only at hSz); go_simp; (try with_reducible rfl)) ?_
        simp only [nmz]
        refine wpAnyH_done (by kernel_rfl) ?_ _
        go_wp2_with fail
        go_meet
        have K7 : KeptB (fun q => q = n9) w5 (w5.setRow n9 cs1) := (KeptB.refl (fun q => q = n9) w5).setRow (n := n9) (.inl rfl) _
        exact ⟨n9, cs1, a1, c1, a2, c2, rfl, rfl, rfl, rfl, X9.setRow cs1, IM.kept K7 OR (fun q hq => by (try dsimp only at hq ⊢); omega), (TT.kept K7 F1 (fun q hq => by (try dsimp only at hq); omega)).mono (by omega), SS.kept K7 (fun q hq hb => by have := F2 q hq; (try dsimp only at hb); omega), l9, hHeld2⟩
    case rest =>
      obtain ⟨n14, cs3, a5, c5, a6, c6, rfl, rfl, rfl, rfl, X14, IMz, TTz, SSz, l14, bB⟩ := hcut
      obtain ⟨wB, rfl⟩ : ∃ wB, wB = wc := ⟨wc, rfl⟩
      have X7 := X7.keep bB
      have IMxB := IMxA.out.keep bB
      have TTxB : Hid (Tos wB W.heap.size (.slice a1 told.length c1) told) := TTxA.out.keep bB
      have SSxB : Hid (Sl wB (.slice a2 said.length c2) said) := SSxA.out.keep bB
      have TTyB : Hid (Tos wB w4.heap.size (.slice a3 t.length c3) t) := TTyA.out.keep bB
      have SSyB : Hid (Sl wB (.slice a4 a.length c4) a) := SSyA.out.keep bB
      have TTzB : Hid (Tos wB wA.heap.size (.slice a5 u.length c5) u) := TTz
      have SSzB : Hid (Sl wB (.slice a6 b.length c6) b) := SSz
      have BB : Hid (Below w.heap.size w wB) := bel_trans BA.out bB
      clear TTz SSz bB BA IMxA TTxA SSxA IMyA TTyA SSyA X11 HP5 HS2 HE2 HR2
      obtain ⟨⟨rfl, hT, hS⟩⟩ : Nonempty (x = z ∧ told = t ++ u ∧ said = a ++ b) := ⟨HALL.out⟩
      have HT : Hid (told = t ++ u) := hT
      have HS : Hid (said = a ++ b) := hS
      have hlt : Hid (t.length + u.length ≤ 1000) := by have := hlen.out.1; rw [hT, List.length_append] at this; show _ ≤ _; omega
      have hls : Hid (a.length + b.length ≤ 1000) := by have := hlen.out.2; rw [hS, List.length_append] at this; show _ ≤ _; omega
      have IX : Hid (IsM wB x cs1) := IMxB
      have IZ : Hid (IsM wB x cs3) := IMz
      obtain ⟨u1, m1, d1, u2, m2, d2, u3, m3, d3, e1, -⟩ := IMxB
      obtain ⟨u4, m4, d4, u5, m5, d5, u6, m6, d6, e3, -⟩ := IMz
      subst e1
      subst e3
      have q0 : ((0 : Int) == 0) = true := rfl
      clear hT hS hlen
      obtain ⟨⟨i0, i1, i2, i3⟩, ⟨j0, j1, j2, j3, j4, j5, j6, j7, j8, j9, j10, j11⟩, s0⟩ := X7.sixteen
      obtain ⟨⟨g0, g1, g2, g3⟩, ⟨h0, h1, h2, h3, h4, h5, h6, h7, h8, h9, h10, h11⟩, s1⟩ := X14.sixteen
      go_wp2_with fail
      refine (mSame_row IX.out IZ.out).mono ?_
      rintro e w5 ⟨rfl, b5⟩
      rw [sameM_self]
      clear i0 i1 i2 i3 j0 j1 j2 j3 j4 j5 j6 j7 j8 j9 j10 j11 s0 g0 g1 g2 g3 h0 h1 h2 h3 h4 h5 h6 h7 h8 h9 h10 h11 s1 X7 X14 IX IZ q0
      have B5 : Hid (Below w.heap.size w w5) := bel_trans BB.out b5
      have SSx5 : Hid (Sl w5 (.slice a2 said.length c2) said) := SSxB.out.keep b5
      have SSy5 : Hid (Sl w5 (.slice a4 a.length c4) a) := SSyB.out.keep b5
      have SSz5 : Hid (Sl w5 (.slice a6 b.length c6) b) := SSzB.out.keep b5
      have TTx5 : Hid (Tos w5 W.heap.size (.slice a1 told.length c1) told) := TTxB.out.keep b5
      have TTy5 : Hid (Tos w5 w4.heap.size (.slice a3 t.length c3) t) := TTyB.out.keep b5
      have TTz5 : Hid (Tos w5 wA.heap.size (.slice a5 u.length c5) u) := TTzB.out.keep b5
      clear b5 BB SSxB SSyB SSzB TTxB TTyB TTzB
      go_wp2_with fail
      refine (concat_Erat (Box.newAt rfl _ _) (Sl.keep SSy5.out (bel_alloc (Below.refl _ _) _)) (Sl.keep SSz5.out (bel_alloc (Below.refl _ _) _)) hls.out HS.out.symm).mono ?_
      rintro e w6 ⟨ac, cc, rfl, hO, b6⟩
      have b6 := bel_trans (bel_alloc (Below.refl _ _) _) b6
      have hm : said.length ≤ maxLen := by have := hls.out; rw [HS.out, List.length_append]; unfold maxLen; omega
      have SSc : Hid (Sl w6 (.slice ac said.length cc) said) := hO.sl hm
      have B6 : Hid (Below w.heap.size w w6) := bel_trans B5.out b6
      have SSx6 : Hid (Sl w6 (.slice a2 said.length c2) said) := SSx5.out.keep b6
      have TTx6 : Hid (Tos w6 W.heap.size (.slice a1 told.length c1) told) := TTx5.out.keep b6
      have TTy6 : Hid (Tos w6 w4.heap.size (.slice a3 t.length c3) t) := TTy5.out.keep b6
      have TTz6 : Hid (Tos w6 wA.heap.size (.slice a5 u.length c5) u) := TTz5.out.keep b6
      clear b6 B5 SSx5 SSy5 SSz5 TTx5 TTy5 TTz5 hO hm
      go_wp2_with fail
      refine (equalE_any _ _ said said _ SSx6.out SSc.out).mono ?_
      rintro e w7 ⟨rfl, nq, rfl⟩
      rw [decide_eq_true (rfl : said = said)]
      have B7 : Hid (Below w.heap.size w (w6.drewN nq)) := bel_drewN B6.out nq
      have bq : Below w6.heap.size w6 (w6.drewN nq) := bel_drewN (Below.refl _ _) nq
      have TTx7 : Hid (Tos (w6.drewN nq) W.heap.size (.slice a1 told.length c1) told) := TTx6.out.keep bq
      have TTy7 : Hid (Tos (w6.drewN nq) w4.heap.size (.slice a3 t.length c3) t) := TTy6.out.keep bq
      have TTz7 : Hid (Tos (w6.drewN nq) wA.heap.size (.slice a5 u.length c5) u) := TTz6.out.keep bq
      clear bq TTx6 TTy6 TTz6 B6 SSx6 SSc
      generalize w6.drewN nq = w7 at *
      obtain ⟨qx, qx1, qx2⟩ := TTx7.out
      obtain ⟨qy, qy1, qy2⟩ := TTy7.out
      obtain ⟨qz, qz1, qz2⟩ := TTz7.out
      have hqn : qy.length + qz.length ≤ 1000 := by rw [qy2.1, qz2.1]; exact hlt.out
      obtain ⟨qc, hqc⟩ : ∃ qc, qy ++ qz = qc := ⟨_, rfl⟩
      have HQC : Hid (qy ++ qz = qc) := hqc
      have QX : Hid (Qs w7 (.slice a1 told.length c1) qx) := qx1
      have QY : Hid (Qs w7 (.slice a3 t.length c3) qy) := qy1
      have QZ : Hid (Qs w7 (.slice a5 u.length c5) qz) := qz1
      have MX : Hid (Means w7 0 qx told) := qx2.mono (Nat.zero_le _)
      have MC : Hid (Means w7 0 qc told) := by show Means _ _ _ _; rw [HT.out, ← hqc]; exact (qy2.mono (Nat.zero_le _)).append (qz2.mono (Nat.zero_le _))
      clear TTx7 TTy7 TTz7 qx1 qx2 qy1 qy2 qz1 qz2 hqc
      go_wp2_with fail
      refine (concat_Qat (Box.newAt rfl _ _) (Qs.keep QY.out (bel_alloc (Below.refl _ _) _)) (Qs.keep QZ.out (bel_alloc (Below.refl _ _) _)) hqn HQC.out).mono ?_
      rintro e w8 ⟨ad, cd, rfl, hO, b8⟩
      have b8 := bel_trans (bel_alloc (Below.refl _ _) _) b8
      have B8 : Hid (Below w.heap.size w w8) := bel_trans B7.out b8
      have QC : Hid (Qs w8 (.slice ad qc.length cd) qc) := hO.ls
      have QX8 : Hid (Qs w8 (.slice a1 told.length c1) qx) := QX.out.keep b8
      have MX8 : Hid (Means w8 0 qx told) := MX.out.keep b8
      have MC8 : Hid (Means w8 0 qc told) := MC.out.keep b8
      clear b8 hO B7 QX QY QZ MX MC
      go_wp2_with fail
      refine (equalFuncQ QX8.out QC.out MX8.out MC8.out).mono ?_
      rintro e w9 ⟨rfl, b9⟩
      go_wp2_with fail
      go_ret
      exact ⟨rfl, bel_trans B8.out b9⟩
theorem mparts_row {m : Mc} {l : List Hp} {cs : Array Value} {v : Value} {k : Int} {w : World} (hm : IsM w m cs) (hl : Hps w v l) :
    Calls Tryz.prog 6 #[.agg cs, v, J k] w fun e w' => e = .returned (.bool true) ∧ Below w.heap.size w w' := by
  by_cases h : rnE m l = 0
  · exact mparts_ok hm hl h
  · exact mparts_bad hm hl h
theorem mparts_walk (u : Value) (zs : List Int) (p : Int) (v : Value) (r : List Int) (d : Bool) (mo ba op oh ot fe fp fh ft : Int) (st lo : Bool) (vc : Value) (l : List Ln) (v1 : Value) (l1 : List Hp) (k : Int) (w : World) (hm : Sl w u zs ∧ Sl w v r ∧ Ls w vc l) (hl : Hps w v1 l1) :
    Calls Tryz.prog 6 #[.agg #[u, J p, v, .bool d, J mo, J ba, vc, J op, J oh, J ot, .bool st, J fe, J fp, J fh, J ft, .bool lo], v1, J k] w fun e w' => e = .returned (.bool true) ∧ Below w.heap.size w w' := mparts_row (isM_any hm) hl
end Go.Proofs.YthlhocneggcekaaGreat
namespace Go.Proofs.YthlhocneggcekaaGreat
open Go.ChangeShapes Go.WideShapes Go.ChangeAt Go.RowKit
theorem law_own : ownKnob Tryz.prog.godebug = none := by kernel_rfl
theorem law_laidOut : laidOutB Tryz.prog = true := by kernel_rfl
section
variable {H : Type} {enc : TypeId × Value → H} {W : World}
end
end Go.Proofs.YthlhocneggcekaaGreat
namespace Go.Proofs.YthlhocneggcekaaGreat
open Go.ChangeShapes Go.WideShapes Go.ChangeAt Go.RowKit
set_option linter.unusedVariables false
set_option maxRecDepth 100000 in
theorem mparts_lifted (os : Os) (started : os.Started) (H : Type) (enc : TypeId × Value → H) :
    ReturnsInHanded {} Tryz.checked os 6 .any (Rows.machinePartsSpec.pre6 enc Tryz.prog Tryz.f6 Rows.machinePartsRow.domain false) (Rows.machinePartsSpec.post enc Tryz.prog Tryz.f6 false true false false) := by
  refine returnsInHanded_of_change (C := Tryz.checked) law_own started (by kernel_rfl) Tryz.func6
    (ChangeSpec.witness6 (enc := enc) (C := Tryz.checked) false ⟨#[], #[.agg #[.slice none 0 0, J 0, .slice none 0 0, .bool false, J 0, J 0, .slice none 0 0, J 0, J 0, J 0, .bool false, J 0, J 0, J 0, J 0, .bool false], .slice none 0 0, J 0], []⟩ 8 (by kernel_rfl) (by kernel_rfl) (by kernel_rfl) (by kernel_rfl)) ?_
  intro W base args ds gs before hval0 hW hcnd _
  have hval : ∀ (j : Nat) t v, Tryz.f6.params[j]? = some t → args[j]? = some v → Value.okWide Tryz.prog W .any base t v := hval0
  have hW' := hW
  obtain ⟨p, q, hA0, hV, rfl, hfz, hnd⟩ := hW
  have hA : DataW.TrodAll enc Tryz.prog W 0 (fun _ => true) true Tryz.f6.params.toList args.toList ds p := hA0
  rw [Tryz.params6] at hA hval
  obtain ⟨v0, vs0, d0, ds0, p0, q0, hargs, rfl, rfl, h0, r0⟩ := trodAll_cons hA
  obtain ⟨v1, vs1, d1, ds1, p1, q1, rfl, rfl, rfl, h1, r1⟩ := trodAll_cons r0
  obtain ⟨v2, vs2, d2, ds2, p2, q2, rfl, rfl, rfl, h2, r2⟩ := trodAll_cons r1
  obtain ⟨rfl, rfl, rfl⟩ := trodAll_nil r2
  obtain rfl : args = #[v0, v1, v2] := by cases args; simp_all
  obtain ⟨rfl, rfl⟩ := trodVars_none hV
  have k0 := h0
  have lt0 : ∀ x ∈ p0, x.block < W.heap.size := by obtain ⟨m, hm⟩ := k0; exact DataW.trod_lt m _ _ _ hm
  have k1 := h1
  have lt1 : ∀ x ∈ p1, x.block < W.heap.size := by obtain ⟨m, hm⟩ := k1; exact DataW.trod_lt m _ _ _ hm
  obtain ⟨u0, zs0, x0, y0, g0, f0, mo0, ba0, op0, oh0, ot0, fe0, fp0, fh0, ft0, st0, lo0, vc0, l0, rfl, s0⟩ := open_mch (hval 0 33 v0 rfl rfl) h0
  obtain ⟨l1, s1⟩ := open_hps (hval 1 56 v1 rfl rfl) h1
  obtain ⟨a2, rfl, rfl, rfl, w2⟩ := open_int Tryz.underlying3 (hval 2 3 v2 rfl rfl) h2
  clear hA0 hval0
  refine (mparts_walk u0 zs0 x0 y0 g0 f0 mo0 ba0 op0 oh0 ot0 fe0 fp0 fh0 ft0 st0 lo0 vc0 l0 v1 l1 a2 W s0 s1).mono fun e W' ⟨he, bel⟩ => ?_
  subst he
  exact ⟨_, rfl, _, _, _, [], _, [], hW', trodAll_mk1 (shut_bool Tryz.underlying4 _), (trodAll_cons_mk (Below.trod law_laidOut (by kernel_rfl) (of_decide_eq_true (by kernel_rfl)) k0 bel lt0) (trodAll_cons_mk (Below.trod law_laidOut (by kernel_rfl) (of_decide_eq_true (by kernel_rfl)) k1 bel lt1) (trodAll_cons_mk (shut_int Tryz.underlying3 w2) trodAll_mk0))), rfl, bel.frame _, fun h => by cases h⟩
theorem mparts_over : Rows.machinePartsRow.holds Tryz.pinned (OpenSpec.ofChange Rows.machinePartsSpec) :=
  OpenClaim.holds_of_wide 6 Tryz.f6 rfl rfl rfl rfl rfl rfl rfl ⟨rfl, rfl, rfl, rfl, rfl⟩ rfl rfl rfl rfl rfl (by kernel_rfl) Tryz.func6 (by kernel_rfl)
    (of_decide_eq_true (by kernel_rfl)) (by unfold Func.isWrapper; first | (rw [if_pos (by decide +kernel)]; kernel_rfl) | (rw [if_neg (by decide +kernel)]; exact ⟨rfl, rfl⟩))
    (fun os started H enc _ => mparts_lifted os started H enc)
theorem mparts_holds : Rows.MachinePartsSaid := mparts_over
#print axioms mparts_holds
end Go.Proofs.YthlhocneggcekaaGreat
