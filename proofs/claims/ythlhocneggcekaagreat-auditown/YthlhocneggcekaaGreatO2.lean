/-
  Laid together: Audit2, Audited.
-/
import Derived.Test.YthlhocneggcekaaGreatB1
import Derived.Test.YthlhocneggcekaaGreatB2
import Derived.Test.YthlhocneggcekaaGreatB3
import Derived.Test.YthlhocneggcekaaGreatB4
import Derived.Test.YthlhocneggcekaaGreatB5
import Derived.Test.YthlhocneggcekaaGreatB6
import Derived.Test.YthlhocneggcekaaGreatB7
import Derived.Test.YthlhocneggcekaaGreatB8
import Derived.Test.YthlhocneggcekaaGreatB9
import Derived.Test.YthlhocneggcekaaGreatB10
import Derived.Test.YthlhocneggcekaaGreatB11
import Derived.Test.YthlhocneggcekaaGreatB12
import Derived.Test.YthlhocneggcekaaGreatB13
import Derived.Test.YthlhocneggcekaaGreatB14
import Derived.Test.YthlhocneggcekaaGreatB15
import Derived.Test.YthlhocneggcekaaGreatB16
import Derived.Test.YthlhocneggcekaaGreatB17
import Derived.Test.YthlhocneggcekaaGreatB18
import Derived.Test.YthlhocneggcekaaGreatB19
import Derived.Test.YthlhocneggcekaaGreatB20
import Derived.Test.YthlhocneggcekaaGreatB21
import Derived.Test.YthlhocneggcekaaGreatB22
import Derived.Test.YthlhocneggcekaaGreatB23
import Derived.Test.YthlhocneggcekaaGreatB24
import Derived.Test.YthlhocneggcekaaGreatB25
import Derived.Test.YthlhocneggcekaaGreatB26
import Derived.Test.YthlhocneggcekaaGreatB27
import Derived.Test.YthlhocneggcekaaGreatB28
import Derived.Test.YthlhocneggcekaaGreatB29
import Derived.Test.YthlhocneggcekaaGreatB30
import Derived.Test.YthlhocneggcekaaGreatB31
import Derived.Test.YthlhocneggcekaaGreatB32
import Derived.Test.YthlhocneggcekaaGreatB33
import Derived.Test.YthlhocneggcekaaGreatB34
import Derived.Test.YthlhocneggcekaaGreatB35
import Derived.Test.YthlhocneggcekaaGreatB36
import Derived.Test.YthlhocneggcekaaGreatB37
import Derived.Test.YthlhocneggcekaaGreatB38
import Derived.Test.YthlhocneggcekaaGreatB39
import Derived.Test.YthlhocneggcekaaGreatB40
import Derived.Test.YthlhocneggcekaaGreatB41
import Derived.Test.YthlhocneggcekaaGreatB42
import Derived.Test.YthlhocneggcekaaGreatB43
import Derived.Test.YthlhocneggcekaaGreatB44
import Derived.Test.YthlhocneggcekaaGreatO1
namespace Go.Proofs.YthlhocneggcekaaGreat
open Go.RowKit
theorem yields_off {ops : Array Oper} {S : World → Prop} {o : Oper} {a : Act} (hw : Region.wanted o (yielded ops a.tmps) = true) (ty : TypeId) (x : Operand) (ho : o.op = .load ty x) {n q : Nat} {cs : Array Value} (hx : a.eval x = .pointer (some ⟨n, q, none⟩)) (hS : ∀ w, S w → (loadVar ty ⟨n, q, none⟩).run Tryz.prog w = .ok (.agg cs) w) : YieldsIf Tryz.prog ops S o (.agg cs) a :=
  .inl ⟨hw, fun w hw' => by
    unfold execOp
    simp only [ho, hx, Instr.loadAt, Instr.sureAddr, Sem.run_bind, Sem.run_pure, Result.andThen_ok, hS w hw']⟩
theorem infoTc : (Tryz.prog.info? 72).map (·.size) = some 5 := by kernel_rfl
abbrev FairC (l : List Mc) (t : Tc) (w : World) (e : Ending) (w' : World) : Prop :=
  ∃ k : Int, e = .returned (.tuple #[J k, J (frE l t)]) ∧ (frE l t = 0 → IsLast l t k) ∧ (¬ frE l t = 0 → k = 0) ∧ Below w.heap.size w w'
theorem fairC_bad {l : List Mc} {t : Tc} {w w' : World} {z : Int} (h : frE l t = z) (hz : ¬ z = 0) (hb : Below w.heap.size w w') : FairC l t w (.returned (.tuple #[J 0, J z])) w' :=
  ⟨0, by rw [h], fun h0 => absurd (h.symm.trans h0) hz, fun _ => rfl, hb⟩
theorem fairC_ok {l : List Mc} {t : Tc} {w w' : World} {k : Int} (h : frE l t = 0) (hk : IsLast l t k) (hb : Below w.heap.size w w') : FairC l t w (.returned (.tuple #[J k, J 0])) w' :=
  ⟨k, by rw [h], fun _ => hk, fun h0 => absurd h h0, hb⟩
set_option maxRecDepth 10000 in
set_option maxHeartbeats 4000000 in
theorem fair_any {v : Value} {l : List Mc} {d s a : Int} {f : Bool} {x : Int} {w : World} (hl : Ms w v l) :
    Calls Tryz.prog 33 #[v, .agg #[J d, J s, J a, .bool f, J x]] w fun e w' => FairC l (d, s, a, f, x) w e w' := by
  have HL : Hid (Ms w v l) := hl
  obtain ⟨va, vk, rfl, hc1, hc2⟩ := hl.shape
  clear hl
  unfold maxLen at hc2
  by_cases hlen : l.length ≤ 121
  rotate_left
  · have HE : Hid (frE l (d, s, a, f, x) = 1) := by show _ = _; rw [frE, if_neg hlen]
    have q : (121 : Int) < l.length := by omega
    clear hlen hc1 hc2
    go_enter Tryz.func33, Tryz.ntmps33
    go_wp2
    go_ret2
    exact fairC_bad HE.out (by decide) (bel_alloc (Below.refl _ _) _)
  have q : ¬ (121 : Int) < l.length := by omega
  have HN : Hid (l.length ≤ 121) := hlen
  clear hlen hc1 hc2
  have X1 := Box.newAt (w := w) (n := w.heap.size) rfl 72 #[J d, J s, J a, .bool f, J x]
  have BW : Hid (Below w.heap.size w (w.alloc (.cells #[J d, J s, J a, .bool f, J x] 72))) := bel_alloc (Below.refl w.heap.size w) _
  go_enter Tryz.func33, Tryz.ntmps33
  go_upto_region 1 with fail
  generalize (w.alloc (.cells #[J d, J s, J a, .bool f, J x] 72)) = W at *
  have XW := X1
  go_wp2
  go_loopw [7, 8, 16] (fun _ _ s wx => ∃ i : Nat, s = J i ∧ i ≤ l.length ∧ (∀ j, j < i → chkM (mth l j) = 0) ∧ Below W.heap.size W wx) (fun _ _ s _ => l.length - (intOf s).toNat)
  case atStart => exact ⟨0, rfl, Nat.zero_le _, fun j hj => absurd hj (Nat.not_lt_zero _), Below.refl _ _⟩
  case round =>
    obtain ⟨i, rfl, hi, hpre, hb⟩ := hrel
    have HP : Hid (∀ j, j < i → chkM (mth l j) = 0) := hpre
    have HB : Hid (Below W.heap.size W wr) := hb
    have X1 := X1.keep hb
    clear hpre hb
    have i121 : i ≤ 121 := by have := HN.out; omega
    by_cases hlt : i < l.length
    · have hlt1 : (i : Int) < l.length := by omega
      obtain ⟨b, o, cs, hva, hbl, hM, hA⟩ := HL.out.at (bel_trans BW.out HB.out) hlt
      subst hva
      obtain ⟨hs, ha⟩ := hM.size
      have HI : (Tryz.prog.info? 33).map (·.size) = some cs.size := by rw [infoM, hs]
      obtain ⟨n7, hn7⟩ : ∃ n, wr.heap.size = n := ⟨_, rfl⟩
      have Z7 : Box (wr.alloc (.cells #[.slice none 0 0, J 0, .slice none 0 0, .bool false, J 0, J 0, .slice none 0 0, J 0, J 0, J 0, .bool false, J 0, J 0, J 0, J 0, .bool false] 33)) n7 33 #[.slice none 0 0, J 0, .slice none 0 0, .bool false, J 0, J 0, .slice none 0 0, J 0, J 0, J 0, .bool false, J 0, J 0, J 0, J 0, .bool false] := Box.newAt hn7.symm _ _
      have X7 := Z7.setRow cs
      have BX : Hid (Below wr.heap.size wr ((wr.alloc (.cells #[.slice none 0 0, J 0, .slice none 0 0, .bool false, J 0, J 0, .slice none 0 0, J 0, J 0, J 0, .bool false, J 0, J 0, J 0, J 0, .bool false] 33)).setRow n7 cs)) := bel_setRow (by omega) (bel_alloc (Below.refl _ _) _) _
      have HMM : Hid (IsM wr (mth l i) cs) := hM
      clear hM
      go_wp2_with (first
        | fail
        | (refine wpList_load_off rfl 33 (.tmp 18) rfl b (o + i * 16) rfl cs _ hA Tryz.underlying33 rfl HI ?_)
        | (refine wpList_store_row rfl 33 (.tmp 7) (.tmp 19) rfl n7 cs rfl rfl _ _ Z7 HI (by rw [hs]; rfl) ha ?_)
        | (refine wpList_load_row rfl 33 (.tmp 7) rfl n7 rfl _ _ _ _ X7 Tryz.underlying33 rfl HI ?_))
      refine (mCheck_row (HMM.out.keep BX.out)).mono ?_
      rintro e w3 ⟨rfl, b3⟩
      have B3 : Hid (Below W.heap.size W w3) := bel_trans HB.out (bel_trans BX.out b3)
      clear b3 BX X7 Z7 hA HI
      obtain ⟨z, hz⟩ : ∃ z, chkM (mth l i) = z := ⟨_, rfl⟩
      have HZ : Hid (chkM (mth l i) = z) := hz
      rw [hz]
      clear hz
      by_cases h0 : z = 0
      · subst h0
        have q0 : ((0 : Int) != 0) = false := rfl
        go_wp2_with fail
        refine ⟨⟨i + 1, by go_num, by omega, fun j hj => ?_, B3.out⟩, by simp [intOf]; omega⟩
        by_cases e : j = i
        · rw [e]; exact HZ.out
        · exact HP.out j (by omega)
      · have q0 : (z != 0) = true := by simpa using h0
        have HE : Hid (frE l (d, s, a, f, x) = z) := by
          have hb := mcE_bad HP.out hlt (by rw [HZ.out]; exact h0)
          rw [HZ.out] at hb
          show _ = _
          rw [frE, if_pos HN.out, if_neg (by rw [hb]; exact h0), hb]
        have HZ0 : Hid (¬ z = 0) := h0
        clear h0
        go_wp2_with fail
        go_ret2
        exact fairC_bad HE.out HZ0.out (bel_trans BW.out B3.out)
    · obtain rfl : i = l.length := by omega
      have hnl : ¬ (l.length : Int) < l.length := by omega
      have HMC : Hid (mcE l = 0) := mcE_mk HP.out
      clear hlt HP
      obtain ⟨t0, t1, t2, t3, t4⟩ := X1.blk.five
      have s1 := X1.lt
      go_wp2_with fail
      refine (aCheck_any d s a f x _).mono ?_
      rintro e w3 ⟨rfl, b3⟩
      have X1 := X1.keep b3
      have B3 : Hid (Below W.heap.size W w3) := bel_trans HB.out b3
      clear b3 t0 t1 t2 t3 t4 s1 HB
      obtain ⟨z, hz⟩ : ∃ z, ckT (d, s, a, f, x) = z := ⟨_, rfl⟩
      have HT : Hid (ckT (d, s, a, f, x) = z) := hz
      have HE : Hid (frE l (d, s, a, f, x) = z) := by show _ = _; rw [frE, if_pos HN.out, if_pos HMC.out, hz]
      rw [hz]
      clear hz
      by_cases h0 : z = 0
      rotate_left
      · have q0 : (z != 0) = true := by simpa using h0
        have HZ0 : Hid (¬ z = 0) := h0
        clear h0
        go_wp2_with fail
        go_ret2
        exact fairC_bad HE.out HZ0.out (bel_trans BW.out B3.out)
      subst h0
      have q0 : ((0 : Int) != 0) = false := rfl
      go_wp2_with fail
      go_loopw [10] (fun s2 wx => ∃ k : Int, s2 = J k ∧ (-1 ≤ k ∧ k < l.length) ∧ (∀ j : Nat, k < j → j < l.length → lets (mth l j) (d, s, a, f, x) = false) ∧ Below W.heap.size W wx) (fun s2 _ => (intOf s2 + 1).toNat)
      case atStart => exact ⟨(l.length : Int) - 1, by go_num, by omega, fun j h1 h2 => absurd h1 (by omega), B3.out⟩
      case round =>
        obtain ⟨k, rfl, ⟨hk1, hk2⟩, hpre, hb⟩ := hrel
        have HP : Hid (∀ j : Nat, k < j → j < l.length → lets (mth l j) (d, s, a, f, x) = false) := hpre
        have HB : Hid (Below W.heap.size W wr) := hb
        clear hpre hb
        by_cases hk0 : 0 ≤ k
        rotate_left
        · obtain rfl : k = -1 := by omega
          have HF : Hid (IsLast l (d, s, a, f, x) (-1)) := ⟨by omega, fun h => absurd h (by decide), HP.out⟩
          clear hk0 hk1 hk2 HP
          go_wp2_with fail
          go_ret2
          exact fairC_ok HE.out HF.out (bel_trans BW.out HB.out)
        obtain ⟨n, rfl⟩ : ∃ n : Nat, k = n := ⟨k.toNat, by omega⟩
        have hn : n < l.length := by omega
        obtain ⟨b, o, cs, hva, hbl, hM, hA⟩ := HL.out.at (bel_trans BW.out HB.out) hn
        subst hva
        obtain ⟨hs, ha⟩ := hM.size
        have hlt1 : (n : Int) < l.length := by omega
        have hge1 : (0 : Int) ≤ n := by omega
        have X1 := XW.keep HB.out
        have HI : (Tryz.prog.info? 33).map (·.size) = some cs.size := by rw [infoM, hs]
        have n121 : n ≤ 121 := by have := HN.out; omega
        go_upto_region 16 with fail
        refine wp_region_held_drew (S := fun w' => Below wr.heap.size wr w') (by kernel_rfl) (Below.drew (Below.refl _ _)) (fun hHeld => ?_)
        refine tkH 0 rfl (by kernel_rfl) (fun _ _ _ h => h) (by assumption) (by intro wz hSz; (try dsimp only at hSz); go_simp; (try with_reducible rfl)) ?_
        simp only [nmz]
        refine tkH 1 rfl (by kernel_rfl) (fun _ _ _ h => h) (by assumption) (by intro wz hSz; (try dsimp only at hSz); go_simp; (try with_reducible rfl)) ?_
        simp only [nmz]
        refine tkH 2 rfl (by kernel_rfl) (fun _ _ _ h => h) (by assumption) (by intro wz hSz; (try dsimp only at hSz); go_simp; (try with_reducible rfl)) ?_
        simp only [nmz]
        refine wpHeld_takeL (i := 3) (v := .agg cs) rfl (by kernel_rfl) (by kernel_rfl) (by kernel_rfl) (fun _ _ _ h => h) (yields_off (by kernel_rfl) 33 (.tmp 40) rfl rfl (fun wz hSz => run_loadVar_off wz b (o + n * 16) _ cs _ (hA.keep hSz hbl) Tryz.underlying33 rfl HI)) (by assumption) ?_
        simp only [nmz]
        refine wpHeld_takeL (i := 4) (v := .agg #[J d, J s, J a, .bool f, J x]) rfl (by kernel_rfl) (by kernel_rfl) (by kernel_rfl) (fun _ _ _ h => h) (yields_row (by kernel_rfl) 72 (.tmp 3) rfl rfl (fun wz hSz => run_loadVar_row wz _ _ _ _ _ _ (X1.keep hSz) Tryz.underlying72 rfl (by rw [infoTc]; rfl))) (by assumption) ?_
        simp only [nmz]
        refine wpHeld_oneL (i := 5) (by kernel_rfl) (by rfl) (fun K hK => ?_)
        go_simp
        refine (lets_row (hM.keep hHeld) (mcE_zero HMC.out n hn) HT.out).mono ?_
        rintro e w5 ⟨rfl, b5⟩
        obtain ⟨y, hy⟩ : ∃ y, lets (mth l n) (d, s, a, f, x) = y := ⟨_, rfl⟩
        have HY : Hid (lets (mth l n) (d, s, a, f, x) = y) := hy
        rw [hy]
        clear hy
        go_wp2_with fail
        refine hK.out _ _ (bel_trans hHeld b5) (fun hHeld2 => ?_)
        clear hK K hHeld b5
        refine wpAnyH_done (by kernel_rfl) ?_ _
        have B5 : Hid (Below W.heap.size W w5) := bel_trans HB.out hHeld2
        clear hHeld2 hM hA X1 HI
        cases y with
        | true =>
          go_wp2_with fail
          go_ret2
          exact fairC_ok HE.out ⟨by omega, fun _ => HY.out, HP.out⟩ (bel_trans BW.out B5.out)
        | false =>
          go_wp2_with fail
          refine ⟨⟨(n : Int) - 1, by go_num, by omega, fun j h1 h2 => ?_, B5.out⟩, by simp [intOf]⟩
          by_cases e : j = n
          · rw [e]; exact HY.out
          · exact HP.out j (by omega) h2
def AudA (g : Nat) (W : World) (s : Value) (wx : World) : Prop :=
  ∃ n3 k, s = .pointer (some ⟨n3, 0, none⟩) ∧ Box wx n3 33 #[.slice (some ⟨g, 0, none⟩) 512 512, J 0, .slice (some ⟨k, 0, none⟩) 8 8, .bool false, J 2, J 1, .slice none 0 0, J 40, J 0, J 0, .bool false, J 0, J 41, J 0, J 0, .bool false] ∧ Box wx k 3 zeroRegs ∧ W.heap.size ≤ n3 ∧ W.heap.size ≤ k ∧ Below W.heap.size W wx
theorem isM_au {w : World} {g k : Nat} {z : Int} (hg : Box w g 3 (intCells tab)) (hk : Box w k 3 zeroRegs) : IsM w ⟨tab, ⟨0, List.replicate 8 0, false⟩, ⟨z, 1, [], 40, 0, 0, false, 0, 41, 0, 0, false⟩⟩ #[.slice (some ⟨g, 0, none⟩) 512 512, J 0, .slice (some ⟨k, 0, none⟩) 8 8, .bool false, J z, J 1, .slice none 0 0, J 40, J 0, J 0, .bool false, J 0, J 41, J 0, J 0, .bool false] :=
  ⟨some ⟨g, 0, none⟩, 512, 512, some ⟨k, 0, none⟩, 8, 8, none, 0, 0, rfl, sl_tab hg tab_len, sl_block hk zeroRegs_list rfl (by simp [maxLen]), Ls.nothing _⟩
set_option maxRecDepth 10000 in
set_option maxHeartbeats 4000000 in
theorem audited_true (w : World) : Calls Tryz.prog 32 #[] w fun e w' => e = .returned (.bool true) ∧ Below w.heap.size w w' := by
  go_enter Tryz.func32, Tryz.ntmps32
  go_wp2_with fail
  refine (tables_own _).mono ?_
  rintro e w1 ⟨g, rfl, hg1, hg, b1⟩
  have G1 : Box w1 g 3 (intCells tab) := hg1
  go_upto_region 2 with fail
  have G1 : Box ((w1.alloc (.cells #[.slice (some ⟨g, 0, none⟩) 512 512] 24)).alloc (.cells #[J 2, J 1, .slice none 0 0, J 40, J 0, J 0, .bool false, J 0, J 41, J 0, J 0, .bool false] 31)) g 3 (intCells tab) := (G1.past _).past _
  have X1 := (Box.newAt (w := w1) (n := w1.heap.size) rfl 24 #[.slice (some ⟨g, 0, none⟩) 512 512]).past (.cells #[J 2, J 1, .slice none 0 0, J 40, J 0, J 0, .bool false, J 0, J 41, J 0, J 0, .bool false] 31)
  have X2 : Box ((w1.alloc (.cells #[.slice (some ⟨g, 0, none⟩) 512 512] 24)).alloc (.cells #[J 2, J 1, .slice none 0 0, J 40, J 0, J 0, .bool false, J 0, J 41, J 0, J 0, .bool false] 31)) (w1.heap.size + 1) 31 #[J 2, J 1, .slice none 0 0, J 40, J 0, J 0, .bool false, J 0, J 41, J 0, J 0, .bool false] := Box.newAt (by simp) _ _
  have B1 : Hid (Below w.heap.size w ((w1.alloc (.cells #[.slice (some ⟨g, 0, none⟩) 512 512] 24)).alloc (.cells #[J 2, J 1, .slice none 0 0, J 40, J 0, J 0, .bool false, J 0, J 41, J 0, J 0, .bool false] 31))) := bel_alloc (bel_alloc b1 _) _
  clear b1 hg1
  generalize ((w1.alloc (.cells #[.slice (some ⟨g, 0, none⟩) 512 512] 24)).alloc (.cells #[J 2, J 1, .slice none 0 0, J 40, J 0, J 0, .bool false, J 0, J 41, J 0, J 0, .bool false] 31)) = V at *
  generalize w1.heap.size = A at *
  have hm8 := make8
  go_cut [3] from 14 to 18 (fun s wx => AudA g V s wx)
  case first =>
    refine wp_region_held_drew (S := fun w' => Below V.heap.size V w') (by kernel_rfl) (Below.drew (Below.refl _ _)) (fun hHeld => ?_)
    refine tkH 0 rfl (by kernel_rfl) (fun _ _ _ h => h) (by assumption) (by intro wz hSz; (try dsimp only at hSz); (obtain ⟨m0, -, s1⟩ := (X1.keep hSz).one); go_simp; (try with_reducible rfl)) ?_
    simp only [nmz]
    refine tkH 3 rfl (by kernel_rfl) (fun _ _ _ h => h) (by assumption) (by intro wz hSz; (try dsimp only at hSz); (obtain ⟨⟨u0, u1, u2, u3, u4, u5, u6, u7, u8, u9, u10, u11⟩, s2⟩ := (X2.keep hSz).twelve); go_simp; (try with_reducible rfl)) ?_
    simp only [nmz]
    refine wpHeld_twoL (i := 1) (j := 5) (by kernel_rfl) (by rfl) (by rfl) (fun K hK => ?_) (fun K hK => ?_)
    · go_simp
      refine hK.out _ _ (bel_alloc hHeld _) (fun hHeld2 => ?_)
      clear hK K hHeld
      have hHeld := hHeld2
      clear hHeld2
      refine tkH 2 rfl (by kernel_rfl) (fun _ _ _ h => h) (by assumption) (by intro wz hSz; (try dsimp only at hSz); go_simp; (try with_reducible rfl)) ?_
      simp only [nmz]
      refine tkH 4 rfl (by kernel_rfl) (fun _ _ _ h => h) (by assumption) (by intro wz hSz; (try dsimp only at hSz); go_simp; (try with_reducible rfl)) ?_
      simp only [nmz]
      refine wpHeld_oneL (i := 5) (by kernel_rfl) (by rfl) (fun K hK => ?_)
      go_simp
      refine hK.out _ _ (bel_alloc hHeld _) (fun hHeld2 => ?_)
      clear hK K hHeld
      have hHeld := hHeld2
      clear hHeld2
      refine wpHeld_oneL (i := 6) (by kernel_rfl) (by rfl) (fun K hK => ?_)
      refine step_store_row rfl 33 (.tmp 3) (.tmp 18) rfl (V.heap.size + 1) #[.slice (some ⟨g, 0, none⟩) 512 512, J 0, .slice (some ⟨V.heap.size, 0, none⟩) 8 8, .bool false, J 2, J 1, .slice none 0 0, J 40, J 0, J 0, .bool false, J 0, J 41, J 0, J 0, .bool false] rfl rfl _ _ (Box.newAt (by simp) _ _) (by rw [infoM]; rfl) rfl (by simp [Value.oneCell']) ?_
      refine hK.out _ _ (bel_setRow (by simp) hHeld _) (fun hHeld2 => ?_)
      clear hK K
      simp only [Act.put]
      refine wpAnyH_done (by kernel_rfl) ?_ _
      go_wp2_with fail
      go_meet
      exact ⟨V.heap.size + 1, V.heap.size, rfl, Box.setRow (Box.newAt (by simp) _ _) _, Box.otherRow (Box.past (Box.newAt (w := V.drew) rfl _ _) _) (show V.heap.size ≠ V.heap.size + 1 by omega) _, by omega, by omega, hHeld2⟩
    · go_simp
      refine hK.out _ _ (bel_alloc hHeld _) (fun hHeld2 => ?_)
      clear hK K hHeld
      have hHeld := hHeld2
      clear hHeld2
      refine wpHeld_oneL (i := 1) (by kernel_rfl) (by rfl) (fun K hK => ?_)
      go_simp
      refine hK.out _ _ (bel_alloc hHeld _) (fun hHeld2 => ?_)
      clear hK K hHeld
      have hHeld := hHeld2
      clear hHeld2
      refine tkH 2 rfl (by kernel_rfl) (fun _ _ _ h => h) (by assumption) (by intro wz hSz; (try dsimp only at hSz); go_simp; (try with_reducible rfl)) ?_
      simp only [nmz]
      refine tkH 4 rfl (by kernel_rfl) (fun _ _ _ h => h) (by assumption) (by intro wz hSz; (try dsimp only at hSz); go_simp; (try with_reducible rfl)) ?_
      simp only [nmz]
      refine wpHeld_oneL (i := 6) (by kernel_rfl) (by rfl) (fun K hK => ?_)
      refine step_store_row rfl 33 (.tmp 3) (.tmp 18) rfl (V.heap.size) #[.slice (some ⟨g, 0, none⟩) 512 512, J 0, .slice (some ⟨V.heap.size + 1, 0, none⟩) 8 8, .bool false, J 2, J 1, .slice none 0 0, J 40, J 0, J 0, .bool false, J 0, J 41, J 0, J 0, .bool false] rfl rfl _ _ (Box.past (Box.newAt (w := V.drew) rfl _ _) _) (by rw [infoM]; rfl) rfl (by simp [Value.oneCell']) ?_
      refine hK.out _ _ (bel_setRow (by simp) hHeld _) (fun hHeld2 => ?_)
      clear hK K
      simp only [Act.put]
      refine wpAnyH_done (by kernel_rfl) ?_ _
      go_wp2_with fail
      go_meet
      exact ⟨V.heap.size, V.heap.size + 1, rfl, Box.setRow (Box.past (Box.newAt (w := V.drew) rfl _ _) _) _, Box.otherRow (Box.newAt (by simp) _ _) (show V.heap.size + 1 ≠ V.heap.size by omega) _, by omega, by omega, hHeld2⟩
  case rest =>
    obtain ⟨n3, k, rfl, X3, XK, l3, lk, b3⟩ := hcut
    have G2 := G1.keep b3
    have B2 : Hid (Below w.heap.size w wc) := bel_trans B1.out b3
    clear X1 X2 G1 B1 hm8 b3
    obtain ⟨rX, hrX⟩ : ∃ r : Array Value, r = #[.slice (some ⟨g, 0, none⟩) 512 512, J 0, .slice (some ⟨k, 0, none⟩) 8 8, .bool false, J 2, J 1, .slice none 0 0, J 40, J 0, J 0, .bool false, J 0, J 41, J 0, J 0, .bool false] := ⟨_, rfl⟩
    rw [← hrX] at X3
    have hsX : rX.size = 16 := by rw [hrX]; rfl
    have haX : rX.all (·.oneCell') = true := by rw [hrX]; simp [Value.oneCell']
    have h4X : rX[4]? = some (J 2) := by rw [hrX]; rfl
    have HMX : Hid (∀ wz, Below wc.heap.size wc wz → IsM wz auX rX) := fun wz hz => by rw [hrX]; exact isM_au (G2.keep hz) (XK.keep hz)
    have HMY : Hid (∀ wz, Below wc.heap.size wc wz → IsM wz auY (rX.setIfInBounds 4 (J 0))) := fun wz hz => by rw [hrX]; exact isM_au (G2.keep hz) (XK.keep hz)
    clear hrX G2 XK
    obtain ⟨n4, hn4⟩ : ∃ n, wc.heap.size = n := ⟨_, rfl⟩
    have s3 := X3.lt
    have Z4 : Box (wc.alloc (.cells #[.slice none 0 0, J 0, .slice none 0 0, .bool false, J 0, J 0, .slice none 0 0, J 0, J 0, J 0, .bool false, J 0, J 0, J 0, J 0, .bool false] 33)) n4 33 #[.slice none 0 0, J 0, .slice none 0 0, .bool false, J 0, J 0, .slice none 0 0, J 0, J 0, J 0, .bool false, J 0, J 0, J 0, J 0, .bool false] := Box.newAt hn4.symm _ _
    have X3a := X3.past (.cells #[.slice none 0 0, J 0, .slice none 0 0, .bool false, J 0, J 0, .slice none 0 0, J 0, J 0, J 0, .bool false, J 0, J 0, J 0, J 0, .bool false] 33)
    have Y4 := Z4.setRow rX
    have x4 : ((wc.alloc (.cells #[.slice none 0 0, J 0, .slice none 0 0, .bool false, J 0, J 0, .slice none 0 0, J 0, J 0, J 0, .bool false, J 0, J 0, J 0, J 0, .bool false] 33)).setRow n4 rX).cell? ⟨n4, 4, none⟩ = some (J 2) := (Y4.cell 4).trans h4X
    have mk := Y4.marksOf
    have sY := Y4.lt
    have HI : (Tryz.prog.info? 33).map (·.size) = some rX.size := by rw [infoM, hsX]
    go_upto_region 6 with (first
      | fail
      | (refine wpList_load_row rfl 33 (.tmp 3) rfl n3 rfl _ _ _ _ X3 Tryz.underlying33 rfl HI ?_)
      | (refine wpList_store_row rfl 33 (.tmp 4) (.tmp 19) rfl n4 rX rfl rfl _ _ Z4 HI (by rw [hsX]; rfl) haX ?_))
    have n5e : (((wc.alloc (.cells #[.slice none 0 0, J 0, .slice none 0 0, .bool false, J 0, J 0, .slice none 0 0, J 0, J 0, J 0, .bool false, J 0, J 0, J 0, J 0, .bool false] 33)).setRow n4 rX).setCell ⟨n4, 4, none⟩ (J 0)).heap.size = n4 + 1 := by simp [World.setRow]; omega
    have X3 : Box ((((wc.alloc (.cells #[.slice none 0 0, J 0, .slice none 0 0, .bool false, J 0, J 0, .slice none 0 0, J 0, J 0, J 0, .bool false, J 0, J 0, J 0, J 0, .bool false] 33)).setRow n4 rX).setCell ⟨n4, 4, none⟩ (J 0)).alloc (.cells #[J 1, J 1, J 73, .bool true, J 0] 72)) n3 33 rX := ((X3a.otherRow (show n3 ≠ n4 by omega) rX).other (p := ⟨n4, 4, none⟩) (by dsimp only; omega) _).past _
    have X4 : Box ((((wc.alloc (.cells #[.slice none 0 0, J 0, .slice none 0 0, .bool false, J 0, J 0, .slice none 0 0, J 0, J 0, J 0, .bool false, J 0, J 0, J 0, J 0, .bool false] 33)).setRow n4 rX).setCell ⟨n4, 4, none⟩ (J 0)).alloc (.cells #[J 1, J 1, J 73, .bool true, J 0] 72)) n4 33 (rX.setIfInBounds 4 (J 0)) := (Y4.set 4 _).past _
    have X5 : Box ((((wc.alloc (.cells #[.slice none 0 0, J 0, .slice none 0 0, .bool false, J 0, J 0, .slice none 0 0, J 0, J 0, J 0, .bool false, J 0, J 0, J 0, J 0, .bool false] 33)).setRow n4 rX).setCell ⟨n4, 4, none⟩ (J 0)).alloc (.cells #[J 1, J 1, J 73, .bool true, J 0] 72)) (n4 + 1) 72 #[J 1, J 1, J 73, .bool true, J 0] := Box.newAt n5e.symm _ _
    have BC : Hid (Below wc.heap.size wc ((((wc.alloc (.cells #[.slice none 0 0, J 0, .slice none 0 0, .bool false, J 0, J 0, .slice none 0 0, J 0, J 0, J 0, .bool false, J 0, J 0, J 0, J 0, .bool false] 33)).setRow n4 rX).setCell ⟨n4, 4, none⟩ (J 0)).alloc (.cells #[J 1, J 1, J 73, .bool true, J 0] 72))) := bel_alloc (bel_set (p := ⟨n4, 4, none⟩) (by dsimp only; omega) (bel_setRow (by omega) (bel_alloc (Below.refl _ _) _) _) _) _
    have HZ : Hid ((((wc.alloc (.cells #[.slice none 0 0, J 0, .slice none 0 0, .bool false, J 0, J 0, .slice none 0 0, J 0, J 0, J 0, .bool false, J 0, J 0, J 0, J 0, .bool false] 33)).setRow n4 rX).setCell ⟨n4, 4, none⟩ (J 0)).heap.size = n4 + 1) := n5e
    clear Z4 X3a Y4 x4 mk sY h4X haX
    have HS4 : Hid (n4 = wc.heap.size) := hn4.symm
    clear n5e HZ hn4
    generalize ((((wc.alloc (.cells #[.slice none 0 0, J 0, .slice none 0 0, .bool false, J 0, J 0, .slice none 0 0, J 0, J 0, J 0, .bool false, J 0, J 0, J 0, J 0, .bool false] 33)).setRow n4 rX).setCell ⟨n4, 4, none⟩ (J 0)).alloc (.cells #[J 1, J 1, J 73, .bool true, J 0] 72)) = wD at *
    obtain ⟨rY, hrY⟩ : ∃ r, rX.setIfInBounds 4 (J 0) = r := ⟨_, rfl⟩
    rw [hrY] at X4 HMY
    have hsY : rY.size = 16 := by rw [← hrY]; simp [hsX]
    clear hrY
    have HJ : (Tryz.prog.info? 33).map (·.size) = some rY.size := by rw [infoM, hsY]
    have B2 : Hid (Below w.heap.size w wD) := bel_trans B2.out BC.out
    obtain ⟨t0, t1, t2, t3, t4⟩ := X5.blk.five
    have sT := X5.lt
    go_wp2_with (first
      | fail
      | (refine wpList_load_row rfl 33 (.tmp 3) rfl n3 rfl _ _ _ _ X3 Tryz.underlying33 rfl HI ?_)
      | (refine wpList_load_row rfl 33 (.tmp 4) rfl n4 rfl _ _ _ _ X4 Tryz.underlying33 rfl HJ ?_)
      | (refine wpList_built2 rfl (.tmp 24) (.tmp 25) rfl rfl rfl hsX hsY ?_))
    clear t0 t1 t2 t3 t4 sT
    have BD : Hid (Below wD.heap.size wD (wD.alloc (.cells (rX ++ rY) 33))) := bel_alloc (Below.refl _ _) _
    refine (fair_any (l := [auX, auY]) (ms_two (Box.newAt rfl 33 _) (HMX.out _ (bel_trans BC.out BD.out)) (HMY.out _ (bel_trans BC.out BD.out)))).mono ?_
    rintro e w7 ⟨z, rfl, h7, -, b7⟩
    obtain rfl := au_last2 (h7 au_two)
    rw [show frE [auX, auY] (1, 1, 73, true, 0) = 0 from au_two]
    have b7 := bel_trans BD.out b7
    have X4 := X4.keep b7
    have X5 := X5.keep b7
    have B7 : Hid (Below w.heap.size w w7) := bel_trans B2.out b7
    have BC : Hid (Below wc.heap.size wc w7) := bel_trans BC.out b7
    clear b7 BD h7 X3 B2
    obtain ⟨t0, t1, t2, t3, t4⟩ := X5.blk.five
    have sT := X5.lt
    go_wp2_with (first
      | fail
      | (refine wpList_load_row rfl 33 (.tmp 4) rfl n4 rfl _ _ _ _ X4 Tryz.underlying33 rfl HJ ?_)
      | (refine wpList_built1 rfl (.tmp 32) rfl rfl hsY ?_))
    clear t0 t1 t2 t3 t4 sT
    have BD : Hid (Below w7.heap.size w7 (w7.alloc (.cells rY 33))) := bel_alloc (Below.refl _ _) _
    refine (fair_any (l := [auY]) (ms_one (Box.newAt rfl 33 _) (HMY.out _ (bel_trans BC.out BD.out)))).mono ?_
    rintro e w8 ⟨z, rfl, h8, -, b8⟩
    obtain rfl := au_last1 (h8 au_one)
    rw [show frE [auY] (1, 1, 73, true, 0) = 0 from au_one]
    have b8 := bel_trans BD.out b8
    have X5 := X5.keep b8
    have B8 : Hid (Below w.heap.size w w8) := bel_trans B7.out b8
    clear b8 BD h8 B7 X4 BC HMX HMY
    obtain ⟨t0, t1, t2, t3, t4⟩ := X5.blk.five
    have sT := X5.lt
    go_wp2_with fail
    refine (aCheck_any 1 1 73 true 0 _).mono ?_
    rintro e w9 ⟨rfl, b9⟩
    rw [show ckT (1, 1, 73, true, 0) = 0 from auT_good]
    clear t0 t1 t2 t3 t4 sT X5
    go_wp2_with fail
    refine (aCheck_any 0 1 0 false 0 _).mono ?_
    rintro e w10 ⟨rfl, b10⟩
    rw [show ckT (0, 1, 0, false, 0) = 3 by decide]
    go_wp2_with fail
    go_ret
    exact ⟨rfl, bel_trans B8.out (bel_trans b9 b10)⟩
end Go.Proofs.YthlhocneggcekaaGreat
