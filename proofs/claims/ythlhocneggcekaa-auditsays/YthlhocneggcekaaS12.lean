/-
  Laid together: ASaysWalk, Open0, Open, OpenH, OpenL, OpenR, OpenB.
-/
import Derived.Test.YthlhocneggcekaaS1
import Derived.Test.YthlhocneggcekaaS2
import Derived.Test.YthlhocneggcekaaS3
import Derived.Test.YthlhocneggcekaaS4
import Derived.Test.YthlhocneggcekaaS5
import Derived.Test.YthlhocneggcekaaS6
import Derived.Test.YthlhocneggcekaaS7
import Derived.Test.YthlhocneggcekaaS8
import Derived.Test.YthlhocneggcekaaS9
import Derived.Test.YthlhocneggcekaaS10
import Derived.Test.YthlhocneggcekaaS11
import Derived.Deep.RegionHeld3
import Derived.Deep.DrawnRows
import Derived.Deep.RegionWith
import Derived.LoopN
import Derived.Deep.CutRange
import Derived.Deep.AppendLies
import Derived.Deep.RegionHeld
import Derived.Laws.CopyOwn
import Derived.Maps.OwnOps
import Derived.Maps.OwnSet
import Derived.Test.YthlhocneggcekaaRows
import Derived.WalkKit
import Derived.WalkSpells
import Derived.WalkLawsBesides
import Derived.Below
import Derived.WalkSmall
import Derived.Deep.QuietTactic
import Derived.BigQuiet
import Derived.Deep.Draws
import Derived.ProofKit
import Derived.OpenShut
import Derived.ShutString
import Derived.ChangeOld
import Derived.Deep.Slices
namespace Go.Proofs.Ythlhocneggcekaa
open Go.RowKit
theorem mcE_step {l : List Mc} {i : Nat} (hi : i < l.length) : mcE (l.take (i + 1)) = if mcE (l.take i) = 0 then chkM (mth l i) else mcE (l.take i) := by
  induction l generalizing i with
  | nil => simp at hi
  | cons m l ih =>
    cases i with
    | zero =>
      show mcE [m] = _
      rw [mcE]
      show (if chkM m = 0 then 0 else chkM m) = chkM m
      split <;> simp_all
    | succ i =>
      have hi' : i < l.length := by simpa using hi
      show mcE (m :: l.take (i + 1)) = if mcE (m :: l.take i) = 0 then chkM (mth l i) else mcE (m :: l.take i)
      rw [mcE, mcE]
      by_cases e : chkM m = 0
      · rw [if_pos e, if_pos e, ih hi']
      · rw [if_neg e, if_neg e, if_neg e]
def badI (l : List Mc) (i : Nat) : Int := if l.length ≤ 121 then mcE (l.take i) else 1
theorem badI_step {l : List Mc} {i : Nat} (hi : i < l.length) : badI l (i + 1) = if badI l i = 0 then chkM (mth l i) else badI l i := by
  unfold badI
  split
  · exact mcE_step hi
  · rfl
theorem badI_end (l : List Mc) (t : Tc) : frE l t = if badI l l.length = 0 then ckT t else badI l l.length := by
  unfold badI frE
  rw [List.take_length]
  split
  · rfl
  · rfl
set_option maxRecDepth 10000 in
set_option maxHeartbeats 4000000 in
theorem asays_any {v : Value} {l : List Mc} {d s a : Int} {f : Bool} {x : Int} {w : World} (hl : Ms w v l) :
    Calls Try.prog 3 #[v, .agg #[.int .i64 d, .int .i64 s, .int .i64 a, .bool f, .int .i64 x]] w fun e w' => e = .returned (.bool true) ∧ Below w.heap.size w w' := by
  have HL : Hid (Ms w v l) := hl
  obtain ⟨va, vk, rfl, hc1, hc2⟩ := hl.shape
  clear hl
  unfold maxLen at hc2
  have X1 := Box.newAt (w := w) (n := w.heap.size) rfl 24 #[.int .i64 d, .int .i64 s, .int .i64 a, .bool f, .int .i64 x]
  have B0 : Hid (Below w.heap.size w (w.alloc (.cells #[.int .i64 d, .int .i64 s, .int .i64 a, .bool f, .int .i64 x] 24))) := bel_alloc (Below.refl w.heap.size w) _
  go_enter Try.func3, Try.ntmps3
  go_upto_region 1 with fail
  generalize (w.alloc (.cells #[.int .i64 d, .int .i64 s, .int .i64 a, .bool f, .int .i64 x] 24)) = W at *
  obtain ⟨t0, t1, t2, t3, t4⟩ := X1.blk.five
  have s1 := X1.lt
  go_wp2_with fail
  refine (fair_any (HL.out.keep B0.out)).mono ?_
  rintro e w2 ⟨k, rfl, hj, hj', b2⟩
  obtain ⟨z, hz⟩ : ∃ z, frE l (d, s, a, f, x) = z := ⟨_, rfl⟩
  have HZ : Hid (frE l (d, s, a, f, x) = z) := hz
  rw [hz] at hj hj' ⊢
  have HJ : Hid (z = 0 → IsLast l (d, s, a, f, x) k) := hj
  have HJ' : Hid (¬ z = 0 → k = 0) := hj'
  have XW := X1
  have X1 := X1.keep b2
  have HB2 : Hid (Below W.heap.size W w2) := b2
  clear hz hj hj' t0 t1 t2 t3 t4 s1 b2
  go_upto_if 18 with fail
  go_cut [7, 18] from 18 to 18 (fun y _ wx => y = .int .i64 (badI l 0) ∧ wx = w2)
  case first =>
    by_cases hlen : l.length ≤ 121
    · have q : ¬ (121 : Int) < l.length := by omega
      have HBD : Hid (badI l 0 = 0) := by show _ = _; rw [badI, if_pos hlen]; rfl
      clear hlen
      go_wp2
      go_meet
      exact ⟨by rw [HBD.out], rfl⟩
    · have q : (121 : Int) < l.length := by omega
      have HBD : Hid (badI l 0 = 1) := by show _ = _; rw [badI, if_neg hlen]
      clear hlen
      go_wp2
      go_meet
      exact ⟨by rw [HBD.out], rfl⟩
  case rest =>
    obtain ⟨rfl, rfl⟩ := hcut
    obtain ⟨w2, rfl⟩ : ∃ w2, w2 = wc := ⟨wc, rfl⟩
    go_wp2
    go_loopw [7, 9, 21] (fun s7 _ s21 wx => ∃ i : Nat, s7 = .int .i64 (badI l i) ∧ s21 = .int .i64 i ∧ i ≤ l.length ∧ Below W.heap.size W wx) (fun _ _ s21 _ => l.length - (intOf s21).toNat)
    case atStart => exact ⟨0, rfl, rfl, Nat.zero_le _, HB2.out⟩
    case round =>
      obtain ⟨i, rfl, rfl, hi, hb⟩ := hrel
      have HB : Hid (Below W.heap.size W wr) := hb
      clear hb
      by_cases hlt : i < l.length
      · have hlt1 : (i : Int) < l.length := by omega
        have hi1 : (i : Int) + 1 ≤ 9223372036854775807 := by omega
        obtain ⟨b, o, cs, hva, hbl, hM, hA⟩ := HL.out.at (bel_trans B0.out HB.out) hlt
        subst hva
        obtain ⟨hs, ha⟩ := hM.size
        have HI : (Try.prog.info? 39).map (·.size) = some cs.size := by rw [infoM, hs]
        obtain ⟨n9, hn9⟩ : ∃ n, wr.heap.size = n := ⟨_, rfl⟩
        have Z9 : Box (wr.alloc (.cells #[.slice none 0 0, .int .i64 0, .slice none 0 0, .bool false, .int .i64 0, .int .i64 0, .slice none 0 0, .int .i64 0, .int .i64 0, .int .i64 0, .bool false, .int .i64 0, .int .i64 0, .int .i64 0, .int .i64 0, .bool false] 39)) n9 39 #[.slice none 0 0, .int .i64 0, .slice none 0 0, .bool false, .int .i64 0, .int .i64 0, .slice none 0 0, .int .i64 0, .int .i64 0, .int .i64 0, .bool false, .int .i64 0, .int .i64 0, .int .i64 0, .int .i64 0, .bool false] := Box.newAt hn9.symm _ _
        have X9 := Z9.setRow cs
        have BX : Hid (Below wr.heap.size wr ((wr.alloc (.cells #[.slice none 0 0, .int .i64 0, .slice none 0 0, .bool false, .int .i64 0, .int .i64 0, .slice none 0 0, .int .i64 0, .int .i64 0, .int .i64 0, .bool false, .int .i64 0, .int .i64 0, .int .i64 0, .int .i64 0, .bool false] 39)).setRow n9 cs)) := bel_setRow (by omega) (bel_alloc (Below.refl _ _) _) _
        have HMM : Hid (IsM wr (mth l i) cs) := hM
        have HST := badI_step hlt
        clear hM
        obtain ⟨y, hy⟩ : ∃ y, badI l i = y := ⟨_, rfl⟩
        rw [hy] at HST ⊢
        clear hy
        by_cases h0 : y = 0
        · subst h0
          rw [if_pos rfl] at HST
          have HS : Hid (badI l (i + 1) = chkM (mth l i)) := HST
          clear HST
          go_wp2_with (first
            | fail
            | (refine wpList_load_off rfl 39 (.tmp 23) rfl b (o + i * 16) rfl cs _ hA Try.underlying39 rfl HI ?_)
            | (refine wpList_store_row rfl 39 (.tmp 9) (.tmp 24) rfl n9 cs rfl rfl _ _ Z9 HI (by rw [hs]; rfl) ha ?_)
            | (refine wpList_load_row rfl 39 (.tmp 9) rfl n9 rfl _ _ _ _ X9 Try.underlying39 rfl HI ?_))
          refine (checkMachine_row (HMM.out.keep BX.out)).mono ?_
          rintro e w3 ⟨rfl, b3⟩
          have B3 : Hid (Below W.heap.size W w3) := bel_trans HB.out (bel_trans BX.out b3)
          clear b3 BX X9 Z9 hA HI
          rw [← HS.out]
          go_wp2_with fail
          exact ⟨⟨i + 1, rfl, by go_num, by omega, B3.out⟩, by simp [intOf]; omega⟩
        · have q0 : (y == 0) = false := by simpa using h0
          rw [if_neg h0] at HST
          have HS : Hid (badI l (i + 1) = y) := HST
          clear HST h0
          go_wp2_with (first
            | fail
            | (refine wpList_load_off rfl 39 (.tmp 23) rfl b (o + i * 16) rfl cs _ hA Try.underlying39 rfl HI ?_)
            | (refine wpList_store_row rfl 39 (.tmp 9) (.tmp 24) rfl n9 cs rfl rfl _ _ Z9 HI (by rw [hs]; rfl) ha ?_))
          exact ⟨⟨i + 1, by rw [HS.out], by go_num, by omega, bel_trans HB.out BX.out⟩, by simp [intOf]; omega⟩
      · obtain rfl : i = l.length := by omega
        have hnl : ¬ (l.length : Int) < l.length := by omega
        have X1 := XW.keep HB.out
        have HLR : Hid (Ms wr (.slice va l.length vk) l) := HL.out.keep (bel_trans B0.out HB.out)
        have HEND := badI_end l (d, s, a, f, x)
        rw [HZ.out] at HEND
        obtain ⟨y, hy⟩ : ∃ y, badI l l.length = y := ⟨_, rfl⟩
        rw [hy] at HEND ⊢
        clear hy
        go_upto_if 31 with fail
        go_cut [7, 31, 32, 33] from 31 to 33 (fun y _ _ _ wx => y = .int .i64 z ∧ Below wr.heap.size wr wx)
        case first =>
          by_cases h0 : y = 0
          · subst h0
            rw [if_pos rfl] at HEND
            have HS : Hid (z = ckT (d, s, a, f, x)) := HEND
            clear HEND
            obtain ⟨t0, t1, t2, t3, t4⟩ := X1.blk.five
            have s1 := X1.lt
            go_wp2_with fail
            refine (checkTouch_any d s a f x _).mono ?_
            rintro e w3 ⟨rfl, b3⟩
            rw [← HS.out]
            go_wp2_with fail
            go_meet
            exact ⟨rfl, b3⟩
          · have q0 : (y == 0) = false := by simpa using h0
            rw [if_neg h0] at HEND
            obtain rfl := HEND
            clear h0
            go_wp2_with fail
            go_meet
            exact ⟨rfl, Below.refl _ _⟩
        case rest =>
          obtain ⟨rfl, bc⟩ := hcut
          have X1 := X1.keep bc
          have HB : Hid (Below w.heap.size w wc) := bel_trans B0.out (bel_trans HB.out bc)
          have HLR : Hid (Ms wc (.slice va l.length vk) l) := HLR.out.keep bc
          obtain ⟨wA, rfl⟩ : ∃ wA, wA = wc := ⟨wc, rfl⟩
          clear bc HEND
          obtain ⟨tz, htz⟩ : ∃ tz, ckT (d, s, a, f, x) = tz := ⟨_, rfl⟩
          go_upto_region 13 with fail
          go_cut [46] from 34 to 46 (fun y wx => y = .bool (z != 0) ∧ Below wA.heap.size wA wx)
          case first =>
            refine wp_region_held_drew (S := fun w' => Below wA.heap.size wA w') (by kernel_rfl) (Below.drew (Below.refl _ _)) (fun hHeld => ?_)
            refine wpHeld_oneL (i := 0) (by kernel_rfl) (by rfl) (fun K hK => ?_)
            go_simp
            refine (audited_true _).mono ?_
            rintro e w5 ⟨rfl, b5⟩
            go_wp2_with fail
            refine hK.out _ _ (bel_trans hHeld b5) (fun hHeld2 => ?_)
            clear hK K hHeld b5
            have hHeld := hHeld2
            clear hHeld2
            refine wpHeld_takeL (i := 1) (v := ?_) rfl (by kernel_rfl) (by kernel_rfl) (by kernel_rfl) (fun _ _ _ h => h) (Or.inl ⟨by kernel_rfl, ?_⟩) (by assumption) ?_
            rotate_left 1
            focus (intro wz hSz; (try dsimp only at hSz); go_simp; (try with_reducible rfl))
            simp only [Act.put, List.setIfInBounds_toArray, List.set_cons_zero, List.set_cons_succ]
            refine wpHeld_takeL (i := 2) (v := ?_) rfl (by kernel_rfl) (by kernel_rfl) (by kernel_rfl) (fun _ _ _ h => h) (Or.inl ⟨by kernel_rfl, ?_⟩) (by assumption) ?_
            rotate_left 1
            focus (intro wz hSz; (try dsimp only at hSz); go_simp; (try with_reducible rfl))
            simp only [Act.put, List.setIfInBounds_toArray, List.set_cons_zero, List.set_cons_succ]
            refine wpHeld_takeL (i := 3) (v := .agg #[.int .i64 d, .int .i64 s, .int .i64 a, .bool f, .int .i64 x]) rfl (by kernel_rfl) (by kernel_rfl) (by kernel_rfl) (fun _ _ _ h => h) (yields_row (by kernel_rfl) 24 (.tmp 3) rfl rfl (fun wz hSz => run_loadVar_row wz _ _ _ _ _ _ (X1.keep hSz) Try.underlying24 rfl (by rw [infoTc]; rfl))) (by assumption) ?_
            simp only [Act.put, List.setIfInBounds_toArray, List.set_cons_zero, List.set_cons_succ]
            refine wpHeld_takeL (i := 5) (v := .agg #[.int .i64 d, .int .i64 s, .int .i64 a, .bool f, .int .i64 x]) rfl (by kernel_rfl) (by kernel_rfl) (by kernel_rfl) (fun _ _ _ h => h) (yields_row (by kernel_rfl) 24 (.tmp 3) rfl rfl (fun wz hSz => run_loadVar_row wz _ _ _ _ _ _ (X1.keep hSz) Try.underlying24 rfl (by rw [infoTc]; rfl))) (by assumption) ?_
            simp only [Act.put, List.setIfInBounds_toArray, List.set_cons_zero, List.set_cons_succ]
            refine wpHeld_oneL (i := 4) (by kernel_rfl) (by rfl) (fun K hK => ?_)
            go_simp
            refine (aCheck_any d s a f x _).mono ?_
            rintro e w6 ⟨rfl, b6⟩
            go_wp2_with fail
            refine hK.out _ _ (bel_trans hHeld b6) (fun hHeld2 => ?_)
            clear hK K hHeld b6
            have hHeld := hHeld2
            clear hHeld2
            refine wpHeld_oneL (i := 6) (by kernel_rfl) (by rfl) (fun K hK => ?_)
            go_simp
            refine (checkTouch_any d s a f x _).mono ?_
            rintro e w7 ⟨rfl, b7⟩
            go_wp2_with fail
            refine hK.out _ _ (bel_trans hHeld b7) (fun hHeld2 => ?_)
            clear hK K hHeld b7
            have hHeld := hHeld2
            clear hHeld2
            rw [htz] at *
            have qt : (tz != tz) = false := by simp
            refine wpHeld_takeL (i := 7) (v := ?_) rfl (by kernel_rfl) (by kernel_rfl) (by kernel_rfl) (fun _ _ _ h => h) (Or.inl ⟨by kernel_rfl, ?_⟩) (by assumption) ?_
            rotate_left 1
            focus (intro wz hSz; (try dsimp only at hSz); go_simp; (try with_reducible rfl))
            simp only [Act.put, List.setIfInBounds_toArray, List.set_cons_zero, List.set_cons_succ]
            refine wpHeld_takeL (i := 8) (v := ?_) rfl (by kernel_rfl) (by kernel_rfl) (by kernel_rfl) (fun _ _ _ h => h) (Or.inl ⟨by kernel_rfl, ?_⟩) (by assumption) ?_
            rotate_left 1
            focus (intro wz hSz; (try dsimp only at hSz); go_simp; (try with_reducible rfl))
            simp only [Act.put, List.setIfInBounds_toArray, List.set_cons_zero, List.set_cons_succ]
            refine wpHeld_takeL (i := 9) (v := ?_) rfl (by kernel_rfl) (by kernel_rfl) (by kernel_rfl) (fun _ _ _ h => h) (Or.inl ⟨by kernel_rfl, ?_⟩) (by assumption) ?_
            rotate_left 1
            focus (intro wz hSz; (try dsimp only at hSz); go_simp; (try with_reducible rfl))
            simp only [Act.put, List.setIfInBounds_toArray, List.set_cons_zero, List.set_cons_succ]
            refine wpHeld_takeL (i := 10) (v := ?_) rfl (by kernel_rfl) (by kernel_rfl) (by kernel_rfl) (fun _ _ _ h => h) (Or.inl ⟨by kernel_rfl, ?_⟩) (by assumption) ?_
            rotate_left 1
            focus (intro wz hSz; (try dsimp only at hSz); go_simp; (try with_reducible rfl))
            simp only [Act.put, List.setIfInBounds_toArray, List.set_cons_zero, List.set_cons_succ]
            refine wpHeld_takeL (i := 11) (v := ?_) rfl (by kernel_rfl) (by kernel_rfl) (by kernel_rfl) (fun _ _ _ h => h) (Or.inl ⟨by kernel_rfl, ?_⟩) (by assumption) ?_
            rotate_left 1
            focus (intro wz hSz; (try dsimp only at hSz); go_simp; (try with_reducible rfl))
            simp only [Act.put, List.setIfInBounds_toArray, List.set_cons_zero, List.set_cons_succ]
            refine wpHeld_takeL (i := 12) (v := ?_) rfl (by kernel_rfl) (by kernel_rfl) (by kernel_rfl) (fun _ _ _ h => h) (Or.inl ⟨by kernel_rfl, ?_⟩) (by assumption) ?_
            rotate_left 1
            focus (intro wz hSz; (try dsimp only at hSz); go_simp; (try with_reducible rfl))
            simp only [Act.put, List.setIfInBounds_toArray, List.set_cons_zero, List.set_cons_succ]
            refine wpAnyH_done (by kernel_rfl) ?_ _
            go_wp2_with fail
            go_meet
            exact ⟨by simp, hHeld⟩
          case rest =>
            obtain ⟨rfl, bc⟩ := hcut
            have X1 := X1.keep bc
            have HB : Hid (Below w.heap.size w wc) := bel_trans HB.out bc
            have HLR : Hid (Ms wc (.slice va l.length vk) l) := HLR.out.keep bc
            obtain ⟨wD, rfl⟩ : ∃ wD, wD = wc := ⟨wc, rfl⟩
            clear bc
            by_cases h0 : z = 0
            · subst h0
              have q : ((0 : Int) != 0) = false := rfl
              have HJL : Hid (IsLast l (d, s, a, f, x) k) := HJ.out rfl
              obtain ⟨t0, t1, t2, t3, t4⟩ := X1.blk.five
              have s1 := X1.lt
              clear HJ HJ' htz
              go_wp2_with fail
              refine (fairBy_any HLR.out HZ.out).mono ?_
              rintro e w8 ⟨k2, rfl, hk2, b8⟩
              obtain rfl := hk2.one HJL.out
              have B8 : Hid (Below w.heap.size w w8) := bel_trans HB.out b8
              clear hk2 b8
              go_wp2_with fail
              go_ret
              exact ⟨ret_bool (by simp), B8.out⟩
            · have q : (z != 0) = true := by simpa using h0
              obtain rfl := HJ'.out h0
              rw [q]
              clear h0 HJ HJ' q
              go_upto_region 14 with fail
              go_cut [4] from 47 to 63 (fun y wx => y = .bool true ∧ Below wD.heap.size wD wx)
              case first =>
                refine wp_region_held_drew (S := fun w' => Below wD.heap.size wD w') (by kernel_rfl) (Below.drew (Below.refl _ _)) (fun hHeld => ?_)
                refine wpHeld_oneL (i := 0) (by kernel_rfl) (by rfl) (fun K hK => ?_)
                go_simp
                refine (audited_true _).mono ?_
                rintro e w5 ⟨rfl, b5⟩
                go_wp2_with fail
                refine hK.out _ _ (bel_trans hHeld b5) (fun hHeld2 => ?_)
                clear hK K hHeld b5
                have hHeld := hHeld2
                clear hHeld2
                refine wpHeld_takeL (i := 1) (v := ?_) rfl (by kernel_rfl) (by kernel_rfl) (by kernel_rfl) (fun _ _ _ h => h) (Or.inl ⟨by kernel_rfl, ?_⟩) (by assumption) ?_
                rotate_left 1
                focus (intro wz hSz; (try dsimp only at hSz); go_simp; (try with_reducible rfl))
                simp only [Act.put, List.setIfInBounds_toArray, List.set_cons_zero, List.set_cons_succ]
                refine wpHeld_takeL (i := 2) (v := .agg #[.int .i64 d, .int .i64 s, .int .i64 a, .bool f, .int .i64 x]) rfl (by kernel_rfl) (by kernel_rfl) (by kernel_rfl) (fun _ _ _ h => h) (yields_row (by kernel_rfl) 24 (.tmp 3) rfl rfl (fun wz hSz => run_loadVar_row wz _ _ _ _ _ _ (X1.keep hSz) Try.underlying24 rfl (by rw [infoTc]; rfl))) (by assumption) ?_
                simp only [Act.put, List.setIfInBounds_toArray, List.set_cons_zero, List.set_cons_succ]
                refine wpHeld_takeL (i := 4) (v := .agg #[.int .i64 d, .int .i64 s, .int .i64 a, .bool f, .int .i64 x]) rfl (by kernel_rfl) (by kernel_rfl) (by kernel_rfl) (fun _ _ _ h => h) (yields_row (by kernel_rfl) 24 (.tmp 3) rfl rfl (fun wz hSz => run_loadVar_row wz _ _ _ _ _ _ (X1.keep hSz) Try.underlying24 rfl (by rw [infoTc]; rfl))) (by assumption) ?_
                simp only [Act.put, List.setIfInBounds_toArray, List.set_cons_zero, List.set_cons_succ]
                refine wpHeld_oneL (i := 3) (by kernel_rfl) (by rfl) (fun K hK => ?_)
                go_simp
                refine (aCheck_any d s a f x _).mono ?_
                rintro e w6 ⟨rfl, b6⟩
                go_wp2_with fail
                refine hK.out _ _ (bel_trans hHeld b6) (fun hHeld2 => ?_)
                clear hK K hHeld b6
                have hHeld := hHeld2
                clear hHeld2
                refine wpHeld_oneL (i := 5) (by kernel_rfl) (by rfl) (fun K hK => ?_)
                go_simp
                refine (checkTouch_any d s a f x _).mono ?_
                rintro e w7 ⟨rfl, b7⟩
                go_wp2_with fail
                refine hK.out _ _ (bel_trans hHeld b7) (fun hHeld2 => ?_)
                clear hK K hHeld b7
                have hHeld := hHeld2
                clear hHeld2
                rw [htz] at *
                have qt : (tz == tz) = true := by simp
                have qz : (z == z) = true := by simp
                refine wpHeld_takeL (i := 6) (v := ?_) rfl (by kernel_rfl) (by kernel_rfl) (by kernel_rfl) (fun _ _ _ h => h) (Or.inl ⟨by kernel_rfl, ?_⟩) (by assumption) ?_
                rotate_left 1
                focus (intro wz hSz; (try dsimp only at hSz); go_simp; (try with_reducible rfl))
                simp only [Act.put, List.setIfInBounds_toArray, List.set_cons_zero, List.set_cons_succ]
                refine wpHeld_takeL (i := 7) (v := ?_) rfl (by kernel_rfl) (by kernel_rfl) (by kernel_rfl) (fun _ _ _ h => h) (Or.inl ⟨by kernel_rfl, ?_⟩) (by assumption) ?_
                rotate_left 1
                focus (intro wz hSz; (try dsimp only at hSz); go_simp; (try with_reducible rfl))
                simp only [Act.put, List.setIfInBounds_toArray, List.set_cons_zero, List.set_cons_succ]
                refine wpHeld_takeL (i := 8) (v := ?_) rfl (by kernel_rfl) (by kernel_rfl) (by kernel_rfl) (fun _ _ _ h => h) (Or.inl ⟨by kernel_rfl, ?_⟩) (by assumption) ?_
                rotate_left 1
                focus (intro wz hSz; (try dsimp only at hSz); go_simp; (try with_reducible rfl))
                simp only [Act.put, List.setIfInBounds_toArray, List.set_cons_zero, List.set_cons_succ]
                refine wpHeld_takeL (i := 9) (v := ?_) rfl (by kernel_rfl) (by kernel_rfl) (by kernel_rfl) (fun _ _ _ h => h) (Or.inl ⟨by kernel_rfl, ?_⟩) (by assumption) ?_
                rotate_left 1
                focus (intro wz hSz; (try dsimp only at hSz); go_simp; (try with_reducible rfl))
                simp only [Act.put, List.setIfInBounds_toArray, List.set_cons_zero, List.set_cons_succ]
                refine wpHeld_takeL (i := 10) (v := ?_) rfl (by kernel_rfl) (by kernel_rfl) (by kernel_rfl) (fun _ _ _ h => h) (Or.inl ⟨by kernel_rfl, ?_⟩) (by assumption) ?_
                rotate_left 1
                focus (intro wz hSz; (try dsimp only at hSz); go_simp; (try with_reducible rfl))
                simp only [Act.put, List.setIfInBounds_toArray, List.set_cons_zero, List.set_cons_succ]
                refine wpHeld_takeL (i := 11) (v := ?_) rfl (by kernel_rfl) (by kernel_rfl) (by kernel_rfl) (fun _ _ _ h => h) (Or.inl ⟨by kernel_rfl, ?_⟩) (by assumption) ?_
                rotate_left 1
                focus (intro wz hSz; (try dsimp only at hSz); go_simp; (try with_reducible rfl))
                simp only [Act.put, List.setIfInBounds_toArray, List.set_cons_zero, List.set_cons_succ]
                refine wpHeld_takeL (i := 12) (v := ?_) rfl (by kernel_rfl) (by kernel_rfl) (by kernel_rfl) (fun _ _ _ h => h) (Or.inl ⟨by kernel_rfl, ?_⟩) (by assumption) ?_
                rotate_left 1
                focus (intro wz hSz; (try dsimp only at hSz); go_simp; (try with_reducible rfl))
                simp only [Act.put, List.setIfInBounds_toArray, List.set_cons_zero, List.set_cons_succ]
                refine wpHeld_takeL (i := 13) (v := ?_) rfl (by kernel_rfl) (by kernel_rfl) (by kernel_rfl) (fun _ _ _ h => h) (Or.inl ⟨by kernel_rfl, ?_⟩) (by assumption) ?_
                rotate_left 1
                focus (intro wz hSz; (try dsimp only at hSz); go_simp; (try with_reducible rfl))
                simp only [Act.put, List.setIfInBounds_toArray, List.set_cons_zero, List.set_cons_succ]
                refine wpHeld_takeL (i := 14) (v := ?_) rfl (by kernel_rfl) (by kernel_rfl) (by kernel_rfl) (fun _ _ _ h => h) (Or.inl ⟨by kernel_rfl, ?_⟩) (by assumption) ?_
                rotate_left 1
                focus (intro wz hSz; (try dsimp only at hSz); go_simp; (try with_reducible rfl))
                simp only [Act.put, List.setIfInBounds_toArray, List.set_cons_zero, List.set_cons_succ]
                refine wpHeld_takeL (i := 15) (v := ?_) rfl (by kernel_rfl) (by kernel_rfl) (by kernel_rfl) (fun _ _ _ h => h) (Or.inl ⟨by kernel_rfl, ?_⟩) (by assumption) ?_
                rotate_left 1
                focus (intro wz hSz; (try dsimp only at hSz); go_simp; (try with_reducible rfl))
                simp only [Act.put, List.setIfInBounds_toArray, List.set_cons_zero, List.set_cons_succ]
                refine wpHeld_takeL (i := 16) (v := ?_) rfl (by kernel_rfl) (by kernel_rfl) (by kernel_rfl) (fun _ _ _ h => h) (Or.inl ⟨by kernel_rfl, ?_⟩) (by assumption) ?_
                rotate_left 1
                focus (intro wz hSz; (try dsimp only at hSz); go_simp; (try with_reducible rfl))
                simp only [Act.put, List.setIfInBounds_toArray, List.set_cons_zero, List.set_cons_succ]
                refine wpHeld_takeL (i := 17) (v := ?_) rfl (by kernel_rfl) (by kernel_rfl) (by kernel_rfl) (fun _ _ _ h => h) (Or.inl ⟨by kernel_rfl, ?_⟩) (by assumption) ?_
                rotate_left 1
                focus (intro wz hSz; (try dsimp only at hSz); go_simp; (try with_reducible rfl))
                simp only [Act.put, List.setIfInBounds_toArray, List.set_cons_zero, List.set_cons_succ]
                refine wpAnyH_done (by kernel_rfl) ?_ _
                go_wp2_with fail
                go_meet
                exact ⟨by simp, hHeld⟩
              case rest =>
                obtain ⟨rfl, bc⟩ := hcut
                have B8 : Hid (Below w.heap.size w wc) := bel_trans HB.out bc
                clear bc
                go_wp2_with fail
                go_ret
                exact ⟨rfl, B8.out⟩
theorem asays_walk (v : Value) (l : List Mc) (d s a : Int) (f : Bool) (x : Int) (w : World) (hl : Ms w v l) :
    Calls Try.prog 3 #[v, .agg #[.int .i64 d, .int .i64 s, .int .i64 a, .bool f, .int .i64 x]] w fun e w' => e = .returned (.bool true) ∧ Below w.heap.size w w' := asays_any hl
end Go.Proofs.Ythlhocneggcekaa
namespace Go.Proofs.Ythlhocneggcekaa
open Go.ChangeShapes Go.WideShapes Go.ChangeAt Go.RowKit
theorem law_own : ownKnob Try.prog.godebug = none := by kernel_rfl
theorem law_laidOut : laidOutB Try.prog = true := by kernel_rfl
theorem int_cells : Try.prog.cellsOf 3 = 1 := by kernel_rfl
theorem bool_cells : Try.prog.cellsOf 4 = 1 := by kernel_rfl
theorem array5 {cs : List Value} (h : cs.length = 5) : ∃ c0 c1 c2 c3 c4, cs = [c0, c1, c2, c3, c4] := by
  match cs, h with
  | [c0, c1, c2, c3, c4], _ => exact ⟨c0, c1, c2, c3, c4, rfl⟩
theorem array3 {cs : List Value} (h : cs.length = 3) : ∃ c0 c1 c2, cs = [c0, c1, c2] := by
  match cs, h with
  | [c0, c1, c2], _ => exact ⟨c0, c1, c2, rfl⟩
section
variable {H : Type} {enc : TypeId × Value → H} {W : World}
theorem cell_int {n : Nat} {c : Value} {y : Option (DataW H × List MemPlace)} (h : DataW.trod enc Try.prog W 0 (fun _ => true) true n 3 [c] = y) (hy : y ≠ none) : ∃ a, c = .int .i64 a := by
  cases y with
  | none => exact absurd rfl hy
  | some y =>
    obtain ⟨a, e, _⟩ := DataW.trod_int Try.underlying3 h
    exact ⟨a, by simpa using e⟩
theorem cell_bool {n : Nat} {c : Value} {y : Option (DataW H × List MemPlace)} (h : DataW.trod enc Try.prog W 0 (fun _ => true) true n 4 [c] = y) (hy : y ≠ none) : ∃ a, c = .bool a := by
  cases y with
  | none => exact absurd rfl hy
  | some y =>
    obtain ⟨a, e, _⟩ := DataW.trod_bool Try.underlying4 h
    exact ⟨a, by simpa using e⟩
end
end Go.Proofs.Ythlhocneggcekaa
namespace Go.Proofs.Ythlhocneggcekaa
open Go.ChangeShapes Go.WideShapes Go.ChangeAt Go.RowKit
theorem mem_cells : Try.prog.cellsOf 30 = 1 := by kernel_rfl
theorem slice_cells : Try.prog.cellsOf 28 = 1 := by kernel_rfl
theorem open_row {H : Type} {enc : TypeId × Value → H} {W : World} {fuel : Nat} {c0 : Value} {x : DataW H × List MemPlace}
    (h : DataW.trod enc Try.prog W 0 (fun _ => true) true fuel 28 [c0] = some x) : ∃ zs, Sl W c0 zs := by
  rcases open_ints Try.underlying28 Try.underlying3 int_cells h with ⟨hcs, _⟩ | ⟨a, len, cap, zs, hcs, _, hl, hm, hz, _, hcell, _⟩
  · simp only [List.cons.injEq, and_true] at hcs
    subst hcs
    exact ⟨[], Sl.nil _ _ _⟩
  · simp only [List.cons.injEq, and_true] at hcs
    subst hcs
    simp only [if_true] at hz
    by_cases h0 : len = 0
    · subst h0
      exact ⟨[], Sl.nil _ _ _⟩
    · obtain ⟨b, off, spot⟩ := a
      have hc := hcell 0 (by omega)
      have hspot : spot = none := by simpa [Addr.add] using World.cell?_spot hc
      subst hspot
      have hlen : (zs.take len).length = len := by simp; omega
      refine ⟨zs.take len, _, cap, by rw [hlen], by omega, .inr ⟨b, off, rfl, ?_, fun i hi => ?_⟩⟩
      · have := World.block_lt_of_cell? W _ hc
        simpa [Addr.add] using this
      · have ha : Addr.add ⟨b, off, none⟩ i = ⟨b, off + i, none⟩ := by unfold Addr.add; split <;> simp_all
        have := hcell i (by omega)
        rw [ha] at this
        rw [this]
        have hi' : i < len := by omega
        simp [nth, hi']
end Go.Proofs.Ythlhocneggcekaa
namespace Go.Proofs.Ythlhocneggcekaa
open Go.ChangeShapes Go.WideShapes Go.ChangeAt Go.RowKit
theorem hart_cells : Try.prog.cellsOf 32 = 3 := by kernel_rfl
section
variable {H : Type} {enc : TypeId × Value → H} {W : World}
end
end Go.Proofs.Ythlhocneggcekaa
namespace Go.Proofs.Ythlhocneggcekaa
open Go.ChangeShapes Go.WideShapes Go.ChangeAt Go.RowKit
theorem line_cells : Try.prog.cellsOf 63 = 5 := by kernel_rfl
section
variable {H : Type} {enc : TypeId × Value → H} {W : World}
set_option maxRecDepth 100000 in
theorem line_open {fuel : Nat} {cs : List Value} {x : DataW H × List MemPlace} (h : DataW.trod enc Try.prog W 0 (fun _ => true) true fuel 63 cs = some x) :
    ∃ y : Ln, cs = [.int .i64 y.1, .int .i64 y.2.1, .int .i64 y.2.2.1, .bool y.2.2.2.1, .bool y.2.2.2.2] := by
  obtain ⟨xs, n, _, _, hl, hlen, hf⟩ := DataW.trod_struct Try.underlying63 h
  rw [line_cells] at hl
  obtain ⟨c0, c1, c2, c3, c4, rfl⟩ := array5 hl
  have some_at : ∀ i, i < 5 → xs[i]? ≠ none := fun i hi => by
    rw [List.getElem?_eq_getElem (by rw [hlen]; exact hi)]; simp
  obtain ⟨a, rfl⟩ := cell_int (by simpa [int_cells] using hf 0 _ rfl) (some_at 0 (by omega))
  obtain ⟨b, rfl⟩ := cell_int (by simpa [int_cells] using hf 1 _ rfl) (some_at 1 (by omega))
  obtain ⟨c, rfl⟩ := cell_int (by simpa [int_cells] using hf 2 _ rfl) (some_at 2 (by omega))
  obtain ⟨d, rfl⟩ := cell_bool (by simpa [bool_cells] using hf 3 _ rfl) (some_at 3 (by omega))
  obtain ⟨p, rfl⟩ := cell_bool (by simpa [bool_cells] using hf 4 _ rfl) (some_at 4 (by omega))
  exact ⟨(a, b, c, d, p), rfl⟩
theorem choose_len {P : Nat → Ln → Prop} : ∀ n, (∀ i, i < n → ∃ y, P i y) → ∃ l : List Ln, l.length = n ∧ ∀ i, i < n → P i (lth l i)
  | 0, _ => ⟨[], rfl, fun i hi => absurd hi (Nat.not_lt_zero _)⟩
  | n + 1, h => by
    obtain ⟨l, hl, hp⟩ := choose_len n fun i hi => h i (by omega)
    obtain ⟨y, hy⟩ := h n (by omega)
    refine ⟨l ++ [y], by simp [hl], fun i hi => ?_⟩
    by_cases e : i = n
    · subst e
      have : lth (l ++ [y]) i = y := by simp [lth, ← hl]
      rw [this]; exact hy
    · have : lth (l ++ [y]) i = lth l i := by
        have hi' : i < l.length := by omega
        simp [lth, List.getElem?_append_left hi']
      rw [this]; exact hp i (by omega)
set_option maxRecDepth 100000 in
theorem lines_row {fuel : Nat} {c0 : Value} {x : DataW H × List MemPlace} (h : DataW.trod enc Try.prog W 0 (fun _ => true) true fuel 33 [c0] = some x) : ∃ l, Ls W c0 l := by
  rcases Deep.open_slice Try.underlying33 h with ⟨hcs, _⟩ | ⟨a, len, cap, m, n, D, Pl, hcs, hb, hl, hm, hmm, _, hx⟩
  · simp only [List.cons.injEq, and_true] at hcs
    subst hcs
    exact ⟨[], Ls.nothing _⟩
  · simp only [List.cons.injEq, and_true] at hcs
    subst hcs
    simp only [if_true] at hmm
    rw [line_cells] at hx
    by_cases h0 : len = 0
    · subst h0
      exact ⟨[], Ls.nil _ _ _ hm⟩
    · obtain ⟨b, off, spot⟩ := a
      have each : ∀ i, i < len → ∃ y : Ln, ∀ j u, (j < 5 ∧ [Value.int .i64 y.1, .int .i64 y.2.1, .int .i64 y.2.2.1, .bool y.2.2.2.1, .bool y.2.2.2.2][j]? = some u) → W.cell? ((⟨b, off, spot⟩ : Addr).add (i * 5 + j)) = some u := by
        intro i hi
        obtain ⟨cs', h1, h2⟩ := hx i (by omega)
        obtain ⟨y, rfl⟩ := line_open h2
        obtain ⟨_, _, hcell⟩ := World.cells?_some h1
        refine ⟨y, fun j u ⟨hj, hu⟩ => ?_⟩
        have := hcell j (by omega)
        rw [Deep.add_add, hu] at this
        exact this
      obtain ⟨l, hlen, hp⟩ := choose_len (P := fun i y => ∀ j u, (j < 5 ∧ [Value.int .i64 y.1, .int .i64 y.2.1, .int .i64 y.2.2.1, .bool y.2.2.2.1, .bool y.2.2.2.2][j]? = some u) → W.cell? ((⟨b, off, spot⟩ : Addr).add (i * 5 + j)) = some u) len each
      have hc := hp 0 (by omega) 0 _ ⟨by omega, rfl⟩
      have hspot : spot = none := by simpa [Addr.add] using World.cell?_spot hc
      subst hspot
      have ha : ∀ i, Addr.add ⟨b, off, none⟩ i = ⟨b, off + i, none⟩ := fun i => by unfold Addr.add; split <;> simp_all
      refine ⟨l, _, cap, by rw [hlen], by omega, hm, .inr ⟨b, off, rfl, ?_, fun i hi => ?_⟩⟩
      · have := World.block_lt_of_cell? W _ hc
        simpa [Addr.add] using this
      · rw [hlen] at hi
        have hq := hp i hi
        refine ⟨?_, ?_, ?_, ?_, ?_⟩
        · have := hq 0 _ ⟨by omega, rfl⟩; rw [ha] at this; exact this
        · have := hq 1 _ ⟨by omega, rfl⟩; rw [ha, ← Nat.add_assoc] at this; exact this
        · have := hq 2 _ ⟨by omega, rfl⟩; rw [ha, ← Nat.add_assoc] at this; exact this
        · have := hq 3 _ ⟨by omega, rfl⟩; rw [ha, ← Nat.add_assoc] at this; exact this
        · have := hq 4 _ ⟨by omega, rfl⟩; rw [ha, ← Nat.add_assoc] at this; exact this
end
end Go.Proofs.Ythlhocneggcekaa
namespace Go.Proofs.Ythlhocneggcekaa
open Go.ChangeShapes Go.WideShapes Go.ChangeAt Go.RowKit
theorem ring_cells : Try.prog.cellsOf 35 = 3 := by kernel_rfl
section
variable {H : Type} {enc : TypeId × Value → H} {W : World}
set_option maxRecDepth 100000 in
theorem ring_open {fuel : Nat} {cs : List Value} {x : DataW H × List MemPlace} (h : DataW.trod enc Try.prog W 0 (fun _ => true) true fuel 35 cs = some x) :
    ∃ a b p, cs = [.int .i64 a, .int .i64 b, .int .i64 p] := by
  obtain ⟨xs, n, _, _, hl, hlen, hf⟩ := DataW.trod_struct Try.underlying35 h
  rw [ring_cells] at hl
  obtain ⟨c0, c1, c2, rfl⟩ := array3 hl
  have some_at : ∀ i, i < 3 → xs[i]? ≠ none := fun i hi => by
    rw [List.getElem?_eq_getElem (by rw [hlen]; exact hi)]; simp
  obtain ⟨a, rfl⟩ := cell_int (by simpa [int_cells] using hf 0 _ rfl) (some_at 0 (by omega))
  obtain ⟨b, rfl⟩ := cell_int (by simpa [int_cells] using hf 1 _ rfl) (some_at 1 (by omega))
  obtain ⟨p, rfl⟩ := cell_int (by simpa [int_cells] using hf 2 _ rfl) (some_at 2 (by omega))
  exact ⟨a, b, p, rfl⟩
end
end Go.Proofs.Ythlhocneggcekaa
namespace Go.Proofs.Ythlhocneggcekaa
open Go.ChangeShapes Go.WideShapes Go.ChangeAt Go.RowKit
theorem bri_cells : Try.prog.cellsOf 37 = 12 := by kernel_rfl
theorem lines_cells : Try.prog.cellsOf 33 = 1 := by kernel_rfl
theorem array12 {cs : List Value} (h : cs.length = 12) : ∃ c0 c1 c2 c3 c4 c5 c6 c7 c8 c9 c10 c11, cs = [c0, c1, c2, c3, c4, c5, c6, c7, c8, c9, c10, c11] := by
  match cs, h with
  | [c0, c1, c2, c3, c4, c5, c6, c7, c8, c9, c10, c11], _ => exact ⟨c0, c1, c2, c3, c4, c5, c6, c7, c8, c9, c10, c11, rfl⟩
section
variable {H : Type} {enc : TypeId × Value → H} {W : World}
end
end Go.Proofs.Ythlhocneggcekaa
