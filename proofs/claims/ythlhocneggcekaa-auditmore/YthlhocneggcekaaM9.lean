/-
  Laid together: AMoreWalk, Open0.
-/
import Derived.Test.YthlhocneggcekaaM1
import Derived.Test.YthlhocneggcekaaM2
import Derived.Test.YthlhocneggcekaaM3
import Derived.Test.YthlhocneggcekaaM4
import Derived.Test.YthlhocneggcekaaM5
import Derived.Test.YthlhocneggcekaaM6
import Derived.Test.YthlhocneggcekaaM7
import Derived.Test.YthlhocneggcekaaM8
import Derived.Deep.RegionHeld
import Derived.Deep.RegionHeld3
import Derived.LoopN
import Derived.Deep.CutRange
import Derived.Deep.AppendLies
import Derived.Laws.CopyOwn
import Derived.Deep.RegionWith
import Derived.Maps.OwnOps
import Derived.Maps.OwnSet
import Derived.Deep.DrawnRows
import Derived.Test.YthlhocneggcekaaRows
import Derived.WalkKit
import Derived.WalkSpells
import Derived.WalkLawsBesides
import Derived.Below
import Derived.WalkSmall
import Derived.Deep.QuietTactic
import Derived.BigQuiet
import Derived.Deep.Draws
import Derived.ProofKit
import Derived.OpenShut
import Derived.ShutString
import Derived.ChangeOld
namespace Go.Proofs.Ythlhocneggcekaa
open Go.RowKit
theorem rem_at {k : Int} {n : Nat} (hn : 0 < n) : ∃ j : Nat, j < n ∧ (if k.tmod n < 0 then k.tmod n + n else k.tmod n) = j := by
  have hn' : (0 : Int) < n := by omega
  have h1 : k.tmod n < n := Int.tmod_lt_of_pos k hn'
  have h2 : -(n : Int) < k.tmod n := by
    have := Int.tmod_lt_of_pos (-k) hn'
    rw [Int.neg_tmod] at this
    omega
  split
  · exact ⟨(k.tmod n + n).toNat, by omega, by omega⟩
  · exact ⟨(k.tmod n).toNat, by omega, by omega⟩
set_option maxHeartbeats 1000000 in
theorem atN_any (k : Int) {n : Nat} (hn : 0 < n) (hm : n ≤ 1000) (w : World) : Calls Try.prog 11 #[.int .i64 k, .int .i64 n] w fun e w' => ∃ j : Nat, j < n ∧ e = .returned (.int .i64 j) ∧ w' = w := by
  obtain ⟨j, hj, he⟩ := rem_at (k := k) hn
  have HJ : Hid (j < n) := hj
  have hn' : (0 : Int) < n := by omega
  have hm' : (n : Int) ≤ 1000 := by omega
  have hz : ¬ (n : Int) = 0 := by omega
  have h1 : k.tmod n < n := Int.tmod_lt_of_pos k hn'
  have h2 : -(n : Int) < k.tmod n := by
    have := Int.tmod_lt_of_pos (-k) hn'
    rw [Int.neg_tmod] at this
    omega
  by_cases hs : k.tmod n < 0
  · rw [if_pos hs] at he
    have HE : Hid (k.tmod n + n = j) := he
    clear he hj
    go_enter Try.func11, Try.ntmps11
    go_wp2
    go_ret
    exact ⟨j, HJ.out, ret_int HE.out, rfl⟩
  · rw [if_neg hs] at he
    have HE : Hid (k.tmod n = j) := he
    clear he hj
    go_enter Try.func11, Try.ntmps11
    go_wp2
    go_ret
    exact ⟨j, HJ.out, ret_int HE.out, rfl⟩
theorem Ms.none {w : World} {n cap : Nat} {l : List Mc} (h : Ms w (.slice none n cap) l) : l.length = 0 := by
  obtain ⟨a', c', e', -, -, q⟩ := h
  simp only [Value.slice.injEq] at e'
  rcases q with q | ⟨b', o', q, -⟩
  · rw [q]; rfl
  · rw [← e'.1] at q; cases q
theorem Ms.nilOf {w : World} {a : Option Addr} {k cap : Nat} {l : List Mc} (h : l.length = 0) (hk : k = 0) (hc : cap ≤ maxLen) : Ms w (.slice a k cap) l := by
  obtain rfl : l = [] := List.eq_nil_of_length_eq_zero h
  subst hk
  exact Ms.nil w a cap hc
def MoreA (l : List Mc) (t : Tc) (W : World) (s1 s2 : Value) (wx : World) : Prop := ∃ z, s1 = .int .i64 z ∧ s2 = .int .i64 0 ∧ IsLast l t z ∧ Below W.heap.size W wx
set_option maxRecDepth 10000 in
set_option maxHeartbeats 4000000 in
theorem amore_any {v : Value} {l : List Mc} {d s a : Int} {f : Bool} {x k : Int} {w : World} (hl : Ms w v l) :
    Calls Try.prog 4 #[v, .agg #[.int .i64 d, .int .i64 s, .int .i64 a, .bool f, .int .i64 x], .int .i64 k] w fun e w' => e = .returned (.bool true) ∧ Below w.heap.size w w' := by
  have HL : Hid (Ms w v l) := hl
  obtain ⟨va, vk, rfl, hc1, hc2⟩ := hl.shape
  clear hl
  have X1 := Box.newAt (w := w) (n := w.heap.size) rfl 24 #[.int .i64 d, .int .i64 s, .int .i64 a, .bool f, .int .i64 x]
  have B0 : Hid (Below w.heap.size w (w.alloc (.cells #[.int .i64 d, .int .i64 s, .int .i64 a, .bool f, .int .i64 x] 24))) := bel_alloc (Below.refl w.heap.size w) _
  go_enter Try.func4, Try.ntmps4
  go_upto_region 1 with fail
  generalize (w.alloc (.cells #[.int .i64 d, .int .i64 s, .int .i64 a, .bool f, .int .i64 x] 24)) = W at *
  have BW : Hid (Below W.heap.size W W) := Below.refl _ _
  obtain ⟨t0, t1, t2, t3, t4⟩ := X1.blk.five
  have s1 := X1.lt
  go_wp2_with fail
  refine (fair_any (HL.out.keep B0.out)).mono ?_
  rintro e w2 ⟨j, rfl, hj, -, b2⟩
  obtain ⟨z, hz⟩ : ∃ z, frE l (d, s, a, f, x) = z := ⟨_, rfl⟩
  have HZ : Hid (frE l (d, s, a, f, x) = z) := hz
  rw [hz] at hj ⊢
  have HJ : Hid (z = 0 → IsLast l (d, s, a, f, x) j) := hj
  clear hz hj t0 t1 t2 t3 t4 s1
  go_wp2_with fail
  refine (audited_true _).mono ?_
  rintro e w3 ⟨rfl, b3⟩
  have b3 := bel_trans b2 b3
  clear b2
  by_cases h0 : z = 0
  rotate_left
  · have q : (z != 0) = true := by simpa using h0
    clear h0 HZ HJ
    go_wp2_with fail
    refine (audited_true _).mono ?_
    rintro e w4 ⟨rfl, b4⟩
    go_wp2_with fail
    go_ret
    exact ⟨rfl, bel_trans B0.out (bel_trans b3 b4)⟩
  subst h0
  have q : ((0 : Int) != 0) = false := rfl
  have HF := HJ.out rfl
  have hlen : l.length ≤ 121 := (frE_ok HZ.out).1
  have hadd : (l.length : Int) + 1 ≤ 1000 := by omega
  have hnn : (0 : Int) ≤ l.length := by omega
  go_wp2_with fail
  refine (atN_any k (n := l.length + 1) (by omega) (by omega) _).mono ?_
  rintro e w4 ⟨n, hn, rfl, rfl⟩
  have HTK : Hid (frE (l.take n) (d, s, a, f, x) = 0) := frE_take n HZ.out
  have HDR : Hid (frE (l.drop n) (d, s, a, f, x) = 0) := frE_drop n HZ.out
  have HJL : Hid (IsLast l (d, s, a, f, x) j) := HF
  have X1 := X1.keep b3
  have HL4 : Hid (Ms w4 (.slice va l.length vk) l) := HL.out.keep (bel_trans B0.out b3)
  have B4 : Hid (Below w.heap.size w w4) := bel_trans B0.out b3
  unfold maxLen at hc2
  have hn1 : (n : Int) ≤ vk := by omega
  have hn2 : (n : Int) ≤ l.length := by omega
  have hc3 : (l.length : Int) ≤ vk := by omega
  have hn0 : (0 : Int) ≤ n := by omega
  have HN : Hid (n ≤ l.length) := by show n ≤ _; omega
  have HV : Hid (vk ≤ maxLen) := by show vk ≤ _; unfold maxLen; omega
  go_upto_region 5 with fail
  clear b3 HL HZ HJ HF q
  go_cut [9, 8] from 31 to 37 (fun s9 s8 wx => MoreA (l.take n) (d, s, a, f, x) w4 s9 s8 wx)
  case first =>
    cases va with
    | none =>
      refine wp_region_held_drew (S := fun w' => Below w4.heap.size w4 w') (by kernel_rfl) (Below.drew (Below.refl _ _)) (fun hHeld => ?_)
      refine wpHeld_takeL (i := 0) (v := ?_) rfl (by kernel_rfl) (by kernel_rfl) (by kernel_rfl) (fun _ _ _ h => h) (Or.inl ⟨by kernel_rfl, ?_⟩) (by assumption) ?_
      rotate_left 1
      focus (intro wz hSz; (try dsimp only at hSz); go_simp; (try with_reducible rfl))
      simp only [Act.put, List.setIfInBounds_toArray, List.set_cons_zero, List.set_cons_succ]
      refine wpHeld_takeL (i := 1) (v := ?_) rfl (by kernel_rfl) (by kernel_rfl) (by kernel_rfl) (fun _ _ _ h => h) (Or.inl ⟨by kernel_rfl, ?_⟩) (by assumption) ?_
      rotate_left 1
      focus (intro wz hSz; (try dsimp only at hSz); go_simp; (try with_reducible rfl))
      simp only [Act.put, List.setIfInBounds_toArray, List.set_cons_zero, List.set_cons_succ]
      refine wpHeld_takeL (i := 2) (v := ?_) rfl (by kernel_rfl) (by kernel_rfl) (by kernel_rfl) (fun _ _ _ h => h) (Or.inl ⟨by kernel_rfl, ?_⟩) (by assumption) ?_
      rotate_left 1
      focus (intro wz hSz; (try dsimp only at hSz); go_simp; (try with_reducible rfl))
      simp only [Act.put, List.setIfInBounds_toArray, List.set_cons_zero, List.set_cons_succ]
      refine wpHeld_takeL (i := 3) (v := .agg #[.int .i64 d, .int .i64 s, .int .i64 a, .bool f, .int .i64 x]) rfl (by kernel_rfl) (by kernel_rfl) (by kernel_rfl) (fun _ _ _ h => h) (yields_row (by kernel_rfl) 24 (.tmp 4) rfl rfl (fun wz hSz => run_loadVar_row wz _ _ _ _ _ _ (X1.keep hSz) Try.underlying24 rfl (by rw [infoTc]; rfl))) (by assumption) ?_
      simp only [Act.put, List.setIfInBounds_toArray, List.set_cons_zero, List.set_cons_succ]
      refine wpHeld_oneL (i := 4) (by kernel_rfl) (by rfl) (fun K hK => ?_)
      go_simp
      refine (fair_any (l := l.take n) ?_).mono ?_
      · exact (HL4.out.keep hHeld).take HN.out
      rintro e w5 ⟨z, rfl, h5, -, b5⟩
      have HZ : Hid (IsLast (l.take n) (d, s, a, f, x) z) := h5 HTK.out
      rw [HTK.out]
      clear h5
      go_wp2_with fail
      refine hK.out _ _ (bel_trans hHeld b5) (fun hHeld2 => ?_)
      clear hK K hHeld b5
      refine wpHeld_takeL (i := 5) (v := ?_) rfl (by kernel_rfl) (by kernel_rfl) (by kernel_rfl) (fun _ _ _ h => h) (Or.inl ⟨by kernel_rfl, ?_⟩) (by assumption) ?_
      rotate_left 1
      focus (intro wz hSz; (try dsimp only at hSz); go_simp; (try with_reducible rfl))
      simp only [Act.put, List.setIfInBounds_toArray, List.set_cons_zero, List.set_cons_succ]
      refine wpHeld_takeL (i := 6) (v := ?_) rfl (by kernel_rfl) (by kernel_rfl) (by kernel_rfl) (fun _ _ _ h => h) (Or.inl ⟨by kernel_rfl, ?_⟩) (by assumption) ?_
      rotate_left 1
      focus (intro wz hSz; (try dsimp only at hSz); go_simp; (try with_reducible rfl))
      simp only [Act.put, List.setIfInBounds_toArray, List.set_cons_zero, List.set_cons_succ]
      refine wpHeld_takeL (i := 7) (v := ?_) rfl (by kernel_rfl) (by kernel_rfl) (by kernel_rfl) (fun _ _ _ h => h) (Or.inl ⟨by kernel_rfl, ?_⟩) (by assumption) ?_
      rotate_left 1
      focus (intro wz hSz; (try dsimp only at hSz); go_simp; (try with_reducible rfl))
      simp only [Act.put, List.setIfInBounds_toArray, List.set_cons_zero, List.set_cons_succ]
      refine wpHeld_takeL (i := 8) (v := ?_) rfl (by kernel_rfl) (by kernel_rfl) (by kernel_rfl) (fun _ _ _ h => h) (Or.inl ⟨by kernel_rfl, ?_⟩) (by assumption) ?_
      rotate_left 1
      focus (intro wz hSz; (try dsimp only at hSz); go_simp; (try with_reducible rfl))
      simp only [Act.put, List.setIfInBounds_toArray, List.set_cons_zero, List.set_cons_succ]
      refine wpHeld_takeL (i := 9) (v := ?_) rfl (by kernel_rfl) (by kernel_rfl) (by kernel_rfl) (fun _ _ _ h => h) (Or.inl ⟨by kernel_rfl, ?_⟩) (by assumption) ?_
      rotate_left 1
      focus (intro wz hSz; (try dsimp only at hSz); go_simp; (try with_reducible rfl))
      simp only [Act.put, List.setIfInBounds_toArray, List.set_cons_zero, List.set_cons_succ]
      refine wpAnyH_done (by kernel_rfl) ?_ _
      go_wp2_with fail
      go_meet
      exact ⟨z, rfl, rfl, HZ.out, hHeld2⟩
    | some ad =>
      by_cases hv0 : vk = 0
      · subst hv0
        obtain rfl : n = 0 := by omega
        refine wp_region_held_drew (S := fun w' => Below w4.heap.size w4 w') (by kernel_rfl) (Below.drew (Below.refl _ _)) (fun hHeld => ?_)
        refine wpHeld_takeL (i := 0) (v := ?_) rfl (by kernel_rfl) (by kernel_rfl) (by kernel_rfl) (fun _ _ _ h => h) (Or.inl ⟨by kernel_rfl, ?_⟩) (by assumption) ?_
        rotate_left 1
        focus (intro wz hSz; (try dsimp only at hSz); go_simp; (try with_reducible rfl))
        simp only [Act.put, List.setIfInBounds_toArray, List.set_cons_zero, List.set_cons_succ]
        refine wpHeld_takeL (i := 1) (v := ?_) rfl (by kernel_rfl) (by kernel_rfl) (by kernel_rfl) (fun _ _ _ h => h) (Or.inl ⟨by kernel_rfl, ?_⟩) (by assumption) ?_
        rotate_left 1
        focus (intro wz hSz; (try dsimp only at hSz); go_simp; (try with_reducible rfl))
        simp only [Act.put, List.setIfInBounds_toArray, List.set_cons_zero, List.set_cons_succ]
        refine wpHeld_takeL (i := 2) (v := ?_) rfl (by kernel_rfl) (by kernel_rfl) (by kernel_rfl) (fun _ _ _ h => h) (Or.inl ⟨by kernel_rfl, ?_⟩) (by assumption) ?_
        rotate_left 1
        focus (intro wz hSz; (try dsimp only at hSz); go_simp; (try with_reducible rfl))
        simp only [Act.put, List.setIfInBounds_toArray, List.set_cons_zero, List.set_cons_succ]
        refine wpHeld_takeL (i := 3) (v := .agg #[.int .i64 d, .int .i64 s, .int .i64 a, .bool f, .int .i64 x]) rfl (by kernel_rfl) (by kernel_rfl) (by kernel_rfl) (fun _ _ _ h => h) (yields_row (by kernel_rfl) 24 (.tmp 4) rfl rfl (fun wz hSz => run_loadVar_row wz _ _ _ _ _ _ (X1.keep hSz) Try.underlying24 rfl (by rw [infoTc]; rfl))) (by assumption) ?_
        simp only [Act.put, List.setIfInBounds_toArray, List.set_cons_zero, List.set_cons_succ]
        refine wpHeld_oneL (i := 4) (by kernel_rfl) (by rfl) (fun K hK => ?_)
        go_simp
        refine (fair_any (l := l.take 0) ?_).mono ?_
        · exact (HL4.out.keep hHeld).take HN.out
        rintro e w5 ⟨z, rfl, h5, -, b5⟩
        have HZ : Hid (IsLast (l.take 0) (d, s, a, f, x) z) := h5 HTK.out
        rw [HTK.out]
        clear h5
        go_wp2_with fail
        refine hK.out _ _ (bel_trans hHeld b5) (fun hHeld2 => ?_)
        clear hK K hHeld b5
        refine wpHeld_takeL (i := 5) (v := ?_) rfl (by kernel_rfl) (by kernel_rfl) (by kernel_rfl) (fun _ _ _ h => h) (Or.inl ⟨by kernel_rfl, ?_⟩) (by assumption) ?_
        rotate_left 1
        focus (intro wz hSz; (try dsimp only at hSz); go_simp; (try with_reducible rfl))
        simp only [Act.put, List.setIfInBounds_toArray, List.set_cons_zero, List.set_cons_succ]
        refine wpHeld_takeL (i := 6) (v := ?_) rfl (by kernel_rfl) (by kernel_rfl) (by kernel_rfl) (fun _ _ _ h => h) (Or.inl ⟨by kernel_rfl, ?_⟩) (by assumption) ?_
        rotate_left 1
        focus (intro wz hSz; (try dsimp only at hSz); go_simp; (try with_reducible rfl))
        simp only [Act.put, List.setIfInBounds_toArray, List.set_cons_zero, List.set_cons_succ]
        refine wpHeld_takeL (i := 7) (v := ?_) rfl (by kernel_rfl) (by kernel_rfl) (by kernel_rfl) (fun _ _ _ h => h) (Or.inl ⟨by kernel_rfl, ?_⟩) (by assumption) ?_
        rotate_left 1
        focus (intro wz hSz; (try dsimp only at hSz); go_simp; (try with_reducible rfl))
        simp only [Act.put, List.setIfInBounds_toArray, List.set_cons_zero, List.set_cons_succ]
        refine wpHeld_takeL (i := 8) (v := ?_) rfl (by kernel_rfl) (by kernel_rfl) (by kernel_rfl) (fun _ _ _ h => h) (Or.inl ⟨by kernel_rfl, ?_⟩) (by assumption) ?_
        rotate_left 1
        focus (intro wz hSz; (try dsimp only at hSz); go_simp; (try with_reducible rfl))
        simp only [Act.put, List.setIfInBounds_toArray, List.set_cons_zero, List.set_cons_succ]
        refine wpHeld_takeL (i := 9) (v := ?_) rfl (by kernel_rfl) (by kernel_rfl) (by kernel_rfl) (fun _ _ _ h => h) (Or.inl ⟨by kernel_rfl, ?_⟩) (by assumption) ?_
        rotate_left 1
        focus (intro wz hSz; (try dsimp only at hSz); go_simp; (try with_reducible rfl))
        simp only [Act.put, List.setIfInBounds_toArray, List.set_cons_zero, List.set_cons_succ]
        refine wpAnyH_done (by kernel_rfl) ?_ _
        go_wp2_with fail
        go_meet
        exact ⟨z, rfl, rfl, HZ.out, hHeld2⟩
      · skip
        refine wp_region_held_drew (S := fun w' => Below w4.heap.size w4 w') (by kernel_rfl) (Below.drew (Below.refl _ _)) (fun hHeld => ?_)
        refine wpHeld_takeL (i := 0) (v := ?_) rfl (by kernel_rfl) (by kernel_rfl) (by kernel_rfl) (fun _ _ _ h => h) (Or.inl ⟨by kernel_rfl, ?_⟩) (by assumption) ?_
        rotate_left 1
        focus (intro wz hSz; (try dsimp only at hSz); go_simp; (try with_reducible rfl))
        simp only [Act.put, List.setIfInBounds_toArray, List.set_cons_zero, List.set_cons_succ]
        refine wpHeld_takeL (i := 1) (v := ?_) rfl (by kernel_rfl) (by kernel_rfl) (by kernel_rfl) (fun _ _ _ h => h) (Or.inl ⟨by kernel_rfl, ?_⟩) (by assumption) ?_
        rotate_left 1
        focus (intro wz hSz; (try dsimp only at hSz); go_simp; (try with_reducible rfl))
        simp only [Act.put, List.setIfInBounds_toArray, List.set_cons_zero, List.set_cons_succ]
        refine wpHeld_takeL (i := 2) (v := ?_) rfl (by kernel_rfl) (by kernel_rfl) (by kernel_rfl) (fun _ _ _ h => h) (Or.inl ⟨by kernel_rfl, ?_⟩) (by assumption) ?_
        rotate_left 1
        focus (intro wz hSz; (try dsimp only at hSz); go_simp; (try with_reducible rfl))
        simp only [Act.put, List.setIfInBounds_toArray, List.set_cons_zero, List.set_cons_succ]
        refine wpHeld_takeL (i := 3) (v := .agg #[.int .i64 d, .int .i64 s, .int .i64 a, .bool f, .int .i64 x]) rfl (by kernel_rfl) (by kernel_rfl) (by kernel_rfl) (fun _ _ _ h => h) (yields_row (by kernel_rfl) 24 (.tmp 4) rfl rfl (fun wz hSz => run_loadVar_row wz _ _ _ _ _ _ (X1.keep hSz) Try.underlying24 rfl (by rw [infoTc]; rfl))) (by assumption) ?_
        simp only [Act.put, List.setIfInBounds_toArray, List.set_cons_zero, List.set_cons_succ]
        refine wpHeld_oneL (i := 4) (by kernel_rfl) (by rfl) (fun K hK => ?_)
        go_simp
        refine (fair_any (l := l.take n) ?_).mono ?_
        · exact (HL4.out.keep hHeld).take HN.out
        rintro e w5 ⟨z, rfl, h5, -, b5⟩
        have HZ : Hid (IsLast (l.take n) (d, s, a, f, x) z) := h5 HTK.out
        rw [HTK.out]
        clear h5
        go_wp2_with fail
        refine hK.out _ _ (bel_trans hHeld b5) (fun hHeld2 => ?_)
        clear hK K hHeld b5
        refine wpHeld_takeL (i := 5) (v := ?_) rfl (by kernel_rfl) (by kernel_rfl) (by kernel_rfl) (fun _ _ _ h => h) (Or.inl ⟨by kernel_rfl, ?_⟩) (by assumption) ?_
        rotate_left 1
        focus (intro wz hSz; (try dsimp only at hSz); go_simp; (try with_reducible rfl))
        simp only [Act.put, List.setIfInBounds_toArray, List.set_cons_zero, List.set_cons_succ]
        refine wpHeld_takeL (i := 6) (v := ?_) rfl (by kernel_rfl) (by kernel_rfl) (by kernel_rfl) (fun _ _ _ h => h) (Or.inl ⟨by kernel_rfl, ?_⟩) (by assumption) ?_
        rotate_left 1
        focus (intro wz hSz; (try dsimp only at hSz); go_simp; (try with_reducible rfl))
        simp only [Act.put, List.setIfInBounds_toArray, List.set_cons_zero, List.set_cons_succ]
        refine wpHeld_takeL (i := 7) (v := ?_) rfl (by kernel_rfl) (by kernel_rfl) (by kernel_rfl) (fun _ _ _ h => h) (Or.inl ⟨by kernel_rfl, ?_⟩) (by assumption) ?_
        rotate_left 1
        focus (intro wz hSz; (try dsimp only at hSz); go_simp; (try with_reducible rfl))
        simp only [Act.put, List.setIfInBounds_toArray, List.set_cons_zero, List.set_cons_succ]
        refine wpHeld_takeL (i := 8) (v := ?_) rfl (by kernel_rfl) (by kernel_rfl) (by kernel_rfl) (fun _ _ _ h => h) (Or.inl ⟨by kernel_rfl, ?_⟩) (by assumption) ?_
        rotate_left 1
        focus (intro wz hSz; (try dsimp only at hSz); go_simp; (try with_reducible rfl))
        simp only [Act.put, List.setIfInBounds_toArray, List.set_cons_zero, List.set_cons_succ]
        refine wpHeld_takeL (i := 9) (v := ?_) rfl (by kernel_rfl) (by kernel_rfl) (by kernel_rfl) (fun _ _ _ h => h) (Or.inl ⟨by kernel_rfl, ?_⟩) (by assumption) ?_
        rotate_left 1
        focus (intro wz hSz; (try dsimp only at hSz); go_simp; (try with_reducible rfl))
        simp only [Act.put, List.setIfInBounds_toArray, List.set_cons_zero, List.set_cons_succ]
        refine wpAnyH_done (by kernel_rfl) ?_ _
        go_wp2_with fail
        go_meet
        exact ⟨z, rfl, rfl, HZ.out, hHeld2⟩
  case rest =>
    obtain ⟨aa, rfl, rfl, ha, bA⟩ := hcut
    obtain ⟨wA, rfl⟩ : ∃ wA, wA = wc := ⟨wc, rfl⟩
    have HA : Hid (IsLast (l.take n) (d, s, a, f, x) aa) := ha
    have X1 := X1.keep bA
    have HL5 : Hid (Ms wA (.slice va l.length vk) l) := HL4.out.keep bA
    have B5 : Hid (Below w.heap.size w wA) := bel_trans B4.out bA
    clear bA ha HL4 B4
    go_upto_region 6 with fail
    go_cut [10, 11] from 39 to 45 (fun s9 s8 wx => MoreA (l.drop n) (d, s, a, f, x) wA s9 s8 wx)
    case first =>
      cases va with
      | none =>
        have hl0 : Hid (l.length = 0) := HL5.out.none
        refine wp_region_held_drew (S := fun w' => Below wA.heap.size wA w') (by kernel_rfl) (Below.drew (Below.refl _ _)) (fun hHeld => ?_)
        refine wpHeld_takeL (i := 0) (v := ?_) rfl (by kernel_rfl) (by kernel_rfl) (by kernel_rfl) (fun _ _ _ h => h) (Or.inl ⟨by kernel_rfl, ?_⟩) (by assumption) ?_
        rotate_left 1
        focus (intro wz hSz; (try dsimp only at hSz); go_simp; (try with_reducible rfl))
        simp only [Act.put, List.setIfInBounds_toArray, List.set_cons_zero, List.set_cons_succ]
        refine wpHeld_takeL (i := 1) (v := ?_) rfl (by kernel_rfl) (by kernel_rfl) (by kernel_rfl) (fun _ _ _ h => h) (Or.inl ⟨by kernel_rfl, ?_⟩) (by assumption) ?_
        rotate_left 1
        focus (intro wz hSz; (try dsimp only at hSz); go_simp; (try with_reducible rfl))
        simp only [Act.put, List.setIfInBounds_toArray, List.set_cons_zero, List.set_cons_succ]
        refine wpHeld_takeL (i := 2) (v := ?_) rfl (by kernel_rfl) (by kernel_rfl) (by kernel_rfl) (fun _ _ _ h => h) (Or.inl ⟨by kernel_rfl, ?_⟩) (by assumption) ?_
        rotate_left 1
        focus (intro wz hSz; (try dsimp only at hSz); go_simp; (try with_reducible rfl))
        simp only [Act.put, List.setIfInBounds_toArray, List.set_cons_zero, List.set_cons_succ]
        refine wpHeld_takeL (i := 3) (v := .agg #[.int .i64 d, .int .i64 s, .int .i64 a, .bool f, .int .i64 x]) rfl (by kernel_rfl) (by kernel_rfl) (by kernel_rfl) (fun _ _ _ h => h) (yields_row (by kernel_rfl) 24 (.tmp 4) rfl rfl (fun wz hSz => run_loadVar_row wz _ _ _ _ _ _ (X1.keep hSz) Try.underlying24 rfl (by rw [infoTc]; rfl))) (by assumption) ?_
        simp only [Act.put, List.setIfInBounds_toArray, List.set_cons_zero, List.set_cons_succ]
        refine wpHeld_oneL (i := 4) (by kernel_rfl) (by rfl) (fun K hK => ?_)
        go_simp
        refine (fair_any (l := l.drop n) ?_).mono ?_
        · exact Ms.nilOf (by rw [List.length_drop]; have := hl0.out; omega) (by have := hl0.out; omega) (by have := HV.out; omega)
        rintro e w5 ⟨z, rfl, h5, -, b5⟩
        have HZ : Hid (IsLast (l.drop n) (d, s, a, f, x) z) := h5 HDR.out
        rw [HDR.out]
        clear h5
        go_wp2_with fail
        refine hK.out _ _ (bel_trans hHeld b5) (fun hHeld2 => ?_)
        clear hK K hHeld b5
        refine wpHeld_takeL (i := 5) (v := ?_) rfl (by kernel_rfl) (by kernel_rfl) (by kernel_rfl) (fun _ _ _ h => h) (Or.inl ⟨by kernel_rfl, ?_⟩) (by assumption) ?_
        rotate_left 1
        focus (intro wz hSz; (try dsimp only at hSz); go_simp; (try with_reducible rfl))
        simp only [Act.put, List.setIfInBounds_toArray, List.set_cons_zero, List.set_cons_succ]
        refine wpHeld_takeL (i := 6) (v := ?_) rfl (by kernel_rfl) (by kernel_rfl) (by kernel_rfl) (fun _ _ _ h => h) (Or.inl ⟨by kernel_rfl, ?_⟩) (by assumption) ?_
        rotate_left 1
        focus (intro wz hSz; (try dsimp only at hSz); go_simp; (try with_reducible rfl))
        simp only [Act.put, List.setIfInBounds_toArray, List.set_cons_zero, List.set_cons_succ]
        refine wpHeld_takeL (i := 7) (v := ?_) rfl (by kernel_rfl) (by kernel_rfl) (by kernel_rfl) (fun _ _ _ h => h) (Or.inl ⟨by kernel_rfl, ?_⟩) (by assumption) ?_
        rotate_left 1
        focus (intro wz hSz; (try dsimp only at hSz); go_simp; (try with_reducible rfl))
        simp only [Act.put, List.setIfInBounds_toArray, List.set_cons_zero, List.set_cons_succ]
        refine wpHeld_takeL (i := 8) (v := ?_) rfl (by kernel_rfl) (by kernel_rfl) (by kernel_rfl) (fun _ _ _ h => h) (Or.inl ⟨by kernel_rfl, ?_⟩) (by assumption) ?_
        rotate_left 1
        focus (intro wz hSz; (try dsimp only at hSz); go_simp; (try with_reducible rfl))
        simp only [Act.put, List.setIfInBounds_toArray, List.set_cons_zero, List.set_cons_succ]
        refine wpHeld_takeL (i := 9) (v := ?_) rfl (by kernel_rfl) (by kernel_rfl) (by kernel_rfl) (fun _ _ _ h => h) (Or.inl ⟨by kernel_rfl, ?_⟩) (by assumption) ?_
        rotate_left 1
        focus (intro wz hSz; (try dsimp only at hSz); go_simp; (try with_reducible rfl))
        simp only [Act.put, List.setIfInBounds_toArray, List.set_cons_zero, List.set_cons_succ]
        refine wpAnyH_done (by kernel_rfl) ?_ _
        go_wp2_with fail
        go_meet
        exact ⟨z, rfl, rfl, HZ.out, hHeld2⟩
      | some ad =>
        by_cases hv0 : vk = n
        · have hl0 : Hid (l.length = n) := by show l.length = n; omega
          subst hv0
          refine wp_region_held_drew (S := fun w' => Below wA.heap.size wA w') (by kernel_rfl) (Below.drew (Below.refl _ _)) (fun hHeld => ?_)
          refine wpHeld_takeL (i := 0) (v := ?_) rfl (by kernel_rfl) (by kernel_rfl) (by kernel_rfl) (fun _ _ _ h => h) (Or.inl ⟨by kernel_rfl, ?_⟩) (by assumption) ?_
          rotate_left 1
          focus (intro wz hSz; (try dsimp only at hSz); go_simp; (try with_reducible rfl))
          simp only [Act.put, List.setIfInBounds_toArray, List.set_cons_zero, List.set_cons_succ]
          refine wpHeld_takeL (i := 1) (v := ?_) rfl (by kernel_rfl) (by kernel_rfl) (by kernel_rfl) (fun _ _ _ h => h) (Or.inl ⟨by kernel_rfl, ?_⟩) (by assumption) ?_
          rotate_left 1
          focus (intro wz hSz; (try dsimp only at hSz); go_simp; (try with_reducible rfl))
          simp only [Act.put, List.setIfInBounds_toArray, List.set_cons_zero, List.set_cons_succ]
          refine wpHeld_takeL (i := 2) (v := ?_) rfl (by kernel_rfl) (by kernel_rfl) (by kernel_rfl) (fun _ _ _ h => h) (Or.inl ⟨by kernel_rfl, ?_⟩) (by assumption) ?_
          rotate_left 1
          focus (intro wz hSz; (try dsimp only at hSz); go_simp; (try with_reducible rfl))
          simp only [Act.put, List.setIfInBounds_toArray, List.set_cons_zero, List.set_cons_succ]
          refine wpHeld_takeL (i := 3) (v := .agg #[.int .i64 d, .int .i64 s, .int .i64 a, .bool f, .int .i64 x]) rfl (by kernel_rfl) (by kernel_rfl) (by kernel_rfl) (fun _ _ _ h => h) (yields_row (by kernel_rfl) 24 (.tmp 4) rfl rfl (fun wz hSz => run_loadVar_row wz _ _ _ _ _ _ (X1.keep hSz) Try.underlying24 rfl (by rw [infoTc]; rfl))) (by assumption) ?_
          simp only [Act.put, List.setIfInBounds_toArray, List.set_cons_zero, List.set_cons_succ]
          refine wpHeld_oneL (i := 4) (by kernel_rfl) (by rfl) (fun K hK => ?_)
          go_simp
          refine (fair_any (l := l.drop vk) ?_).mono ?_
          · exact Ms.nilOf (by rw [List.length_drop]; have := hl0.out; omega) (by have := hl0.out; omega) (by have := HV.out; omega)
          rintro e w5 ⟨z, rfl, h5, -, b5⟩
          have HZ : Hid (IsLast (l.drop vk) (d, s, a, f, x) z) := h5 HDR.out
          rw [HDR.out]
          clear h5
          go_wp2_with fail
          refine hK.out _ _ (bel_trans hHeld b5) (fun hHeld2 => ?_)
          clear hK K hHeld b5
          refine wpHeld_takeL (i := 5) (v := ?_) rfl (by kernel_rfl) (by kernel_rfl) (by kernel_rfl) (fun _ _ _ h => h) (Or.inl ⟨by kernel_rfl, ?_⟩) (by assumption) ?_
          rotate_left 1
          focus (intro wz hSz; (try dsimp only at hSz); go_simp; (try with_reducible rfl))
          simp only [Act.put, List.setIfInBounds_toArray, List.set_cons_zero, List.set_cons_succ]
          refine wpHeld_takeL (i := 6) (v := ?_) rfl (by kernel_rfl) (by kernel_rfl) (by kernel_rfl) (fun _ _ _ h => h) (Or.inl ⟨by kernel_rfl, ?_⟩) (by assumption) ?_
          rotate_left 1
          focus (intro wz hSz; (try dsimp only at hSz); go_simp; (try with_reducible rfl))
          simp only [Act.put, List.setIfInBounds_toArray, List.set_cons_zero, List.set_cons_succ]
          refine wpHeld_takeL (i := 7) (v := ?_) rfl (by kernel_rfl) (by kernel_rfl) (by kernel_rfl) (fun _ _ _ h => h) (Or.inl ⟨by kernel_rfl, ?_⟩) (by assumption) ?_
          rotate_left 1
          focus (intro wz hSz; (try dsimp only at hSz); go_simp; (try with_reducible rfl))
          simp only [Act.put, List.setIfInBounds_toArray, List.set_cons_zero, List.set_cons_succ]
          refine wpHeld_takeL (i := 8) (v := ?_) rfl (by kernel_rfl) (by kernel_rfl) (by kernel_rfl) (fun _ _ _ h => h) (Or.inl ⟨by kernel_rfl, ?_⟩) (by assumption) ?_
          rotate_left 1
          focus (intro wz hSz; (try dsimp only at hSz); go_simp; (try with_reducible rfl))
          simp only [Act.put, List.setIfInBounds_toArray, List.set_cons_zero, List.set_cons_succ]
          refine wpHeld_takeL (i := 9) (v := ?_) rfl (by kernel_rfl) (by kernel_rfl) (by kernel_rfl) (fun _ _ _ h => h) (Or.inl ⟨by kernel_rfl, ?_⟩) (by assumption) ?_
          rotate_left 1
          focus (intro wz hSz; (try dsimp only at hSz); go_simp; (try with_reducible rfl))
          simp only [Act.put, List.setIfInBounds_toArray, List.set_cons_zero, List.set_cons_succ]
          refine wpAnyH_done (by kernel_rfl) ?_ _
          go_wp2_with fail
          go_meet
          exact ⟨z, rfl, rfl, HZ.out, hHeld2⟩
        · by_cases hz0 : l.length = 0
          · have hl0 : Hid (l.length = 0) := hz0
            clear hz0
            refine wp_region_held_drew (S := fun w' => Below wA.heap.size wA w') (by kernel_rfl) (Below.drew (Below.refl _ _)) (fun hHeld => ?_)
            refine wpHeld_takeL (i := 0) (v := ?_) rfl (by kernel_rfl) (by kernel_rfl) (by kernel_rfl) (fun _ _ _ h => h) (Or.inl ⟨by kernel_rfl, ?_⟩) (by assumption) ?_
            rotate_left 1
            focus (intro wz hSz; (try dsimp only at hSz); go_simp; (try with_reducible rfl))
            simp only [Act.put, List.setIfInBounds_toArray, List.set_cons_zero, List.set_cons_succ]
            refine wpHeld_takeL (i := 1) (v := ?_) rfl (by kernel_rfl) (by kernel_rfl) (by kernel_rfl) (fun _ _ _ h => h) (Or.inl ⟨by kernel_rfl, ?_⟩) (by assumption) ?_
            rotate_left 1
            focus (intro wz hSz; (try dsimp only at hSz); go_simp; (try with_reducible rfl))
            simp only [Act.put, List.setIfInBounds_toArray, List.set_cons_zero, List.set_cons_succ]
            refine wpHeld_takeL (i := 2) (v := ?_) rfl (by kernel_rfl) (by kernel_rfl) (by kernel_rfl) (fun _ _ _ h => h) (Or.inl ⟨by kernel_rfl, ?_⟩) (by assumption) ?_
            rotate_left 1
            focus (intro wz hSz; (try dsimp only at hSz); go_simp; (try with_reducible rfl))
            simp only [Act.put, List.setIfInBounds_toArray, List.set_cons_zero, List.set_cons_succ]
            refine wpHeld_takeL (i := 3) (v := .agg #[.int .i64 d, .int .i64 s, .int .i64 a, .bool f, .int .i64 x]) rfl (by kernel_rfl) (by kernel_rfl) (by kernel_rfl) (fun _ _ _ h => h) (yields_row (by kernel_rfl) 24 (.tmp 4) rfl rfl (fun wz hSz => run_loadVar_row wz _ _ _ _ _ _ (X1.keep hSz) Try.underlying24 rfl (by rw [infoTc]; rfl))) (by assumption) ?_
            simp only [Act.put, List.setIfInBounds_toArray, List.set_cons_zero, List.set_cons_succ]
            refine wpHeld_oneL (i := 4) (by kernel_rfl) (by rfl) (fun K hK => ?_)
            go_simp
            refine (fair_any (l := l.drop n) ?_).mono ?_
            · exact Ms.nilOf (by rw [List.length_drop]; have := hl0.out; omega) (by have := hl0.out; omega) (by have := HV.out; omega)
            rintro e w5 ⟨z, rfl, h5, -, b5⟩
            have HZ : Hid (IsLast (l.drop n) (d, s, a, f, x) z) := h5 HDR.out
            rw [HDR.out]
            clear h5
            go_wp2_with fail
            refine hK.out _ _ (bel_trans hHeld b5) (fun hHeld2 => ?_)
            clear hK K hHeld b5
            refine wpHeld_takeL (i := 5) (v := ?_) rfl (by kernel_rfl) (by kernel_rfl) (by kernel_rfl) (fun _ _ _ h => h) (Or.inl ⟨by kernel_rfl, ?_⟩) (by assumption) ?_
            rotate_left 1
            focus (intro wz hSz; (try dsimp only at hSz); go_simp; (try with_reducible rfl))
            simp only [Act.put, List.setIfInBounds_toArray, List.set_cons_zero, List.set_cons_succ]
            refine wpHeld_takeL (i := 6) (v := ?_) rfl (by kernel_rfl) (by kernel_rfl) (by kernel_rfl) (fun _ _ _ h => h) (Or.inl ⟨by kernel_rfl, ?_⟩) (by assumption) ?_
            rotate_left 1
            focus (intro wz hSz; (try dsimp only at hSz); go_simp; (try with_reducible rfl))
            simp only [Act.put, List.setIfInBounds_toArray, List.set_cons_zero, List.set_cons_succ]
            refine wpHeld_takeL (i := 7) (v := ?_) rfl (by kernel_rfl) (by kernel_rfl) (by kernel_rfl) (fun _ _ _ h => h) (Or.inl ⟨by kernel_rfl, ?_⟩) (by assumption) ?_
            rotate_left 1
            focus (intro wz hSz; (try dsimp only at hSz); go_simp; (try with_reducible rfl))
            simp only [Act.put, List.setIfInBounds_toArray, List.set_cons_zero, List.set_cons_succ]
            refine wpHeld_takeL (i := 8) (v := ?_) rfl (by kernel_rfl) (by kernel_rfl) (by kernel_rfl) (fun _ _ _ h => h) (Or.inl ⟨by kernel_rfl, ?_⟩) (by assumption) ?_
            rotate_left 1
            focus (intro wz hSz; (try dsimp only at hSz); go_simp; (try with_reducible rfl))
            simp only [Act.put, List.setIfInBounds_toArray, List.set_cons_zero, List.set_cons_succ]
            refine wpHeld_takeL (i := 9) (v := ?_) rfl (by kernel_rfl) (by kernel_rfl) (by kernel_rfl) (fun _ _ _ h => h) (Or.inl ⟨by kernel_rfl, ?_⟩) (by assumption) ?_
            rotate_left 1
            focus (intro wz hSz; (try dsimp only at hSz); go_simp; (try with_reducible rfl))
            simp only [Act.put, List.setIfInBounds_toArray, List.set_cons_zero, List.set_cons_succ]
            refine wpAnyH_done (by kernel_rfl) ?_ _
            go_wp2_with fail
            go_meet
            exact ⟨z, rfl, rfl, HZ.out, hHeld2⟩
          · obtain ⟨b, o, -, hva, -⟩ := HL5.out.at (Below.refl _ _) (i := 0) (by omega)
            simp only [Option.some.injEq] at hva
            subst hva
            refine wp_region_held_drew (S := fun w' => Below wA.heap.size wA w') (by kernel_rfl) (Below.drew (Below.refl _ _)) (fun hHeld => ?_)
            refine wpHeld_takeL (i := 0) (v := ?_) rfl (by kernel_rfl) (by kernel_rfl) (by kernel_rfl) (fun _ _ _ h => h) (Or.inl ⟨by kernel_rfl, ?_⟩) (by assumption) ?_
            rotate_left 1
            focus (intro wz hSz; (try dsimp only at hSz); go_simp; (try with_reducible rfl))
            simp only [Act.put, List.setIfInBounds_toArray, List.set_cons_zero, List.set_cons_succ]
            refine wpHeld_takeL (i := 1) (v := ?_) rfl (by kernel_rfl) (by kernel_rfl) (by kernel_rfl) (fun _ _ _ h => h) (Or.inl ⟨by kernel_rfl, ?_⟩) (by assumption) ?_
            rotate_left 1
            focus (intro wz hSz; (try dsimp only at hSz); go_simp; (try with_reducible rfl))
            simp only [Act.put, List.setIfInBounds_toArray, List.set_cons_zero, List.set_cons_succ]
            refine wpHeld_takeL (i := 2) (v := ?_) rfl (by kernel_rfl) (by kernel_rfl) (by kernel_rfl) (fun _ _ _ h => h) (Or.inl ⟨by kernel_rfl, ?_⟩) (by assumption) ?_
            rotate_left 1
            focus (intro wz hSz; (try dsimp only at hSz); go_simp; (try with_reducible rfl))
            simp only [Act.put, List.setIfInBounds_toArray, List.set_cons_zero, List.set_cons_succ]
            refine wpHeld_takeL (i := 3) (v := .agg #[.int .i64 d, .int .i64 s, .int .i64 a, .bool f, .int .i64 x]) rfl (by kernel_rfl) (by kernel_rfl) (by kernel_rfl) (fun _ _ _ h => h) (yields_row (by kernel_rfl) 24 (.tmp 4) rfl rfl (fun wz hSz => run_loadVar_row wz _ _ _ _ _ _ (X1.keep hSz) Try.underlying24 rfl (by rw [infoTc]; rfl))) (by assumption) ?_
            simp only [Act.put, List.setIfInBounds_toArray, List.set_cons_zero, List.set_cons_succ]
            refine wpHeld_oneL (i := 4) (by kernel_rfl) (by rfl) (fun K hK => ?_)
            go_simp
            refine (fair_any (l := l.drop n) ?_).mono ?_
            · exact (HL5.out.keep hHeld).drop HN.out
            rintro e w5 ⟨z, rfl, h5, -, b5⟩
            have HZ : Hid (IsLast (l.drop n) (d, s, a, f, x) z) := h5 HDR.out
            rw [HDR.out]
            clear h5
            go_wp2_with fail
            refine hK.out _ _ (bel_trans hHeld b5) (fun hHeld2 => ?_)
            clear hK K hHeld b5
            refine wpHeld_takeL (i := 5) (v := ?_) rfl (by kernel_rfl) (by kernel_rfl) (by kernel_rfl) (fun _ _ _ h => h) (Or.inl ⟨by kernel_rfl, ?_⟩) (by assumption) ?_
            rotate_left 1
            focus (intro wz hSz; (try dsimp only at hSz); go_simp; (try with_reducible rfl))
            simp only [Act.put, List.setIfInBounds_toArray, List.set_cons_zero, List.set_cons_succ]
            refine wpHeld_takeL (i := 6) (v := ?_) rfl (by kernel_rfl) (by kernel_rfl) (by kernel_rfl) (fun _ _ _ h => h) (Or.inl ⟨by kernel_rfl, ?_⟩) (by assumption) ?_
            rotate_left 1
            focus (intro wz hSz; (try dsimp only at hSz); go_simp; (try with_reducible rfl))
            simp only [Act.put, List.setIfInBounds_toArray, List.set_cons_zero, List.set_cons_succ]
            refine wpHeld_takeL (i := 7) (v := ?_) rfl (by kernel_rfl) (by kernel_rfl) (by kernel_rfl) (fun _ _ _ h => h) (Or.inl ⟨by kernel_rfl, ?_⟩) (by assumption) ?_
            rotate_left 1
            focus (intro wz hSz; (try dsimp only at hSz); go_simp; (try with_reducible rfl))
            simp only [Act.put, List.setIfInBounds_toArray, List.set_cons_zero, List.set_cons_succ]
            refine wpHeld_takeL (i := 8) (v := ?_) rfl (by kernel_rfl) (by kernel_rfl) (by kernel_rfl) (fun _ _ _ h => h) (Or.inl ⟨by kernel_rfl, ?_⟩) (by assumption) ?_
            rotate_left 1
            focus (intro wz hSz; (try dsimp only at hSz); go_simp; (try with_reducible rfl))
            simp only [Act.put, List.setIfInBounds_toArray, List.set_cons_zero, List.set_cons_succ]
            refine wpHeld_takeL (i := 9) (v := ?_) rfl (by kernel_rfl) (by kernel_rfl) (by kernel_rfl) (fun _ _ _ h => h) (Or.inl ⟨by kernel_rfl, ?_⟩) (by assumption) ?_
            rotate_left 1
            focus (intro wz hSz; (try dsimp only at hSz); go_simp; (try with_reducible rfl))
            simp only [Act.put, List.setIfInBounds_toArray, List.set_cons_zero, List.set_cons_succ]
            refine wpAnyH_done (by kernel_rfl) ?_ _
            go_wp2_with fail
            go_meet
            exact ⟨z, rfl, rfl, HZ.out, hHeld2⟩
    case rest =>
      obtain ⟨bb, rfl, rfl, hb, bB⟩ := hcut
      have B6 : Hid (Below w.heap.size w wc) := bel_trans B5.out bB
      obtain ⟨t1, t2⟩ := IsLast.two HN.out HJL.out HA.out hb
      have hb1 := hb.1
      rw [List.length_drop] at hb1
      obtain ⟨hb2, hb3⟩ := hb1
      clear hb bB HA HJL
      by_cases hb0 : 0 ≤ bb
      · have e := t1 hb0
        subst e
        have hsm : (n : Int) + bb ≤ 1000 := by omega
        clear t1 t2
        go_wp2_with fail
        go_ret
        exact ⟨ret_bool (by simp), B6.out⟩
      · have e := t2 hb0
        subst e
        clear t1 t2
        go_wp2_with fail
        go_ret
        exact ⟨ret_bool (by simp), B6.out⟩
theorem amore_walk (v : Value) (l : List Mc) (d s a : Int) (f : Bool) (x k : Int) (w : World) (hl : Ms w v l) :
    Calls Try.prog 4 #[v, .agg #[.int .i64 d, .int .i64 s, .int .i64 a, .bool f, .int .i64 x], .int .i64 k] w fun e w' => e = .returned (.bool true) ∧ Below w.heap.size w w' := amore_any hl
end Go.Proofs.Ythlhocneggcekaa
namespace Go.Proofs.Ythlhocneggcekaa
open Go.ChangeShapes Go.WideShapes Go.ChangeAt Go.RowKit
theorem law_own : ownKnob Try.prog.godebug = none := by kernel_rfl
theorem law_laidOut : laidOutB Try.prog = true := by kernel_rfl
theorem int_cells : Try.prog.cellsOf 3 = 1 := by kernel_rfl
theorem bool_cells : Try.prog.cellsOf 4 = 1 := by kernel_rfl
theorem array5 {cs : List Value} (h : cs.length = 5) : ∃ c0 c1 c2 c3 c4, cs = [c0, c1, c2, c3, c4] := by
  match cs, h with
  | [c0, c1, c2, c3, c4], _ => exact ⟨c0, c1, c2, c3, c4, rfl⟩
theorem array3 {cs : List Value} (h : cs.length = 3) : ∃ c0 c1 c2, cs = [c0, c1, c2] := by
  match cs, h with
  | [c0, c1, c2], _ => exact ⟨c0, c1, c2, rfl⟩
section
variable {H : Type} {enc : TypeId × Value → H} {W : World}
theorem cell_int {n : Nat} {c : Value} {y : Option (DataW H × List MemPlace)} (h : DataW.trod enc Try.prog W 0 (fun _ => true) true n 3 [c] = y) (hy : y ≠ none) : ∃ a, c = .int .i64 a := by
  cases y with
  | none => exact absurd rfl hy
  | some y =>
    obtain ⟨a, e, _⟩ := DataW.trod_int Try.underlying3 h
    exact ⟨a, by simpa using e⟩
theorem cell_bool {n : Nat} {c : Value} {y : Option (DataW H × List MemPlace)} (h : DataW.trod enc Try.prog W 0 (fun _ => true) true n 4 [c] = y) (hy : y ≠ none) : ∃ a, c = .bool a := by
  cases y with
  | none => exact absurd rfl hy
  | some y =>
    obtain ⟨a, e, _⟩ := DataW.trod_bool Try.underlying4 h
    exact ⟨a, by simpa using e⟩
end
end Go.Proofs.Ythlhocneggcekaa
