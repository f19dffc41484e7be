/-
  Package ring: what isPage, isStep, Check, Length, place, next, checkBoth answer; none turns memory that was there.
-/
import Derived.Test.YtemnklppplgcoabMem
import Derived.Test.YtemnklppplgcoabBlks
namespace Go.Proofs.Ytemnklppplgcoab
open Go.RowKit

/-- Is it a page, a step of a ring? -/
def pageR (z : Int) : Bool := decide (0 ≤ z ∧ z < 64)
def stepR (z : Int) : Bool := decide (0 ≤ z ∧ z < 8)
/-- What Check says of a ring. -/
def chkR (p h t : Int) : Int := if pageR p = true then (if stepR h = true then (if stepR t = true then 0 else 2) else 2) else 2
/-- How many wait. -/
def lenR (h t : Int) : Int := (t - h + 8) % 8
/-- What is wrong with a memory, or a ring in it. -/
def bothR (zs : List Int) (p h t : Int) : Int := if chk zs = 0 then chkR p h t else chk zs

theorem pageR_in {z : Int} (h : pageR z = true) : 0 ≤ z ∧ z < 64 := by simpa [pageR] using h
theorem stepR_in {z : Int} (h : stepR z = true) : 0 ≤ z ∧ z < 8 := by simpa [stepR] using h
theorem chkR_ok {p h t : Int} (k : chkR p h t = 0) : pageR p = true ∧ stepR h = true ∧ stepR t = true := by
  unfold chkR at k
  by_cases a : pageR p = true
  · by_cases b : stepR h = true
    · by_cases c : stepR t = true
      · exact ⟨a, b, c⟩
      · simp [a, b, c] at k
    · simp [a, b] at k
  · simp [a] at k
theorem chkR_mk {p h t : Int} (a : pageR p = true) (b : stepR h = true) (c : stepR t = true) : chkR p h t = 0 := by simp [chkR, a, b, c]
theorem chkR_cases (p h t : Int) : chkR p h t = 0 ∨ chkR p h t = 2 := by
  unfold chkR
  by_cases a : pageR p = true
  · by_cases b : stepR h = true
    · by_cases c : stepR t = true
      · simp [a, b, c]
      · simp [a, b, c]
    · simp [a, b]
  · simp [a]
theorem lenR_in (h t : Int) : 0 ≤ lenR h t ∧ lenR h t < 8 := by unfold lenR; omega

theorem isPageR_any (z : Int) (w : World) : Calls Try.prog 81 #[.int .i64 z] w fun e w' => e = .returned (.bool (pageR z)) ∧ w' = w := by
  by_cases h1 : 0 ≤ z
  · by_cases h2 : z < 64
    · have : pageR z = true := by simp [pageR, h1, h2]
      rw [this]
      go_enter Try.func81, Try.ntmps81
      go_wp2
      go_ret
      exact ⟨rfl, rfl⟩
    · have : pageR z = false := by simp [pageR, h2]
      rw [this]
      go_enter Try.func81, Try.ntmps81
      go_wp2
      go_ret
      exact ⟨rfl, rfl⟩
  · have : pageR z = false := by simp [pageR, h1]
    rw [this]
    go_enter Try.func81, Try.ntmps81
    go_wp2
    go_ret
    exact ⟨rfl, rfl⟩
theorem isStep_any (z : Int) (w : World) : Calls Try.prog 82 #[.int .i64 z] w fun e w' => e = .returned (.bool (stepR z)) ∧ w' = w := by
  by_cases h1 : 0 ≤ z
  · by_cases h2 : z < 8
    · have : stepR z = true := by simp [stepR, h1, h2]
      rw [this]
      go_enter Try.func82, Try.ntmps82
      go_wp2
      go_ret
      exact ⟨rfl, rfl⟩
    · have : stepR z = false := by simp [stepR, h2]
      rw [this]
      go_enter Try.func82, Try.ntmps82
      go_wp2
      go_ret
      exact ⟨rfl, rfl⟩
  · have : stepR z = false := by simp [stepR, h1]
    rw [this]
    go_enter Try.func82, Try.ntmps82
    go_wp2
    go_ret
    exact ⟨rfl, rfl⟩

/-- The block of a ring that is handed in. -/
abbrev ringB (p h t : Int) : Obj := .cells #[.int .i64 p, .int .i64 h, .int .i64 t] 42

set_option maxHeartbeats 1000000 in
theorem rCheck_any (p h t : Int) (w : World) :
    Calls Try.prog 58 #[.agg #[.int .i64 p, .int .i64 h, .int .i64 t]] w fun e w' => e = .returned (.int .i64 (chkR p h t)) ∧ w' = w.alloc (ringB p h t) := by
  cases a : pageR p
  · have : chkR p h t = 2 := by simp [chkR, a]
    rw [this]
    go_enter Try.func58, Try.ntmps58
    go_wp2_with (first | (go_at_call 81; refine (isPageR_any _ _).mono ?_; rintro e w' ⟨rfl, rfl⟩) | (go_at_call 82; refine (isStep_any _ _).mono ?_; rintro e w' ⟨rfl, rfl⟩))
    go_ret
    exact ⟨rfl, rfl⟩
  cases b : stepR h
  · have : chkR p h t = 2 := by simp [chkR, a, b]
    rw [this]
    go_enter Try.func58, Try.ntmps58
    go_wp2_with (first | (go_at_call 81; refine (isPageR_any _ _).mono ?_; rintro e w' ⟨rfl, rfl⟩) | (go_at_call 82; refine (isStep_any _ _).mono ?_; rintro e w' ⟨rfl, rfl⟩))
    go_ret
    exact ⟨rfl, rfl⟩
  cases c : stepR t
  · have : chkR p h t = 2 := by simp [chkR, a, b, c]
    rw [this]
    go_enter Try.func58, Try.ntmps58
    go_wp2_with (first | (go_at_call 81; refine (isPageR_any _ _).mono ?_; rintro e w' ⟨rfl, rfl⟩) | (go_at_call 82; refine (isStep_any _ _).mono ?_; rintro e w' ⟨rfl, rfl⟩))
    go_ret
    exact ⟨rfl, rfl⟩
  have : chkR p h t = 0 := by simp [chkR, a, b, c]
  rw [this]
  go_enter Try.func58, Try.ntmps58
  go_wp2_with (first | (go_at_call 81; refine (isPageR_any _ _).mono ?_; rintro e w' ⟨rfl, rfl⟩) | (go_at_call 82; refine (isStep_any _ _).mono ?_; rintro e w' ⟨rfl, rfl⟩))
  go_ret
  exact ⟨rfl, rfl⟩

set_option maxHeartbeats 1000000 in
/-- Length of a right ring. -/
theorem length_any (p h t : Int) (w : World) (hh : 0 ≤ h ∧ h < 8) (ht : 0 ≤ t ∧ t < 8) :
    Calls Try.prog 39 #[.agg #[.int .i64 p, .int .i64 h, .int .i64 t]] w fun e w' => e = .returned (.int .i64 (lenR h t)) ∧ w' = w.alloc (ringB p h t) := by
  obtain ⟨h0, h1⟩ := hh
  obtain ⟨t0, t1⟩ := ht
  go_enter Try.func39, Try.ntmps39
  go_wp2
  go_ret
  exact ⟨rfl, rfl⟩

set_option maxHeartbeats 1000000 in
theorem place_any (p h t s : Int) (w : World) (hp : 0 ≤ p ∧ p < 64) (hs : 0 ≤ s ∧ s < 8) :
    Calls Try.prog 72 #[.agg #[.int .i64 p, .int .i64 h, .int .i64 t], .int .i64 s] w fun e w' => e = .returned (.int .i64 (p * 8 + s)) ∧ w' = w.alloc (ringB p h t) := by
  obtain ⟨h0, h1⟩ := hp
  obtain ⟨t0, t1⟩ := hs
  go_enter Try.func72, Try.ntmps72
  go_wp2
  go_ret
  exact ⟨rfl, rfl⟩

theorem next_any (s : Int) (w : World) (hs : 0 ≤ s ∧ s < 8) : Calls Try.prog 73 #[.int .i64 s] w fun e w' => e = .returned (.int .i64 ((s + 1) % 8)) ∧ w' = w := by
  obtain ⟨t0, t1⟩ := hs
  go_enter Try.func73, Try.ntmps73
  go_wp2
  go_ret
  exact ⟨rfl, rfl⟩

set_option maxHeartbeats 1000000 in
theorem checkBoth_any (v : Value) (zs : List Int) (p h t : Int) (w : World) (hs : Sl w v zs) :
    Calls Try.prog 71 #[.agg #[v], .agg #[.int .i64 p, .int .i64 h, .int .i64 t]] w fun e w' => e = .returned (.int .i64 (bothR zs p h t)) ∧ Below w.heap.size w w' := by
  go_enter Try.func71, Try.ntmps71
  go_wp2_with fail
  refine (check_any _ zs _ (hs.keep (bel_alloc (bel_alloc (Below.refl _ _) _) _))).mono ?_
  rintro e w1 ⟨rfl, b1⟩
  have K1 := (Blk.newAt (n := w.heap.size + 1) (by simp) #[.int .i64 p, .int .i64 h, .int .i64 t] 42 (0, 0)).keep b1
  obtain ⟨d0, d1, d2⟩ := K1.three
  have B1 : Hid (Below w.heap.size w w1) := bel_trans (bel_alloc (bel_alloc (Below.refl _ _) _) _) b1
  have s1 := K1.lt
  clear b1 K1
  by_cases hk : chk zs = 0
  · have HR : Hid (bothR zs p h t = chkR p h t) := by show _ = _; simp [bothR, hk]
    rw [hk]
    go_wp2_with fail
    refine (rCheck_any _ _ _ _).mono ?_
    rintro e w2 ⟨rfl, rfl⟩
    go_wp2
    go_ret
    exact ⟨ret_int HR.out.symm, bel_alloc B1.out _⟩
  · have HR : Hid (bothR zs p h t = chk zs) := by show _ = _; simp [bothR, hk]
    have hq : (chk zs != 0) = true := by simpa using hk
    go_wp2
    go_ret
    exact ⟨ret_int HR.out.symm, B1.out⟩
end Go.Proofs.Ytemnklppplgcoab
