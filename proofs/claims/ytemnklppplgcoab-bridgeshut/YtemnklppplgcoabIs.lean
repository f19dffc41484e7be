/-
  Package cache: isDev, isPage, checkLine, the closure of isOf, isOf itself; drawbridgeref's in. None turns memory that was there.
-/
import Derived.Test.YtemnklppplgcoabLines
namespace Go.Proofs.Ytemnklppplgcoab
open Go.RowKit

def devB (z : Int) : Bool := decide (0 ≤ z ∧ z < 8)
def pgB (z : Int) : Bool := decide (0 ≤ z ∧ z < 64)

theorem isDev_any (z : Int) (w : World) : Calls Try.prog 101 #[.int .i64 z] w fun e w' => e = .returned (.bool (devB z)) ∧ w' = w := by
  by_cases h1 : 0 ≤ z
  · by_cases h2 : z < 8
    · have : devB z = true := by simp [devB, h1, h2]
      rw [this]
      go_enter Try.func101, Try.ntmps101
      go_wp2
      go_ret
      exact ⟨rfl, rfl⟩
    · have : devB z = false := by simp [devB, h2]
      rw [this]
      go_enter Try.func101, Try.ntmps101
      go_wp2
      go_ret
      exact ⟨rfl, rfl⟩
  · have : devB z = false := by simp [devB, h1]
    rw [this]
    go_enter Try.func101, Try.ntmps101
    go_wp2
    go_ret
    exact ⟨rfl, rfl⟩

theorem cPage_any (z : Int) (w : World) : Calls Try.prog 102 #[.int .i64 z] w fun e w' => e = .returned (.bool (pgB z)) ∧ w' = w := by
  by_cases h1 : 0 ≤ z
  · by_cases h2 : z < 64
    · have : pgB z = true := by simp [pgB, h1, h2]
      rw [this]
      go_enter Try.func102, Try.ntmps102
      go_wp2
      go_ret
      exact ⟨rfl, rfl⟩
    · have : pgB z = false := by simp [pgB, h2]
      rw [this]
      go_enter Try.func102, Try.ntmps102
      go_wp2
      go_ret
      exact ⟨rfl, rfl⟩
  · have : pgB z = false := by simp [pgB, h1]
    rw [this]
    go_enter Try.func102, Try.ntmps102
    go_wp2
    go_ret
    exact ⟨rfl, rfl⟩

def inB (z a b : Int) : Bool := decide (a ≤ z ∧ z ≤ b)
theorem in_dev (z : Int) : inB z 0 7 = devB z := by unfold inB devB; congr 1; apply propext; omega
theorem in_page (z : Int) : inB z 0 63 = pgB z := by unfold inB pgB; congr 1; apply propext; omega
theorem cIn_any (z a b : Int) (w : World) : Calls Try.prog 47 #[.int .i64 z, .int .i64 a, .int .i64 b] w fun e w' => e = .returned (.bool (inB z a b)) ∧ w' = w := by
  by_cases h1 : a ≤ z
  · by_cases h2 : z ≤ b
    · have : inB z a b = true := by simp [inB, h1, h2]
      rw [this]
      go_enter Try.func47, Try.ntmps47
      go_wp2
      go_ret
      exact ⟨rfl, rfl⟩
    · have : inB z a b = false := by simp [inB, h2]
      rw [this]
      go_enter Try.func47, Try.ntmps47
      go_wp2
      go_ret
      exact ⟨rfl, rfl⟩
  · have : inB z a b = false := by simp [inB, h1]
    rw [this]
    go_enter Try.func47, Try.ntmps47
    go_wp2
    go_ret
    exact ⟨rfl, rfl⟩

/-- What is wrong with a line by itself. -/
def own (x : Ln) : Int := if rngB x = true then (if x.2.2.2.1 = true then 0 else 3) else 2
theorem rng_split (d p a : Int) (r x : Bool) : rngB (d, p, a, r, x) = (devB d && pgB p && pgB a) := rfl

set_option maxHeartbeats 1000000 in
theorem checkLine_any (d p a : Int) (r x : Bool) (w : World) :
    Calls Try.prog 80 #[.agg #[.int .i64 d, .int .i64 p, .int .i64 a, .bool r, .bool x]] w fun e w' => e = .returned (.int .i64 (own (d, p, a, r, x))) ∧ ∃ o, w' = w.alloc o := by
  have ho : own (d, p, a, r, x) = if (devB d && pgB p && pgB a) = true then (if r = true then 0 else 3) else 2 := rfl
  rw [ho]
  clear ho
  cases h1 : devB d
  · go_enter Try.func80, Try.ntmps80
    go_wp2_with (first | (go_at_call 101; refine (isDev_any _ _).mono ?_; rintro e w1 ⟨rfl, rfl⟩; rw [h1]))
    go_ret
    exact ⟨rfl, _, rfl⟩
  cases h2 : pgB p
  · go_enter Try.func80, Try.ntmps80
    go_wp2_with (first | (go_at_call 101; refine (isDev_any _ _).mono ?_; rintro e w1 ⟨rfl, rfl⟩; rw [h1]) | (go_at_call 102; refine (cPage_any _ _).mono ?_; rintro e w1 ⟨rfl, rfl⟩; rw [h2]))
    go_ret
    exact ⟨rfl, _, rfl⟩
  cases h3 : pgB a
  · go_enter Try.func80, Try.ntmps80
    go_wp2_with (first | (go_at_call 101; refine (isDev_any _ _).mono ?_; rintro e w1 ⟨rfl, rfl⟩; rw [h1]) | (go_at_call 102; refine (cPage_any _ _).mono ?_; rintro e w1 ⟨rfl, rfl⟩; first | rw [h2] | rw [h3]))
    go_ret
    exact ⟨rfl, _, rfl⟩
  cases r
  all_goals
    go_enter Try.func80, Try.ntmps80
    go_wp2_with (first | (go_at_call 101; refine (isDev_any _ _).mono ?_; rintro e w1 ⟨rfl, rfl⟩; rw [h1]) | (go_at_call 102; refine (cPage_any _ _).mono ?_; rintro e w1 ⟨rfl, rfl⟩; first | rw [h2] | rw [h3]))
    go_ret
    exact ⟨rfl, _, rfl⟩

/-- The closure of isOf. -/
theorem is_any (n m : Nat) (d p d1 p1 a : Int) (r x : Bool) (w : World) (h1 : w.cell? ⟨n, 0, none⟩ = some (.int .i64 d)) (h2 : w.cell? ⟨m, 0, none⟩ = some (.int .i64 p)) (l1 : n < w.heap.size) (l2 : m < w.heap.size) :
    Calls Try.prog 90 #[.agg #[.int .i64 d1, .int .i64 p1, .int .i64 a, .bool r, .bool x], .pointer (some ⟨n, 0, none⟩), .pointer (some ⟨m, 0, none⟩)] w fun e w' => e = .returned (.bool (hasB d p (d1, p1, a, r, x))) ∧ ∃ o, w' = w.alloc o := by
  have ho : hasB d p (d1, p1, a, r, x) = (decide (d1 = d) && decide (p1 = p)) := rfl
  rw [ho]
  clear ho
  by_cases e1 : d1 = d
  · by_cases e2 : p1 = p
    · subst e1 e2
      go_enter Try.func90, Try.ntmps90
      go_wp2
      go_ret
      exact ⟨by simp, _, rfl⟩
    · have q1 : (d1 == d) = true := by simpa using e1
      have q2 : (p1 == p) = false := by simpa using e2
      have q3 : Hid ((decide (d1 = d) && decide (p1 = p)) = false) := by show _ = _; simp [e2]
      rw [q3.out]
      clear e1 e2 q3
      go_enter Try.func90, Try.ntmps90
      go_wp2
      go_ret
      exact ⟨rfl, _, rfl⟩
  · have q1 : (d1 == d) = false := by simpa using e1
    have q3 : Hid ((decide (d1 = d) && decide (p1 = p)) = false) := by show _ = _; simp [e1]
    rw [q3.out]
    clear e1 q3
    go_enter Try.func90, Try.ntmps90
    go_wp2
    go_ret
    exact ⟨rfl, _, rfl⟩

theorem isOf_any (d p : Int) (w : World) :
    Calls Try.prog 69 #[.int .i64 d, .int .i64 p] w fun e w' => e = .returned (.func (.func 90) #[] #[.pointer (some ⟨w.heap.size, 0, none⟩), .pointer (some ⟨w.heap.size + 1, 0, none⟩)]) ∧ w' = (w.alloc (.cells #[.int .i64 d] 3)).alloc (.cells #[.int .i64 p] 3) := by
  have hmf : ∀ (fn : Fn) (first cap : Array Value) (w : World), (Instr.makeFunc fn first cap).run Try.prog w = .ok (.func fn first cap) w := fun _ _ _ _ => rfl
  go_enter Try.func69, Try.ntmps69
  go_wp2
  go_ret
  exact ⟨rfl, rfl⟩
end Go.Proofs.Ytemnklppplgcoab
