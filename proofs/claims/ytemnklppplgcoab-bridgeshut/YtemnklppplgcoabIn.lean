/-
  drawbridgeref's in: whether a number is from one to another one.
-/
import Derived.Test.YtemnklppplgcoabBase
namespace Go.Proofs.Ytemnklppplgcoab
open Go.RowKit

/-- Is it from one to the other? -/
def betweenB (lo hi z : Int) : Bool := decide (lo ≤ z ∧ z ≤ hi)

theorem in_any (z lo hi : Int) (w : World) : Calls Try.prog 47 #[.int .i64 z, .int .i64 lo, .int .i64 hi] w fun e w' => e = .returned (.bool (betweenB lo hi z)) ∧ w' = w := by
  by_cases h1 : lo ≤ z
  · by_cases h2 : z ≤ hi
    · have : betweenB lo hi z = true := by simp [betweenB, h1, h2]
      rw [this]
      go_enter Try.func47, Try.ntmps47
      go_wp2
      go_ret
      exact ⟨rfl, rfl⟩
    · have : betweenB lo hi z = false := by simp [betweenB, h2]
      rw [this]
      go_enter Try.func47, Try.ntmps47
      go_wp2
      go_ret
      exact ⟨rfl, rfl⟩
  · have : betweenB lo hi z = false := by simp [betweenB, h1]
    rw [this]
    go_enter Try.func47, Try.ntmps47
    go_wp2
    go_ret
    exact ⟨rfl, rfl⟩
end Go.Proofs.Ytemnklppplgcoab
