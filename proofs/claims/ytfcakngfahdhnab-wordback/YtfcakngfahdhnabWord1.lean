/-
  Package word: what isWord, isDev, isPage, isOrder answer; none turns memory that was there.
-/
import Derived.Test.YtfcakngfahdhnabWordMath
import Derived.Test.YtfcakngfahdhnabIn
namespace Go.Proofs.Ytfcakngfahdhnab
open Go.RowKit

theorem between_yes {lo hi z : Int} (h : lo ≤ z ∧ z ≤ hi) : betweenB lo hi z = true := decide_eq_true h
theorem between_no {lo hi z : Int} (h : ¬ (lo ≤ z ∧ z ≤ hi)) : betweenB lo hi z = false := decide_eq_false h
theorem of_between {lo hi z : Int} (h : betweenB lo hi z = true) : lo ≤ z ∧ z ≤ hi := of_decide_eq_true h

theorem oIsWord_any (z : Int) (w : World) : Calls Try.prog 17 #[.int .i64 z] w fun e w' => e = .returned (.bool (betweenB 0 65535 z)) ∧ w' = w := by
  by_cases h1 : 0 ≤ z
  · by_cases h2 : z ≤ 65535
    · rw [between_yes ⟨h1, h2⟩]
      go_enter Try.func17, Try.ntmps17
      go_wp2
      go_ret
      exact ⟨rfl, rfl⟩
    · rw [between_no fun h => h2 h.2]
      go_enter Try.func17, Try.ntmps17
      go_wp2
      go_ret
      exact ⟨rfl, rfl⟩
  · rw [between_no fun h => h1 h.1]
    go_enter Try.func17, Try.ntmps17
    go_wp2
    go_ret
    exact ⟨rfl, rfl⟩
theorem oIsDev_any (z : Int) (w : World) : Calls Try.prog 14 #[.int .i64 z] w fun e w' => e = .returned (.bool (betweenB 0 7 z)) ∧ w' = w := by
  by_cases h1 : 0 ≤ z
  · by_cases h2 : z < 8
    · rw [between_yes ⟨h1, by omega⟩]
      go_enter Try.func14, Try.ntmps14
      go_wp2
      go_ret
      exact ⟨rfl, rfl⟩
    · rw [between_no fun h => h2 (by omega)]
      go_enter Try.func14, Try.ntmps14
      go_wp2
      go_ret
      exact ⟨rfl, rfl⟩
  · rw [between_no fun h => h1 h.1]
    go_enter Try.func14, Try.ntmps14
    go_wp2
    go_ret
    exact ⟨rfl, rfl⟩
theorem oIsPage_any (z : Int) (w : World) : Calls Try.prog 15 #[.int .i64 z] w fun e w' => e = .returned (.bool (betweenB 0 63 z)) ∧ w' = w := by
  by_cases h1 : 0 ≤ z
  · by_cases h2 : z < 64
    · rw [between_yes ⟨h1, by omega⟩]
      go_enter Try.func15, Try.ntmps15
      go_wp2
      go_ret
      exact ⟨rfl, rfl⟩
    · rw [between_no fun h => h2 (by omega)]
      go_enter Try.func15, Try.ntmps15
      go_wp2
      go_ret
      exact ⟨rfl, rfl⟩
  · rw [between_no fun h => h1 h.1]
    go_enter Try.func15, Try.ntmps15
    go_wp2
    go_ret
    exact ⟨rfl, rfl⟩

/-- Has an order nothing that its kind doesn't speak of? -/
def forO (k d p : Int) : Bool := if k = 3 then true else if k = 2 then decide (p = 0) else decide (d = 0) && decide (p = 0)

theorem isOrder_any (k d p : Int) (w : World) :
    Calls Try.prog 16 #[.agg #[.int .i64 k, .int .i64 d, .int .i64 p]] w fun e w' => e = .returned (.bool (forO k d p)) ∧ ∃ o, w' = w.alloc o := by
  by_cases h3 : k = 3
  · subst h3
    go_enter Try.func16, Try.ntmps16
    go_wp2
    go_ret
    exact ⟨rfl, _, rfl⟩
  have n3 : (k == 3) = false := by simpa using h3
  by_cases h2 : k = 2
  · subst h2
    by_cases hp : p = 0
    · subst hp
      go_enter Try.func16, Try.ntmps16
      go_wp2
      go_ret
      exact ⟨rfl, _, rfl⟩
    · have np : (p == 0) = false := by simpa using hp
      have HF : Hid (forO 2 d p = false) := by simp [forO, hp, Hid]
      clear hp
      go_enter Try.func16, Try.ntmps16
      go_wp2
      go_ret
      exact ⟨ret_bool HF.out.symm, _, rfl⟩
  have n2 : (k == 2) = false := by simpa using h2
  by_cases hd : d = 0
  · subst hd
    by_cases hp : p = 0
    · subst hp
      have HF : Hid (forO k 0 0 = true) := by simp [forO, h3, h2, Hid]
      clear h3 h2
      go_enter Try.func16, Try.ntmps16
      go_wp2
      go_ret
      exact ⟨ret_bool HF.out.symm, _, rfl⟩
    · have np : (p == 0) = false := by simpa using hp
      have HF : Hid (forO k 0 p = false) := by simp [forO, h3, h2, hp, Hid]
      clear h3 h2 hp
      go_enter Try.func16, Try.ntmps16
      go_wp2
      go_ret
      exact ⟨ret_bool HF.out.symm, _, rfl⟩
  · have nd : (d == 0) = false := by simpa using hd
    have HF : Hid (forO k d p = false) := by simp [forO, h3, h2, hd, Hid]
    clear h3 h2 hd
    go_enter Try.func16, Try.ntmps16
    go_wp2
    go_ret
    exact ⟨ret_bool HF.out.symm, _, rfl⟩
end Go.Proofs.Ytfcakngfahdhnab
