/-
  drawbridgelaw's at, with a page's and a word's bounds.
-/
import Derived.Test.YtemnklppplgcoabMem
namespace Go.Proofs.Ytemnklppplgcoab
open Go.RowKit

theorem at64_any (k : Int) (w : World) :
    Calls Try.prog 34 #[.int .i64 k, .int .i64 64] w fun e w' => e = .returned (.int .i64 (k % 64)) ∧ w' = w := by
  have b1 : -64 < k.tmod 64 := Int.lt_tmod_of_pos k (by decide)
  have b2 : k.tmod 64 < 64 := Int.tmod_lt_of_pos k (by decide)
  have HM : Hid (k.tmod 64 = k - 64 * k.tdiv 64) := Int.tmod_def k 64
  by_cases h : k.tmod 64 < 0
  · go_enter Try.func34, Try.ntmps34
    go_wp2
    go_ret
    exact ⟨ret_int (by have := HM.out; omega), rfl⟩
  · go_enter Try.func34, Try.ntmps34
    go_wp2
    go_ret
    exact ⟨ret_int (by have := HM.out; omega), rfl⟩
theorem at65536_any (k : Int) (w : World) :
    Calls Try.prog 34 #[.int .i64 k, .int .i64 65536] w fun e w' => e = .returned (.int .i64 (k % 65536)) ∧ w' = w := by
  have b1 : -65536 < k.tmod 65536 := Int.lt_tmod_of_pos k (by decide)
  have b2 : k.tmod 65536 < 65536 := Int.tmod_lt_of_pos k (by decide)
  have HM : Hid (k.tmod 65536 = k - 65536 * k.tdiv 65536) := Int.tmod_def k 65536
  by_cases h : k.tmod 65536 < 0
  · go_enter Try.func34, Try.ntmps34
    go_wp2
    go_ret
    exact ⟨ret_int (by have := HM.out; omega), rfl⟩
  · go_enter Try.func34, Try.ntmps34
    go_wp2
    go_ret
    exact ⟨ret_int (by have := HM.out; omega), rfl⟩
theorem at65536_in (k : Int) (w : World) :
    Calls Try.prog 34 #[.int .i64 k, .int .i64 65536] w fun e w' => ∃ i, e = .returned (.int .i64 i) ∧ wordB i = true ∧ w' = w :=
  (at65536_any k w).mono fun e w' ⟨he, hw⟩ => ⟨k % 65536, he, by simp [wordB]; omega, hw⟩
end Go.Proofs.Ytemnklppplgcoab
