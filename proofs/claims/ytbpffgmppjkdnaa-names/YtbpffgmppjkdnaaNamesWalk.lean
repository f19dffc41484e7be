/-
  The walk of 'drawbridgelaw.Names': it answers true; it makes new memory alone.
-/
import Derived.Test.YtbpffgmppjkdnaaEqual
namespace Go.Proofs.Ytbpffgmppjkdnaa
open Go.RowKit

set_option maxHeartbeats 1000000 in
theorem names_walk (w : World) :
    Calls Try.prog 3 #[] w fun e w' => e = .returned (.bool true) ∧ Below w.heap.size w w' := by
  go_enter Try.func3, Try.ntmps3
  go_wp2
  go_loopw [2, 3, 10] (fun _ _ i w' => ∃ k : Nat, k ≤ 7 ∧ i = .int .i64 k ∧ w' = w.alloc (.cells #[.int .i64 0, .int .i64 1, .int .i64 2, .int .i64 3, .int .i64 4, .int .i64 5, .int .i64 6] 22)) (fun _ _ i _ => 7 - (intOf i).toNat)
  case atStart => exact ⟨0, by omega, rfl, rfl⟩
  case round =>
    obtain ⟨k, hk, rfl, rfl⟩ := hrel
    by_cases hlt : k < 7
    · obtain rfl | rfl | rfl | rfl | rfl | rfl | rfl : k = 0 ∨ k = 1 ∨ k = 2 ∨ k = 3 ∨ k = 4 ∨ k = 5 ∨ k = 6 := by omega
      all_goals
        go_wp2
        first | exact ⟨⟨1, by omega, rfl, trivial⟩, by simp [intOf]⟩ | exact ⟨⟨2, by omega, rfl, trivial⟩, by simp [intOf]⟩ | exact ⟨⟨3, by omega, rfl, trivial⟩, by simp [intOf]⟩ | exact ⟨⟨4, by omega, rfl, trivial⟩, by simp [intOf]⟩ | exact ⟨⟨5, by omega, rfl, trivial⟩, by simp [intOf]⟩ | exact ⟨⟨6, by omega, rfl, trivial⟩, by simp [intOf]⟩ | exact ⟨⟨7, by omega, rfl, trivial⟩, by simp [intOf]⟩
    · obtain rfl : k = 7 := by omega
      go_wp2_with fail
      refine (equal_any _ _ [512, 8, 64, 65535, 8, 6, 8, 20, 8, 63, 120, 1000] [512, 8, 64, 65535, 8, 6, 8, 20, 8, 63, 120, 1000] _ ?_ ?_).mono ?_
      · exact sl_block (by repeat (first | (refine heap_at ?_; simp; done) | refine heap_drawn ?_ | (refine heap_past ?_ ?_; · (simp; try omega)))) rfl rfl (by simp [maxLen])
      · exact sl_block (by repeat (first | (refine heap_at ?_; simp; done) | refine heap_drawn ?_ | (refine heap_past ?_ ?_; · (simp; try omega)))) rfl rfl (by simp [maxLen])
      rintro e w1 ⟨rfl, n1, rfl⟩
      go_wp2_with fail
      refine (equal_any _ _ [0, 1, 2, 3, 4, 5, 0, 1, 2, 0, 1, 2, 3, 0, 1, 2, 3, 4, 5, 6, 7, 8] [0, 1, 2, 3, 4, 5, 0, 1, 2, 0, 1, 2, 3, 0, 1, 2, 3, 4, 5, 6, 7, 8] _ ?_ ?_).mono ?_
      · exact sl_block (by repeat (first | (refine heap_at ?_; simp; done) | refine heap_drawn ?_ | (refine heap_past ?_ ?_; · (simp; try omega)))) rfl rfl (by simp [maxLen])
      · exact sl_block (by repeat (first | (refine heap_at ?_; simp; done) | refine heap_drawn ?_ | (refine heap_past ?_ ?_; · (simp; try omega)))) rfl rfl (by simp [maxLen])
      rintro e w2 ⟨rfl, n2, rfl⟩
      go_wp2_with fail
      refine (equal_any _ _ [0, 1, 2, 3, 4, 5, 6, 7, 8, 9, 1, 2, 3, 4] [0, 1, 2, 3, 4, 5, 6, 7, 8, 9, 1, 2, 3, 4] _ ?_ ?_).mono ?_
      · exact sl_block (by repeat (first | (refine heap_at ?_; simp; done) | refine heap_drawn ?_ | (refine heap_past ?_ ?_; · (simp; try omega)))) rfl rfl (by simp [maxLen])
      · exact sl_block (by repeat (first | (refine heap_at ?_; simp; done) | refine heap_drawn ?_ | (refine heap_past ?_ ?_; · (simp; try omega)))) rfl rfl (by simp [maxLen])
      rintro e w3 ⟨rfl, n3, rfl⟩
      go_wp2
      go_ret
      refine ⟨rfl, ?_⟩
      repeat (first | exact Below.refl _ _ | refine bel_drewN ?_ _ | refine bel_alloc ?_ _)
end Go.Proofs.Ytbpffgmppjkdnaa
