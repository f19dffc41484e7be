/-
  drawbridgeref's LineAt: which line it is; it turns nothing that was there.
-/
import Derived.Test.YthejgilgcokngaaLines
namespace Go.Proofs.Ythejgilgcokngaa
open Go.RowKit

set_option maxHeartbeats 1000000 in
theorem lineAt_any (v : Value) (l : List Ln) (d p : Int) (w : World) (h : Ls w v l) :
    Calls Try.prog 43 #[v, .int .i64 d, .int .i64 p] w fun e w' => e = .returned (.int .i64 (fndC l d p)) ∧ Below w.heap.size w w' := by
  obtain ⟨a, cap, rfl, hl, hm, h⟩ := h
  unfold maxLen at hm
  rcases h with rfl | ⟨b, o, rfl, hb, hc⟩
  · go_enter Try.func43, Try.ntmps43
    go_wp2
    go_loopw [7, 8, 11] (fun _ _ i w' => i = .int .i64 0 ∧ w' = w) (fun _ _ i _ => 0)
    case atStart => exact ⟨rfl, rfl⟩
    case round =>
      obtain ⟨rfl, rfl⟩ := hrel
      go_wp2
      go_ret
      exact ⟨ret_int (fndC_none (fun j hj => absurd hj (Nat.not_lt_zero _))).symm, Below.refl _ _⟩
  · have HC : Hid _ := hc
    clear hc
    go_enter Try.func43, Try.ntmps43
    go_wp2
    go_loopw [7, 8, 11] (fun _ _ i w' => ∃ k : Nat, k ≤ l.length ∧ i = .int .i64 k ∧ (∀ j, j < k → hasB d p (lth l j) = false) ∧ Below w.heap.size w w') (fun _ _ i _ => l.length - (intOf i).toNat)
    case atStart => exact ⟨0, Nat.zero_le _, rfl, fun j hj => absurd hj (Nat.not_lt_zero _), Below.refl _ _⟩
    case round =>
      obtain ⟨k, hk, rfl, hpre, hB⟩ := hrel
      have HP : Hid _ := hpre
      have HB : Hid _ := hB
      by_cases hlt : k < l.length
      · obtain ⟨g0, g1, g2, g3, g4⟩ := (HC.out k hlt).keep hB hb
        have hb' : b < wr.heap.size := Nat.lt_of_lt_of_le hb hB.size
        obtain ⟨y, hy⟩ : ∃ y, y = lth l k := ⟨_, rfl⟩
        have HY : Hid _ := hy
        rw [← hy] at g0 g1 g2 g3 g4
        clear hy hpre hB
        obtain ⟨d1, p1, a1, r1, x1⟩ := y
        simp only at g0 g1 g2 g3 g4
        have hlt1 : (k : Int) < l.length := by omega
        by_cases e1 : d1 = d
        · by_cases e2 : p1 = p
          · subst e1 e2
            have HF : Hid (fndC l d1 p1 = k) := fndC_at hlt (by rw [← HY.out]; simp [hasB]) HP.out
            go_wp2
            go_ret
            exact ⟨ret_int HF.out.symm, bel_alloc HB.out _⟩
          · have q1 : (d1 == d) = true := by simpa using e1
            have q2 : (p1 == p) = false := by simpa using e2
            have HN : Hid (hasB d p (lth l k) = false) := by show _ = _; rw [← HY.out]; simp [hasB, e2]
            clear e1 e2
            go_wp2
            exact ⟨⟨k + 1, by omega, by go_num, upto_next HP.out HN.out, bel_alloc HB.out _⟩, by simp [intOf]; omega⟩
        · have q1 : (d1 == d) = false := by simpa using e1
          have HN : Hid (hasB d p (lth l k) = false) := by show _ = _; rw [← HY.out]; simp [hasB, e1]
          clear e1
          go_wp2
          exact ⟨⟨k + 1, by omega, by go_num, upto_next HP.out HN.out, bel_alloc HB.out _⟩, by simp [intOf]; omega⟩
      · have HF : Hid (fndC l d p = -1) := fndC_none fun j hj => HP.out j (by omega)
        clear hpre hB
        go_wp2
        go_ret
        exact ⟨ret_int HF.out.symm, HB.out⟩
end Go.Proofs.Ythejgilgcokngaa
