/-
  slices.Equal on two slices of ints answers whether they read as one list, whatever they are; it only reads.
-/
import Derived.Test.YtemnklppplgcoabBase
namespace Go.Proofs.Ytemnklppplgcoab
open Go.RowKit

theorem equal_done {xs ys : List Int} {k : Nat} (hl : xs.length = ys.length) (hk : ¬ k < xs.length) (h : ∀ j, j < k → nth xs j = nth ys j) : decide (xs = ys) = true := by
  simp only [decide_eq_true_eq]; exact list_ext_getD hl fun i hi => h i (by omega)

set_option maxHeartbeats 1000000 in
/-- slices.Equal[[]int,int]. -/
theorem equal_any (v1 v2 : Value) (xs ys : List Int) (w : World) (h1 : Sl w v1 xs) (h2 : Sl w v2 ys) :
    Calls Try.prog 33 #[v1, v2] w fun e w' => e = .returned (.bool (decide (xs = ys))) ∧ ∃ n, w' = w.drewN n := by
  obtain ⟨a1, c1, rfl, l1, h1⟩ := h1
  obtain ⟨a2, c2, rfl, l2, h2⟩ := h2
  unfold maxLen at l1 l2
  by_cases hl : xs.length = ys.length
  · have hne : ((xs.length : Int) != (ys.length : Int)) = false := by simp [hl]
    rcases h1 with rfl | ⟨b1, o1, rfl, hb1, hc1⟩
    · obtain rfl : ys = [] := List.eq_nil_of_length_eq_zero hl.symm
      go_enter Try.func33, Try.ntmps33
      go_wp2
      go_loopw [5, 13] (fun _ i w' => i = .int .i64 0 ∧ w' = w) (fun _ i _ => 0)
      case atStart => exact ⟨rfl, rfl⟩
      case round =>
        obtain ⟨rfl, rfl⟩ := hrel
        go_wp2
        go_ret
        exact ⟨rfl, 0, rfl⟩
    · rcases h2 with rfl | ⟨b2, o2, rfl, hb2, hc2⟩
      · obtain rfl : xs = [] := List.eq_nil_of_length_eq_zero hl
        go_enter Try.func33, Try.ntmps33
        go_wp2
        go_loopw [5, 13] (fun _ i w' => i = .int .i64 0 ∧ w' = w) (fun _ i _ => 0)
        case atStart => exact ⟨rfl, rfl⟩
        case round =>
          obtain ⟨rfl, rfl⟩ := hrel
          go_wp2
          go_ret
          exact ⟨rfl, 0, rfl⟩
      have Hl : Hid (xs.length = ys.length) := hl
      have hle : (xs.length : Int) ≤ ys.length := by omega
      have H1 := hc1
      have H2 := hc2
      clear hl hc1 hc2
      have HC1 : Hid _ := H1
      have HC2 : Hid _ := H2
      clear H1 H2
      go_enter Try.func33, Try.ntmps33
      go_wp2
      go_loopw [5, 13] (fun _ i w' => ∃ k : Nat, k ≤ xs.length ∧ i = .int .i64 k ∧ (∀ j, j < k → nth xs j = nth ys j) ∧ ∃ n, w' = w.drewN n) (fun _ i _ => xs.length - (intOf i).toNat)
      case atStart => exact ⟨0, Nat.zero_le _, rfl, fun j hj => absurd hj (Nat.not_lt_zero _), 0, rfl⟩
      case round =>
        obtain ⟨k, hk, rfl, hpre, n, rfl⟩ := hrel
        have HP : Hid (∀ j, j < k → nth xs j = nth ys j) := hpre
        clear hpre
        by_cases hlt : k < xs.length
        · have g1 := HC1.out k hlt
          have g2 := HC2.out k (by have := Hl.out; omega)
          have hlt1 : (k : Int) < xs.length := by omega
          have hlt2 : (k : Int) < ys.length := by omega
          by_cases hq : nth xs k = nth ys k
          · have hb : (nth xs k != nth ys k) = false := by simp [hq]
            have HQ : Hid (nth xs k = nth ys k) := hq
            clear hq
            go_wp2
            go_quiet (fail)
            go_wp2
            refine ⟨⟨k + 1, by omega, by go_num, fun j hj => ?_, _, rfl⟩, by simp [intOf]; omega⟩
            by_cases e : j = k
            · rw [e]; exact HQ.out
            · exact HP.out j (by omega)
          · have hb : (nth xs k != nth ys k) = true := by simp [hq]
            have HN : Hid (decide (xs = ys) = false) := by simpa [Hid] using ne_of_getD hq
            clear hq
            go_wp2
            go_quiet (fail)
            go_wp2
            go_ret
            exact ⟨ret_bool HN.out.symm, n + nq, World.drewN_drewN _ _ _⟩
        · have HD : Hid (decide (xs = ys) = true) := equal_done Hl.out hlt HP.out
          go_wp2
          go_ret
          exact ⟨ret_bool HD.out.symm, _, rfl⟩
  · have hne : ((xs.length : Int) != (ys.length : Int)) = true := by simp; omega
    have hd : decide (xs = ys) = false := by simp; intro e; exact hl (by rw [e])
    rw [hd]
    go_enter Try.func33, Try.ntmps33
    go_wp2
    go_ret
    exact ⟨rfl, 0, rfl⟩
end Go.Proofs.Ytemnklppplgcoab
