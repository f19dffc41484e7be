/-
  slices.Equal on two slices of lines answers whether they read as one list, whatever they are; it only reads.
-/
import Derived.Test.YtemnklppplgcoabLines
namespace Go.Proofs.Ytemnklppplgcoab
open Go.RowKit

theorem lines_ext {xs ys : List Ln} (hl : xs.length = ys.length) (h : ∀ i, i < xs.length → lth xs i = lth ys i) : xs = ys := by
  apply List.ext_getElem hl
  intro i h1 h2
  have := h i h1
  rwa [lth_get h1, lth_get h2] at this
theorem lines_ne {xs ys : List Ln} {i : Nat} (h : ¬ lth xs i = lth ys i) : ¬ xs = ys := fun e => h (by rw [e])
/-- Where two lines part first. -/
theorem line_diff {a b c : Int} {d e : Bool} {a' b' c' : Int} {d' e' : Bool} (h : ¬ (a, b, c, d, e) = (a', b', c', d', e')) :
    ¬ a = a' ∨ (a = a' ∧ ¬ b = b') ∨ (a = a' ∧ b = b' ∧ ¬ c = c') ∨ (a = a' ∧ b = b' ∧ c = c' ∧ ¬ d = d') ∨ (a = a' ∧ b = b' ∧ c = c' ∧ d = d' ∧ ¬ e = e') := by
  simp only [Prod.mk.injEq] at h
  by_cases h1 : a = a'
  · by_cases h2 : b = b'
    · by_cases h3 : c = c'
      · by_cases h4 : d = d'
        · by_cases h5 : e = e'
          · exact absurd ⟨h1, h2, h3, h4, h5⟩ h
          · exact .inr (.inr (.inr (.inr ⟨h1, h2, h3, h4, h5⟩)))
        · exact .inr (.inr (.inr (.inl ⟨h1, h2, h3, h4⟩)))
      · exact .inr (.inr (.inl ⟨h1, h2, h3⟩))
    · exact .inr (.inl ⟨h1, h2⟩)
  · exact .inl h1

set_option maxHeartbeats 1000000 in
theorem equalL_any (v1 v2 : Value) (xs ys : List Ln) (w : World) (h1 : Ls w v1 xs) (h2 : Ls w v2 ys) :
    Calls Try.prog 38 #[v1, v2] w fun e w' => e = .returned (.bool (decide (xs = ys))) ∧ ∃ n, w' = w.drewN n := by
  obtain ⟨a1, c1, rfl, n1, l1, h1⟩ := h1
  obtain ⟨a2, c2, rfl, n2, l2, h2⟩ := h2
  unfold maxLen at l1 l2
  by_cases hl : xs.length = ys.length
  · have hne : ((xs.length : Int) != (ys.length : Int)) = false := by simp [hl]
    rcases h1 with rfl | ⟨b1, o1, rfl, hb1, hc1⟩
    · obtain rfl : ys = [] := List.eq_nil_of_length_eq_zero hl.symm
      go_enter Try.func38, Try.ntmps38
      go_wp2
      go_loopw [5, 13] (fun _ i w' => i = .int .i64 0 ∧ w' = w) (fun _ i _ => 0)
      case atStart => exact ⟨rfl, rfl⟩
      case round =>
        obtain ⟨rfl, rfl⟩ := hrel
        go_wp2
        go_ret
        exact ⟨rfl, 0, rfl⟩
    · rcases h2 with rfl | ⟨b2, o2, rfl, hb2, hc2⟩
      · obtain rfl : xs = [] := List.eq_nil_of_length_eq_zero hl
        go_enter Try.func38, Try.ntmps38
        go_wp2
        go_loopw [5, 13] (fun _ i w' => i = .int .i64 0 ∧ w' = w) (fun _ i _ => 0)
        case atStart => exact ⟨rfl, rfl⟩
        case round =>
          obtain ⟨rfl, rfl⟩ := hrel
          go_wp2
          go_ret
          exact ⟨rfl, 0, rfl⟩
      have Hl : Hid (xs.length = ys.length) := hl
      have hle : (xs.length : Int) ≤ ys.length := by omega
      have H1 := hc1
      have H2 := hc2
      clear hl hc1 hc2
      have HC1 : Hid _ := H1
      have HC2 : Hid _ := H2
      clear H1 H2
      go_enter Try.func38, Try.ntmps38
      go_wp2
      go_loopw [5, 13] (fun _ i w' => ∃ k : Nat, k ≤ xs.length ∧ i = .int .i64 k ∧ (∀ j, j < k → lth xs j = lth ys j) ∧ ∃ n, w' = w.drewN n) (fun _ i _ => xs.length - (intOf i).toNat)
      case atStart => exact ⟨0, Nat.zero_le _, rfl, fun j hj => absurd hj (Nat.not_lt_zero _), 0, rfl⟩
      case round =>
        obtain ⟨k, hk, rfl, hpre, n, rfl⟩ := hrel
        have HP : Hid (∀ j, j < k → lth xs j = lth ys j) := hpre
        clear hpre
        by_cases hlt : k < xs.length
        · obtain ⟨g0, g1, g2, g3, g4⟩ := HC1.out k hlt
          obtain ⟨f0, f1, f2, f3, f4⟩ := HC2.out k (by have := Hl.out; omega)
          have hlt1 : (k : Int) < xs.length := by omega
          have hlt2 : (k : Int) < ys.length := by omega
          obtain ⟨y, hy⟩ : ∃ y, y = lth xs k := ⟨_, rfl⟩
          obtain ⟨z, hz⟩ : ∃ z, z = lth ys k := ⟨_, rfl⟩
          have HY : Hid (y = lth xs k) := hy
          have HZ : Hid (z = lth ys k) := hz
          rw [← hy] at g0 g1 g2 g3 g4
          rw [← hz] at f0 f1 f2 f3 f4
          clear hy hz
          obtain ⟨d1, p1, a1, r1, x1⟩ := y
          obtain ⟨d2, p2, a2, r2, x2⟩ := z
          simp only at g0 g1 g2 g3 g4 f0 f1 f2 f3 f4
          by_cases hq : (d1, p1, a1, r1, x1) = ((d2, p2, a2, r2, x2) : Ln)
          · have HQ : Hid (lth xs k = lth ys k) := by show _ = _; rw [← HY.out, ← HZ.out]; exact hq
            simp only [Prod.mk.injEq] at hq
            obtain ⟨rfl, rfl, rfl, rfl, rfl⟩ := hq
            go_wp2
            go_quiet (fail)
            go_wp2
            exact ⟨⟨k + 1, by omega, by go_num, upto_next HP.out HQ.out, _, rfl⟩, by simp [intOf]; omega⟩
          · have HN : Hid (decide (xs = ys) = false) := decide_eq_false (lines_ne (i := k) (by rw [← HY.out, ← HZ.out]; exact hq))
            rcases line_diff hq with e1 | ⟨rfl, e1⟩ | ⟨rfl, rfl, e1⟩ | ⟨rfl, rfl, rfl, e1⟩ | ⟨rfl, rfl, rfl, rfl, e1⟩
            all_goals
              clear hq
              go_wp2
              go_quiet (fail)
              go_wp2
              go_ret
              exact ⟨ret_bool HN.out.symm, n + nq, World.drewN_drewN _ _ _⟩
        · have HD : Hid (decide (xs = ys) = true) := decide_eq_true (lines_ext Hl.out fun i hi => HP.out i (by omega))
          go_wp2
          go_ret
          exact ⟨ret_bool HD.out.symm, _, rfl⟩
  · have hne : ((xs.length : Int) != (ys.length : Int)) = true := by simp; omega
    have hd : decide (xs = ys) = false := by simp; intro e; exact hl (by rw [e])
    rw [hd]
    go_enter Try.func38, Try.ntmps38
    go_wp2
    go_ret
    exact ⟨rfl, 0, rfl⟩
end Go.Proofs.Ytemnklppplgcoab
