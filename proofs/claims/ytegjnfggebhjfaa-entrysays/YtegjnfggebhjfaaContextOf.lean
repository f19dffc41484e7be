/-
  drawbridgeref's ContextOf: it answers what entry.ReadContext answers; nothing that was there turns.
-/
import Derived.Test.YtegjnfggebhjfaaEntryOf
namespace Go.Proofs.Ytegjnfggebhjfaa
open Go.RowKit

/-- A draw turns no cell. -/
theorem setCell_drewN (w : World) (n : Nat) (p : Addr) (u : Value) : (w.drewN n).setCell p u = (w.setCell p u).drewN n := rfl
attribute [local go_sem] setCell_drewN

theorem okC_not {z : Int} (h : wordB z = false) : okC z = false ∧ vC z = false ∧ aC z = false ∧ pC z = 0 := by
  have ho : okC z = false := by simp [okC, h]
  have hv : vC z = false := by simp [vC, ho]
  exact ⟨ho, hv, by simp [aC, hv], by simp [pC, hv]⟩
theorem okC_nil {z : Int} (hw : wordB z = true) (h : dg z 0 = 0) : okC z = true ∧ vC z = false ∧ aC z = false ∧ pC z = 0 := by
  have hb : bitB z 0 = false := by rw [← dg_bit, h]; rfl
  have ho : okC z = true := by simp [okC, hw, hb]
  have hv : vC z = false := by simp [vC, hb]
  exact ⟨ho, hv, by simp [aC, hv], by simp [pC, hv]⟩
theorem okC_bad {z : Int} (hw : wordB z = true) (h : dg z 0 = 1) (k : 0 < dg z 2 + dg z 3 + z / 1024 ∨ (dg z 1 = 1 ∧ 0 < z / 16 % 64)) : okC z = false ∧ vC z = false ∧ aC z = false ∧ pC z = 0 := by
  obtain ⟨h0, h1⟩ : 0 ≤ z ∧ z ≤ 65535 := by simpa [wordB] using hw
  have hb : bitB z 0 = true := by rw [← dg_bit, h]; rfl
  have ho : okC z = false := by
    rw [okC, hw, hb, hi_eight z h0 h1]
    rcases k with k | ⟨k, k'⟩
    · have a := dg_in z 2
      have b := dg_in z 3
      by_cases hz : 1024 ≤ z
      · rw [show decide (1024 ≤ z) = true by simpa using hz]; simp
      · by_cases h2 : dg z 2 = 1
        · rw [← dg_bit z 2, h2]; simp
        · rw [← dg_bit z 3, show dg z 3 = 1 by omega]; simp
    · rw [← dg_bit z 1, k]
      have : ¬ z / 16 % 64 = 0 := by omega
      simp [formC, this]
  have hv : vC z = false := by simp [vC, ho]
  exact ⟨ho, hv, by simp [aC, hv], by simp [pC, hv]⟩
theorem okC_good {z : Int} (hw : wordB z = true) (h : dg z 0 = 1) (k1 : ¬ 0 < dg z 2 + dg z 3 + z / 1024) (k2 : ¬ (dg z 1 = 1 ∧ 0 < z / 16 % 64)) : okC z = true ∧ vC z = true ∧ aC z = (dg z 1 == 1) ∧ pC z = z / 16 % 64 := by
  obtain ⟨h0, h1⟩ : 0 ≤ z ∧ z ≤ 65535 := by simpa [wordB] using hw
  have hb : bitB z 0 = true := by rw [← dg_bit, h]; rfl
  have a := dg_in z 2
  have b := dg_in z 3
  have ho : okC z = true := by
    rw [okC, hw, hb, hi_eight z h0 h1, show decide (1024 ≤ z) = false by simp; omega, ← dg_bit z 2, ← dg_bit z 3, ← dg_bit z 1, show dg z 2 = 0 by omega, show dg z 3 = 0 by omega]
    by_cases h3 : dg z 1 = 1
    · have h4 : z / 16 % 64 = 0 := by omega
      rw [h3, h4]; rfl
    · have h4 : (dg z 1 == 1) = false := by simpa using h3
      rw [h4]; rfl
  have hv : vC z = true := by simp [vC, ho, hb]
  exact ⟨ho, hv, by simp [aC, hv, dg_bit], by simp [pC, hv]⟩

theorem sum_wrap {a b c : Int} (a0 : 0 ≤ a) (a1 : a ≤ 1) (b0 : 0 ≤ b) (b1 : b ≤ 1) (c0 : 0 ≤ c) (c1 : c ≤ 63) : IntKind.i64.wrap (IntKind.i64.wrap (a + b) + c) = a + b + c := by
  rw [wraps_i64 (a + b) (by omega) (by omega), wraps_i64 _ (by omega) (by omega)]

set_option maxHeartbeats 4000000 in
theorem contextOf_any (z : Int) (w : World) :
    Calls Try.prog 21 #[.int .i64 z] w fun e w' => e = .returned (.tuple #[.agg #[.bool (vC z), .bool (aC z), .int .i64 (pC z)], .bool (okC z)]) ∧ Below w.heap.size w w' := by
  cases hw : wordB z
  · obtain ⟨e1, e2, e3, e4⟩ := okC_not hw
    rw [e1, e2, e3, e4]
    clear e1 e2 e3 e4
    go_enter Try.func21, Try.ntmps21
    go_wp2_with fail
    refine (in_any _ _ _ _).mono ?_
    rintro e w1 ⟨rfl, rfl⟩
    rw [between_word, hw]
    go_wp2
    refine bodyPost_ret (v := .tuple #[.agg #[.bool false, .bool false, .int .i64 0], .bool false]) (by simp [results, Try.results21, go_sem]) rfl ⟨rfl, ?_⟩
    exact bel_alloc (Below.refl _ _) _
  obtain ⟨h0, h1⟩ : 0 ≤ z ∧ z ≤ 65535 := by simpa [wordB] using hw
  by_cases hb : dg z 0 = 0
  · obtain ⟨e1, e2, e3, e4⟩ := okC_nil hw hb
    rw [e1, e2, e3, e4]
    clear e1 e2 e3 e4
    go_enter Try.func21, Try.ntmps21
    go_wp2_with fail
    refine (in_any _ _ _ _).mono ?_
    rintro e w1 ⟨rfl, rfl⟩
    rw [between_word, hw]
    go_wp2_with fail
    refine (digits_any _ _ h0 h1).mono ?_
    rintro e w2 ⟨rfl, o1, o2, rfl⟩
    rw [hb]
    go_wp2
    refine bodyPost_ret (v := .tuple #[.agg #[.bool false, .bool false, .int .i64 0], .bool true]) (by simp [results, Try.results21, go_sem]) rfl ⟨rfl, ?_⟩
    repeat (first | exact Below.refl _ _ | refine bel_alloc ?_ _)
  have hb1 : dg z 0 = 1 := by have := dg_in z 0; omega
  have hn0 : (dg z 0 == 0) = false := by simpa using hb
  obtain ⟨a2, a2'⟩ := dg_in z 2
  obtain ⟨a3, a3'⟩ := dg_in z 3
  have ht : z / 1024 ≤ 63 := by omega
  have ht' : 0 ≤ z / 1024 := by omega
  by_cases hk : 0 < dg z 2 + dg z 3 + z / 1024 ∨ (dg z 1 = 1 ∧ 0 < z / 16 % 64)
  · obtain ⟨e1, e2, e3, e4⟩ := okC_bad hw hb1 hk
    rw [e1, e2, e3, e4]
    clear e1 e2 e3 e4 hb1 hb
    go_enter Try.func21, Try.ntmps21
    go_wp2_with fail
    refine (in_any _ _ _ _).mono ?_
    rintro e w1 ⟨rfl, rfl⟩
    rw [between_word, hw]
    go_wp2_with fail
    refine (digits_any _ _ h0 h1).mono ?_
    rintro e w2 ⟨rfl, o1, o2, rfl⟩
    go_wp2_with fail
    refine (number_mid (heap_at (by simp))).mono ?_
    rintro e w2 ⟨rfl, rfl⟩
    by_cases k1 : 0 < dg z 2 + dg z 3 + z / 1024
    · have d1 : decide (0 < IntKind.i64.wrap (IntKind.i64.wrap (dg z 2 + dg z 3) + z / 1024)) = true := by rw [sum_wrap a2 a2' a3 a3' ht' ht]; simpa using k1
      clear hk
      go_wp2
      go_quiet (first | (go_at_call 35; refine Calls.quiet_of_same (number_hi h0 h1 (by first | assumption | exact heap_at (by simp) | exact heap_drawn (heap_at (by simp))))))
      go_wp2
      refine bodyPost_ret (v := .tuple #[.agg #[.bool false, .bool false, .int .i64 0], .bool false]) (by simp [results, Try.results21, go_sem]) rfl ⟨rfl, ?_⟩
      repeat (first | assumption | exact Below.refl _ _ | refine Below.drew ?_ | refine bel_drewN ?_ _ | refine bel_alloc ?_ _)
    · obtain ⟨k2, k3⟩ : dg z 1 = 1 ∧ 0 < z / 16 % 64 := by
        rcases hk with h | h
        · exact absurd h k1
        · exact h
      have d1 : decide (0 < IntKind.i64.wrap (IntKind.i64.wrap (dg z 2 + dg z 3) + z / 1024)) = false := by rw [sum_wrap a2 a2' a3 a3' ht' ht]; simpa using k1
      have d2 : (dg z 1 == 1) = true := by simpa using k2
      have d3 : decide (0 < z / 16 % 64) = true := by simpa using k3
      clear hk k2
      go_wp2
      go_quiet (first | (go_at_call 35; refine Calls.quiet_of_same (number_hi h0 h1 (by first | assumption | exact heap_at (by simp) | exact heap_drawn (heap_at (by simp))))))
      go_wp2
      refine bodyPost_ret (v := .tuple #[.agg #[.bool false, .bool false, .int .i64 0], .bool false]) (by simp [results, Try.results21, go_sem]) rfl ⟨rfl, ?_⟩
      repeat (first | assumption | exact Below.refl _ _ | refine Below.drew ?_ | refine bel_drewN ?_ _ | refine bel_alloc ?_ _)
  · have k1 : ¬ 0 < dg z 2 + dg z 3 + z / 1024 := fun h => hk (.inl h)
    have k2 : ¬ (dg z 1 = 1 ∧ 0 < z / 16 % 64) := fun h => hk (.inr h)
    obtain ⟨e1, e2, e3, e4⟩ := okC_good hw hb1 k1 k2
    rw [e1, e2, e3, e4]
    clear e1 e2 e3 e4 hb1 hb hk
    have d1 : decide (0 < IntKind.i64.wrap (IntKind.i64.wrap (dg z 2 + dg z 3) + z / 1024)) = false := by rw [sum_wrap a2 a2' a3 a3' ht' ht]; simpa using k1
    clear k1
    go_enter Try.func21, Try.ntmps21
    go_wp2_with fail
    refine (in_any _ _ _ _).mono ?_
    rintro e w1 ⟨rfl, rfl⟩
    rw [between_word, hw]
    go_wp2_with fail
    refine (digits_any _ _ h0 h1).mono ?_
    rintro e w2 ⟨rfl, o1, o2, rfl⟩
    go_wp2_with fail
    refine (number_mid (heap_at (by simp))).mono ?_
    rintro e w2 ⟨rfl, rfl⟩
    by_cases h3 : dg z 1 = 1
    · have h4 : ¬ 0 < z / 16 % 64 := fun h => k2 ⟨h3, h⟩
      have d2 : (dg z 1 == 1) = true := by simpa using h3
      have d3 : decide (0 < z / 16 % 64) = false := by simpa using h4
      clear h3 h4 k2
      go_wp2
      go_quiet (first | (go_at_call 35; refine Calls.quiet_of_same (number_hi h0 h1 (by first | assumption | exact heap_at (by simp) | exact heap_drawn (heap_at (by simp))))))
      go_wp2
      refine bodyPost_ret (v := .tuple #[.agg #[.bool true, .bool (dg z 1 == 1), .int .i64 (z / 16 % 64)], .bool true]) (by simp [results, Try.results21, go_sem, d2]) rfl ⟨by rw [d2], ?_⟩
      repeat (first | assumption | exact Below.refl _ _ | refine Below.drew ?_ | refine bel_drewN ?_ _ | refine bel_alloc ?_ _)
    · have d2 : (dg z 1 == 1) = false := by simpa using h3
      clear h3 k2
      go_wp2
      go_quiet (first | (go_at_call 35; refine Calls.quiet_of_same (number_hi h0 h1 (by first | assumption | exact heap_at (by simp) | exact heap_drawn (heap_at (by simp))))))
      go_wp2
      refine bodyPost_ret (v := .tuple #[.agg #[.bool true, .bool (dg z 1 == 1), .int .i64 (z / 16 % 64)], .bool true]) (by simp [results, Try.results21, go_sem, d2]) rfl ⟨by rw [d2], ?_⟩
      repeat (first | assumption | exact Below.refl _ _ | refine Below.drew ?_ | refine bel_drewN ?_ _ | refine bel_alloc ?_ _)
end Go.Proofs.Ytegjnfggebhjfaa
