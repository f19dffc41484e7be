/-
  Laid together: InsW1, InsW2, InsW3, InsW4, InsWord.
-/
import Derived.Test.YtfbmmiikhkmpfacT12
/-
  What drawbridgeref's InsWord answers, by kind: the same as Put.
-/
namespace Go.Proofs.Ytfbmmiikhkmpfac
open Go.RowKit

set_option maxHeartbeats 2000000 in
theorem insWord_0 (a b i : Int) (w : World) (ha : betweenB 0 7 a = true) (hb : betweenB 0 7 b = true) (hi : betweenB 0 63 i = true) :
    Calls Try.prog 10 #[.agg #[.int .i64 0, .int .i64 a, .int .i64 b, .int .i64 i]] w fun e w' => e = .returned (.tuple #[.int .i64 (iW 0 a b i), .int .i64 (iE 0 a b i)]) ∧ Below w.heap.size w w' := by
  obtain ⟨a0, a1⟩ := of_between ha
  obtain ⟨b0, b1⟩ := of_between hb
  obtain ⟨i0, i1⟩ := of_between hi
  have hk : betweenB 0 8 0 = true := by decide
  have he : iE 0 a b i = if fitI 0 a b i = true then 0 else 3 := iE_in (k := 0) (by decide) ⟨a0, a1⟩ ⟨b0, b1⟩ ⟨i0, i1⟩
  have ways : (¬ 0 < a ∧ ¬ 0 < b ∧ ¬ 0 < i) ∨ (¬ 0 < a ∧ ¬ 0 < b ∧ 0 < i) ∨ (¬ 0 < a ∧ 0 < b) ∨ (0 < a) := by omega
  rcases ways with ⟨pa, pb, pi⟩ | ⟨pa, pb, pi⟩ | ⟨pa, pb⟩ | pa
  · have hf : fitI 0 a b i = true := by simp [fitI, useA, useB, useI]; omega
    rw [hf, if_pos rfl] at he
    rw [iW_ok he, he]
    clear he hf
    go_enter Try.func10, Try.ntmps10
    go_wp2_with (first | (go_at_call 32; refine (in_any _ _ _ _).mono ?_; rintro e w1 ⟨rfl, rfl⟩; first | rw [hk] | rw [ha] | rw [hb] | rw [hi]))
    go_ret2
    exact ⟨ret_two (by omega) rfl, bel_alloc (bel_alloc (bel_alloc (Below.refl _ _) _) _) _⟩
  · have hf : ¬ fitI 0 a b i = true := by simp [fitI, useA, useB, useI]; omega
    rw [if_neg hf] at he
    rw [iW_bad he (by decide), he]
    clear he hf
    go_enter Try.func10, Try.ntmps10
    go_wp2_with (first | (go_at_call 32; refine (in_any _ _ _ _).mono ?_; rintro e w1 ⟨rfl, rfl⟩; first | rw [hk] | rw [ha] | rw [hb] | rw [hi]))
    refine (has_no_i _ _ ?_).mono ?_
    · simp [go_sem]
    rintro e w1 ⟨rfl, rfl⟩
    go_wp2_with (first | (go_at_call 32; refine (in_any _ _ _ _).mono ?_; rintro e w1 ⟨rfl, rfl⟩; first | rw [hk] | rw [ha] | rw [hb] | rw [hi]))
    go_ret2
    exact ⟨ret_two (by omega) rfl, bel_alloc (bel_alloc (bel_alloc (Below.refl _ _) _) _) _⟩
  · have hf : ¬ fitI 0 a b i = true := by simp [fitI, useA, useB, useI]; omega
    rw [if_neg hf] at he
    rw [iW_bad he (by decide), he]
    clear he hf
    go_enter Try.func10, Try.ntmps10
    go_wp2_with (first | (go_at_call 32; refine (in_any _ _ _ _).mono ?_; rintro e w1 ⟨rfl, rfl⟩; first | rw [hk] | rw [ha] | rw [hb] | rw [hi]))
    refine (has_no_b _ _ ?_).mono ?_
    · simp [go_sem]
    rintro e w1 ⟨rfl, rfl⟩
    go_wp2_with (first | (go_at_call 32; refine (in_any _ _ _ _).mono ?_; rintro e w1 ⟨rfl, rfl⟩; first | rw [hk] | rw [ha] | rw [hb] | rw [hi]))
    go_ret2
    exact ⟨ret_two (by omega) rfl, bel_alloc (bel_alloc (bel_alloc (Below.refl _ _) _) _) _⟩
  · have hf : ¬ fitI 0 a b i = true := by simp [fitI, useA, useB, useI]; omega
    rw [if_neg hf] at he
    rw [iW_bad he (by decide), he]
    clear he hf
    go_enter Try.func10, Try.ntmps10
    go_wp2_with (first | (go_at_call 32; refine (in_any _ _ _ _).mono ?_; rintro e w1 ⟨rfl, rfl⟩; first | rw [hk] | rw [ha] | rw [hb] | rw [hi]))
    refine (has_no_a _ _ ?_).mono ?_
    · simp [go_sem]
    rintro e w1 ⟨rfl, rfl⟩
    go_wp2_with (first | (go_at_call 32; refine (in_any _ _ _ _).mono ?_; rintro e w1 ⟨rfl, rfl⟩; first | rw [hk] | rw [ha] | rw [hb] | rw [hi]))
    go_ret2
    exact ⟨ret_two (by omega) rfl, bel_alloc (bel_alloc (bel_alloc (Below.refl _ _) _) _) _⟩
set_option maxHeartbeats 2000000 in
theorem insWord_1 (a b i : Int) (w : World) (ha : betweenB 0 7 a = true) (hb : betweenB 0 7 b = true) (hi : betweenB 0 63 i = true) :
    Calls Try.prog 10 #[.agg #[.int .i64 1, .int .i64 a, .int .i64 b, .int .i64 i]] w fun e w' => e = .returned (.tuple #[.int .i64 (iW 1 a b i), .int .i64 (iE 1 a b i)]) ∧ Below w.heap.size w w' := by
  obtain ⟨a0, a1⟩ := of_between ha
  obtain ⟨b0, b1⟩ := of_between hb
  obtain ⟨i0, i1⟩ := of_between hi
  have hk : betweenB 0 8 1 = true := by decide
  have he : iE 1 a b i = if fitI 1 a b i = true then 0 else 3 := iE_in (k := 1) (by decide) ⟨a0, a1⟩ ⟨b0, b1⟩ ⟨i0, i1⟩
  have ways : (¬ 0 < a ∧ ¬ 0 < b ∧ ¬ 0 < i) ∨ (¬ 0 < a ∧ ¬ 0 < b ∧ 0 < i) ∨ (¬ 0 < a ∧ 0 < b) ∨ (0 < a ∧ ¬ 0 < b ∧ ¬ 0 < i) ∨ (0 < a ∧ ¬ 0 < b ∧ 0 < i) ∨ (0 < a ∧ 0 < b) := by omega
  rcases ways with ⟨pa, pb, pi⟩ | ⟨pa, pb, pi⟩ | ⟨pa, pb⟩ | ⟨pa, pb, pi⟩ | ⟨pa, pb, pi⟩ | ⟨pa, pb⟩
  · have hf : fitI 1 a b i = true := by simp [fitI, useA, useB, useI]; omega
    rw [hf, if_pos rfl] at he
    rw [iW_ok he, he]
    clear he hf
    go_enter Try.func10, Try.ntmps10
    go_wp2_with (first | (go_at_call 32; refine (in_any _ _ _ _).mono ?_; rintro e w1 ⟨rfl, rfl⟩; first | rw [hk] | rw [ha] | rw [hb] | rw [hi]))
    go_ret2
    exact ⟨ret_two (by omega) rfl, bel_alloc (bel_alloc (bel_alloc (Below.refl _ _) _) _) _⟩
  · have hf : fitI 1 a b i = true := by simp [fitI, useA, useB, useI]; omega
    rw [hf, if_pos rfl] at he
    rw [iW_ok he, he]
    clear he hf
    go_enter Try.func10, Try.ntmps10
    go_wp2_with (first | (go_at_call 32; refine (in_any _ _ _ _).mono ?_; rintro e w1 ⟨rfl, rfl⟩; first | rw [hk] | rw [ha] | rw [hb] | rw [hi]))
    refine (has_ai_i _ _ ?_).mono ?_
    · simp [go_sem]
    rintro e w1 ⟨rfl, rfl⟩
    go_wp2_with (first | (go_at_call 32; refine (in_any _ _ _ _).mono ?_; rintro e w1 ⟨rfl, rfl⟩; first | rw [hk] | rw [ha] | rw [hb] | rw [hi]))
    go_ret2
    exact ⟨ret_two (by omega) rfl, bel_alloc (bel_alloc (bel_alloc (Below.refl _ _) _) _) _⟩
  · have hf : ¬ fitI 1 a b i = true := by simp [fitI, useA, useB, useI]; omega
    rw [if_neg hf] at he
    rw [iW_bad he (by decide), he]
    clear he hf
    go_enter Try.func10, Try.ntmps10
    go_wp2_with (first | (go_at_call 32; refine (in_any _ _ _ _).mono ?_; rintro e w1 ⟨rfl, rfl⟩; first | rw [hk] | rw [ha] | rw [hb] | rw [hi]))
    refine (has_ai_b _ _ ?_).mono ?_
    · simp [go_sem]
    rintro e w1 ⟨rfl, rfl⟩
    go_wp2_with (first | (go_at_call 32; refine (in_any _ _ _ _).mono ?_; rintro e w1 ⟨rfl, rfl⟩; first | rw [hk] | rw [ha] | rw [hb] | rw [hi]))
    go_ret2
    exact ⟨ret_two (by omega) rfl, bel_alloc (bel_alloc (bel_alloc (Below.refl _ _) _) _) _⟩
  · have hf : fitI 1 a b i = true := by simp [fitI, useA, useB, useI]; omega
    rw [hf, if_pos rfl] at he
    rw [iW_ok he, he]
    clear he hf
    go_enter Try.func10, Try.ntmps10
    go_wp2_with (first | (go_at_call 32; refine (in_any _ _ _ _).mono ?_; rintro e w1 ⟨rfl, rfl⟩; first | rw [hk] | rw [ha] | rw [hb] | rw [hi]))
    refine (has_ai_a _ _ ?_).mono ?_
    · simp [go_sem]
    rintro e w1 ⟨rfl, rfl⟩
    go_wp2_with (first | (go_at_call 32; refine (in_any _ _ _ _).mono ?_; rintro e w1 ⟨rfl, rfl⟩; first | rw [hk] | rw [ha] | rw [hb] | rw [hi]))
    go_ret2
    exact ⟨ret_two (by omega) rfl, bel_alloc (bel_alloc (bel_alloc (Below.refl _ _) _) _) _⟩
  · have hf : fitI 1 a b i = true := by simp [fitI, useA, useB, useI]; omega
    rw [hf, if_pos rfl] at he
    rw [iW_ok he, he]
    clear he hf
    go_enter Try.func10, Try.ntmps10
    go_wp2_with (first | (go_at_call 32; refine (in_any _ _ _ _).mono ?_; rintro e w1 ⟨rfl, rfl⟩; first | rw [hk] | rw [ha] | rw [hb] | rw [hi]))
    refine (has_ai_a _ _ ?_).mono ?_
    · simp [go_sem]
    rintro e w1 ⟨rfl, rfl⟩
    go_wp2_with (first | (go_at_call 32; refine (in_any _ _ _ _).mono ?_; rintro e w1 ⟨rfl, rfl⟩; first | rw [hk] | rw [ha] | rw [hb] | rw [hi]))
    refine (has_ai_i _ _ ?_).mono ?_
    · simp [go_sem]
    rintro e w1 ⟨rfl, rfl⟩
    go_wp2_with (first | (go_at_call 32; refine (in_any _ _ _ _).mono ?_; rintro e w1 ⟨rfl, rfl⟩; first | rw [hk] | rw [ha] | rw [hb] | rw [hi]))
    go_ret2
    exact ⟨ret_two (by omega) rfl, bel_alloc (bel_alloc (bel_alloc (Below.refl _ _) _) _) _⟩
  · have hf : ¬ fitI 1 a b i = true := by simp [fitI, useA, useB, useI]; omega
    rw [if_neg hf] at he
    rw [iW_bad he (by decide), he]
    clear he hf
    go_enter Try.func10, Try.ntmps10
    go_wp2_with (first | (go_at_call 32; refine (in_any _ _ _ _).mono ?_; rintro e w1 ⟨rfl, rfl⟩; first | rw [hk] | rw [ha] | rw [hb] | rw [hi]))
    refine (has_ai_a _ _ ?_).mono ?_
    · simp [go_sem]
    rintro e w1 ⟨rfl, rfl⟩
    go_wp2_with (first | (go_at_call 32; refine (in_any _ _ _ _).mono ?_; rintro e w1 ⟨rfl, rfl⟩; first | rw [hk] | rw [ha] | rw [hb] | rw [hi]))
    refine (has_ai_b _ _ ?_).mono ?_
    · simp [go_sem]
    rintro e w1 ⟨rfl, rfl⟩
    go_wp2_with (first | (go_at_call 32; refine (in_any _ _ _ _).mono ?_; rintro e w1 ⟨rfl, rfl⟩; first | rw [hk] | rw [ha] | rw [hb] | rw [hi]))
    go_ret2
    exact ⟨ret_two (by omega) rfl, bel_alloc (bel_alloc (bel_alloc (Below.refl _ _) _) _) _⟩
set_option maxHeartbeats 2000000 in
theorem insWord_2 (a b i : Int) (w : World) (ha : betweenB 0 7 a = true) (hb : betweenB 0 7 b = true) (hi : betweenB 0 63 i = true) :
    Calls Try.prog 10 #[.agg #[.int .i64 2, .int .i64 a, .int .i64 b, .int .i64 i]] w fun e w' => e = .returned (.tuple #[.int .i64 (iW 2 a b i), .int .i64 (iE 2 a b i)]) ∧ Below w.heap.size w w' := by
  obtain ⟨a0, a1⟩ := of_between ha
  obtain ⟨b0, b1⟩ := of_between hb
  obtain ⟨i0, i1⟩ := of_between hi
  have hk : betweenB 0 8 2 = true := by decide
  have he : iE 2 a b i = if fitI 2 a b i = true then 0 else 3 := iE_in (k := 2) (by decide) ⟨a0, a1⟩ ⟨b0, b1⟩ ⟨i0, i1⟩
  have ways : (¬ 0 < a ∧ ¬ 0 < b ∧ ¬ 0 < i) ∨ (¬ 0 < a ∧ ¬ 0 < b ∧ 0 < i) ∨ (¬ 0 < a ∧ 0 < b ∧ ¬ 0 < i) ∨ (¬ 0 < a ∧ 0 < b ∧ 0 < i) ∨ (0 < a ∧ ¬ 0 < b ∧ ¬ 0 < i) ∨ (0 < a ∧ ¬ 0 < b ∧ 0 < i) ∨ (0 < a ∧ 0 < b ∧ ¬ 0 < i) ∨ (0 < a ∧ 0 < b ∧ 0 < i) := by omega
  rcases ways with ⟨pa, pb, pi⟩ | ⟨pa, pb, pi⟩ | ⟨pa, pb, pi⟩ | ⟨pa, pb, pi⟩ | ⟨pa, pb, pi⟩ | ⟨pa, pb, pi⟩ | ⟨pa, pb, pi⟩ | ⟨pa, pb, pi⟩
  · have hf : fitI 2 a b i = true := by simp [fitI, useA, useB, useI]; omega
    rw [hf, if_pos rfl] at he
    rw [iW_ok he, he]
    clear he hf
    go_enter Try.func10, Try.ntmps10
    go_wp2_with (first | (go_at_call 32; refine (in_any _ _ _ _).mono ?_; rintro e w1 ⟨rfl, rfl⟩; first | rw [hk] | rw [ha] | rw [hb] | rw [hi]))
    go_ret2
    exact ⟨ret_two (by omega) rfl, bel_alloc (bel_alloc (bel_alloc (Below.refl _ _) _) _) _⟩
  · have hf : ¬ fitI 2 a b i = true := by simp [fitI, useA, useB, useI]; omega
    rw [if_neg hf] at he
    rw [iW_bad he (by decide), he]
    clear he hf
    go_enter Try.func10, Try.ntmps10
    go_wp2_with (first | (go_at_call 32; refine (in_any _ _ _ _).mono ?_; rintro e w1 ⟨rfl, rfl⟩; first | rw [hk] | rw [ha] | rw [hb] | rw [hi]))
    refine (has_ab_i _ _ ?_).mono ?_
    · simp [go_sem]
    rintro e w1 ⟨rfl, rfl⟩
    go_wp2_with (first | (go_at_call 32; refine (in_any _ _ _ _).mono ?_; rintro e w1 ⟨rfl, rfl⟩; first | rw [hk] | rw [ha] | rw [hb] | rw [hi]))
    go_ret2
    exact ⟨ret_two (by omega) rfl, bel_alloc (bel_alloc (bel_alloc (Below.refl _ _) _) _) _⟩
  · have hf : fitI 2 a b i = true := by simp [fitI, useA, useB, useI]; omega
    rw [hf, if_pos rfl] at he
    rw [iW_ok he, he]
    clear he hf
    go_enter Try.func10, Try.ntmps10
    go_wp2_with (first | (go_at_call 32; refine (in_any _ _ _ _).mono ?_; rintro e w1 ⟨rfl, rfl⟩; first | rw [hk] | rw [ha] | rw [hb] | rw [hi]))
    refine (has_ab_b _ _ ?_).mono ?_
    · simp [go_sem]
    rintro e w1 ⟨rfl, rfl⟩
    go_wp2_with (first | (go_at_call 32; refine (in_any _ _ _ _).mono ?_; rintro e w1 ⟨rfl, rfl⟩; first | rw [hk] | rw [ha] | rw [hb] | rw [hi]))
    go_ret2
    exact ⟨ret_two (by omega) rfl, bel_alloc (bel_alloc (bel_alloc (Below.refl _ _) _) _) _⟩
  · have hf : ¬ fitI 2 a b i = true := by simp [fitI, useA, useB, useI]; omega
    rw [if_neg hf] at he
    rw [iW_bad he (by decide), he]
    clear he hf
    go_enter Try.func10, Try.ntmps10
    go_wp2_with (first | (go_at_call 32; refine (in_any _ _ _ _).mono ?_; rintro e w1 ⟨rfl, rfl⟩; first | rw [hk] | rw [ha] | rw [hb] | rw [hi]))
    refine (has_ab_b _ _ ?_).mono ?_
    · simp [go_sem]
    rintro e w1 ⟨rfl, rfl⟩
    go_wp2_with (first | (go_at_call 32; refine (in_any _ _ _ _).mono ?_; rintro e w1 ⟨rfl, rfl⟩; first | rw [hk] | rw [ha] | rw [hb] | rw [hi]))
    refine (has_ab_i _ _ ?_).mono ?_
    · simp [go_sem]
    rintro e w1 ⟨rfl, rfl⟩
    go_wp2_with (first | (go_at_call 32; refine (in_any _ _ _ _).mono ?_; rintro e w1 ⟨rfl, rfl⟩; first | rw [hk] | rw [ha] | rw [hb] | rw [hi]))
    go_ret2
    exact ⟨ret_two (by omega) rfl, bel_alloc (bel_alloc (bel_alloc (Below.refl _ _) _) _) _⟩
  · have hf : fitI 2 a b i = true := by simp [fitI, useA, useB, useI]; omega
    rw [hf, if_pos rfl] at he
    rw [iW_ok he, he]
    clear he hf
    go_enter Try.func10, Try.ntmps10
    go_wp2_with (first | (go_at_call 32; refine (in_any _ _ _ _).mono ?_; rintro e w1 ⟨rfl, rfl⟩; first | rw [hk] | rw [ha] | rw [hb] | rw [hi]))
    refine (has_ab_a _ _ ?_).mono ?_
    · simp [go_sem]
    rintro e w1 ⟨rfl, rfl⟩
    go_wp2_with (first | (go_at_call 32; refine (in_any _ _ _ _).mono ?_; rintro e w1 ⟨rfl, rfl⟩; first | rw [hk] | rw [ha] | rw [hb] | rw [hi]))
    go_ret2
    exact ⟨ret_two (by omega) rfl, bel_alloc (bel_alloc (bel_alloc (Below.refl _ _) _) _) _⟩
  · have hf : ¬ fitI 2 a b i = true := by simp [fitI, useA, useB, useI]; omega
    rw [if_neg hf] at he
    rw [iW_bad he (by decide), he]
    clear he hf
    go_enter Try.func10, Try.ntmps10
    go_wp2_with (first | (go_at_call 32; refine (in_any _ _ _ _).mono ?_; rintro e w1 ⟨rfl, rfl⟩; first | rw [hk] | rw [ha] | rw [hb] | rw [hi]))
    refine (has_ab_a _ _ ?_).mono ?_
    · simp [go_sem]
    rintro e w1 ⟨rfl, rfl⟩
    go_wp2_with (first | (go_at_call 32; refine (in_any _ _ _ _).mono ?_; rintro e w1 ⟨rfl, rfl⟩; first | rw [hk] | rw [ha] | rw [hb] | rw [hi]))
    refine (has_ab_i _ _ ?_).mono ?_
    · simp [go_sem]
    rintro e w1 ⟨rfl, rfl⟩
    go_wp2_with (first | (go_at_call 32; refine (in_any _ _ _ _).mono ?_; rintro e w1 ⟨rfl, rfl⟩; first | rw [hk] | rw [ha] | rw [hb] | rw [hi]))
    go_ret2
    exact ⟨ret_two (by omega) rfl, bel_alloc (bel_alloc (bel_alloc (Below.refl _ _) _) _) _⟩
  · have hf : fitI 2 a b i = true := by simp [fitI, useA, useB, useI]; omega
    rw [hf, if_pos rfl] at he
    rw [iW_ok he, he]
    clear he hf
    go_enter Try.func10, Try.ntmps10
    go_wp2_with (first | (go_at_call 32; refine (in_any _ _ _ _).mono ?_; rintro e w1 ⟨rfl, rfl⟩; first | rw [hk] | rw [ha] | rw [hb] | rw [hi]))
    refine (has_ab_a _ _ ?_).mono ?_
    · simp [go_sem]
    rintro e w1 ⟨rfl, rfl⟩
    go_wp2_with (first | (go_at_call 32; refine (in_any _ _ _ _).mono ?_; rintro e w1 ⟨rfl, rfl⟩; first | rw [hk] | rw [ha] | rw [hb] | rw [hi]))
    refine (has_ab_b _ _ ?_).mono ?_
    · simp [go_sem]
    rintro e w1 ⟨rfl, rfl⟩
    go_wp2_with (first | (go_at_call 32; refine (in_any _ _ _ _).mono ?_; rintro e w1 ⟨rfl, rfl⟩; first | rw [hk] | rw [ha] | rw [hb] | rw [hi]))
    go_ret2
    exact ⟨ret_two (by omega) rfl, bel_alloc (bel_alloc (bel_alloc (Below.refl _ _) _) _) _⟩
  · have hf : ¬ fitI 2 a b i = true := by simp [fitI, useA, useB, useI]; omega
    rw [if_neg hf] at he
    rw [iW_bad he (by decide), he]
    clear he hf
    go_enter Try.func10, Try.ntmps10
    go_wp2_with (first | (go_at_call 32; refine (in_any _ _ _ _).mono ?_; rintro e w1 ⟨rfl, rfl⟩; first | rw [hk] | rw [ha] | rw [hb] | rw [hi]))
    refine (has_ab_a _ _ ?_).mono ?_
    · simp [go_sem]
    rintro e w1 ⟨rfl, rfl⟩
    go_wp2_with (first | (go_at_call 32; refine (in_any _ _ _ _).mono ?_; rintro e w1 ⟨rfl, rfl⟩; first | rw [hk] | rw [ha] | rw [hb] | rw [hi]))
    refine (has_ab_b _ _ ?_).mono ?_
    · simp [go_sem]
    rintro e w1 ⟨rfl, rfl⟩
    go_wp2_with (first | (go_at_call 32; refine (in_any _ _ _ _).mono ?_; rintro e w1 ⟨rfl, rfl⟩; first | rw [hk] | rw [ha] | rw [hb] | rw [hi]))
    refine (has_ab_i _ _ ?_).mono ?_
    · simp [go_sem]
    rintro e w1 ⟨rfl, rfl⟩
    go_wp2_with (first | (go_at_call 32; refine (in_any _ _ _ _).mono ?_; rintro e w1 ⟨rfl, rfl⟩; first | rw [hk] | rw [ha] | rw [hb] | rw [hi]))
    go_ret2
    exact ⟨ret_two (by omega) rfl, bel_alloc (bel_alloc (bel_alloc (Below.refl _ _) _) _) _⟩
end Go.Proofs.Ytfbmmiikhkmpfac
/-
  What drawbridgeref's InsWord answers, by kind: the same as Put.
-/
namespace Go.Proofs.Ytfbmmiikhkmpfac
open Go.RowKit

set_option maxHeartbeats 2000000 in
theorem insWord_3 (a b i : Int) (w : World) (ha : betweenB 0 7 a = true) (hb : betweenB 0 7 b = true) (hi : betweenB 0 63 i = true) :
    Calls Try.prog 10 #[.agg #[.int .i64 3, .int .i64 a, .int .i64 b, .int .i64 i]] w fun e w' => e = .returned (.tuple #[.int .i64 (iW 3 a b i), .int .i64 (iE 3 a b i)]) ∧ Below w.heap.size w w' := by
  obtain ⟨a0, a1⟩ := of_between ha
  obtain ⟨b0, b1⟩ := of_between hb
  obtain ⟨i0, i1⟩ := of_between hi
  have hk : betweenB 0 8 3 = true := by decide
  have he : iE 3 a b i = if fitI 3 a b i = true then 0 else 3 := iE_in (k := 3) (by decide) ⟨a0, a1⟩ ⟨b0, b1⟩ ⟨i0, i1⟩
  have ways : (¬ 0 < a ∧ ¬ 0 < b ∧ ¬ 0 < i) ∨ (¬ 0 < a ∧ ¬ 0 < b ∧ 0 < i) ∨ (¬ 0 < a ∧ 0 < b) ∨ (0 < a ∧ ¬ 0 < b ∧ ¬ 0 < i) ∨ (0 < a ∧ ¬ 0 < b ∧ 0 < i) ∨ (0 < a ∧ 0 < b) := by omega
  rcases ways with ⟨pa, pb, pi⟩ | ⟨pa, pb, pi⟩ | ⟨pa, pb⟩ | ⟨pa, pb, pi⟩ | ⟨pa, pb, pi⟩ | ⟨pa, pb⟩
  · have hf : fitI 3 a b i = true := by simp [fitI, useA, useB, useI]; omega
    rw [hf, if_pos rfl] at he
    rw [iW_ok he, he]
    clear he hf
    go_enter Try.func10, Try.ntmps10
    go_wp2_with (first | (go_at_call 32; refine (in_any _ _ _ _).mono ?_; rintro e w1 ⟨rfl, rfl⟩; first | rw [hk] | rw [ha] | rw [hb] | rw [hi]))
    go_ret2
    exact ⟨ret_two (by omega) rfl, bel_alloc (bel_alloc (bel_alloc (Below.refl _ _) _) _) _⟩
  · have hf : fitI 3 a b i = true := by simp [fitI, useA, useB, useI]; omega
    rw [hf, if_pos rfl] at he
    rw [iW_ok he, he]
    clear he hf
    go_enter Try.func10, Try.ntmps10
    go_wp2_with (first | (go_at_call 32; refine (in_any _ _ _ _).mono ?_; rintro e w1 ⟨rfl, rfl⟩; first | rw [hk] | rw [ha] | rw [hb] | rw [hi]))
    refine (has_ai_i _ _ ?_).mono ?_
    · simp [go_sem]
    rintro e w1 ⟨rfl, rfl⟩
    go_wp2_with (first | (go_at_call 32; refine (in_any _ _ _ _).mono ?_; rintro e w1 ⟨rfl, rfl⟩; first | rw [hk] | rw [ha] | rw [hb] | rw [hi]))
    go_ret2
    exact ⟨ret_two (by omega) rfl, bel_alloc (bel_alloc (bel_alloc (Below.refl _ _) _) _) _⟩
  · have hf : ¬ fitI 3 a b i = true := by simp [fitI, useA, useB, useI]; omega
    rw [if_neg hf] at he
    rw [iW_bad he (by decide), he]
    clear he hf
    go_enter Try.func10, Try.ntmps10
    go_wp2_with (first | (go_at_call 32; refine (in_any _ _ _ _).mono ?_; rintro e w1 ⟨rfl, rfl⟩; first | rw [hk] | rw [ha] | rw [hb] | rw [hi]))
    refine (has_ai_b _ _ ?_).mono ?_
    · simp [go_sem]
    rintro e w1 ⟨rfl, rfl⟩
    go_wp2_with (first | (go_at_call 32; refine (in_any _ _ _ _).mono ?_; rintro e w1 ⟨rfl, rfl⟩; first | rw [hk] | rw [ha] | rw [hb] | rw [hi]))
    go_ret2
    exact ⟨ret_two (by omega) rfl, bel_alloc (bel_alloc (bel_alloc (Below.refl _ _) _) _) _⟩
  · have hf : fitI 3 a b i = true := by simp [fitI, useA, useB, useI]; omega
    rw [hf, if_pos rfl] at he
    rw [iW_ok he, he]
    clear he hf
    go_enter Try.func10, Try.ntmps10
    go_wp2_with (first | (go_at_call 32; refine (in_any _ _ _ _).mono ?_; rintro e w1 ⟨rfl, rfl⟩; first | rw [hk] | rw [ha] | rw [hb] | rw [hi]))
    refine (has_ai_a _ _ ?_).mono ?_
    · simp [go_sem]
    rintro e w1 ⟨rfl, rfl⟩
    go_wp2_with (first | (go_at_call 32; refine (in_any _ _ _ _).mono ?_; rintro e w1 ⟨rfl, rfl⟩; first | rw [hk] | rw [ha] | rw [hb] | rw [hi]))
    go_ret2
    exact ⟨ret_two (by omega) rfl, bel_alloc (bel_alloc (bel_alloc (Below.refl _ _) _) _) _⟩
  · have hf : fitI 3 a b i = true := by simp [fitI, useA, useB, useI]; omega
    rw [hf, if_pos rfl] at he
    rw [iW_ok he, he]
    clear he hf
    go_enter Try.func10, Try.ntmps10
    go_wp2_with (first | (go_at_call 32; refine (in_any _ _ _ _).mono ?_; rintro e w1 ⟨rfl, rfl⟩; first | rw [hk] | rw [ha] | rw [hb] | rw [hi]))
    refine (has_ai_a _ _ ?_).mono ?_
    · simp [go_sem]
    rintro e w1 ⟨rfl, rfl⟩
    go_wp2_with (first | (go_at_call 32; refine (in_any _ _ _ _).mono ?_; rintro e w1 ⟨rfl, rfl⟩; first | rw [hk] | rw [ha] | rw [hb] | rw [hi]))
    refine (has_ai_i _ _ ?_).mono ?_
    · simp [go_sem]
    rintro e w1 ⟨rfl, rfl⟩
    go_wp2_with (first | (go_at_call 32; refine (in_any _ _ _ _).mono ?_; rintro e w1 ⟨rfl, rfl⟩; first | rw [hk] | rw [ha] | rw [hb] | rw [hi]))
    go_ret2
    exact ⟨ret_two (by omega) rfl, bel_alloc (bel_alloc (bel_alloc (Below.refl _ _) _) _) _⟩
  · have hf : ¬ fitI 3 a b i = true := by simp [fitI, useA, useB, useI]; omega
    rw [if_neg hf] at he
    rw [iW_bad he (by decide), he]
    clear he hf
    go_enter Try.func10, Try.ntmps10
    go_wp2_with (first | (go_at_call 32; refine (in_any _ _ _ _).mono ?_; rintro e w1 ⟨rfl, rfl⟩; first | rw [hk] | rw [ha] | rw [hb] | rw [hi]))
    refine (has_ai_a _ _ ?_).mono ?_
    · simp [go_sem]
    rintro e w1 ⟨rfl, rfl⟩
    go_wp2_with (first | (go_at_call 32; refine (in_any _ _ _ _).mono ?_; rintro e w1 ⟨rfl, rfl⟩; first | rw [hk] | rw [ha] | rw [hb] | rw [hi]))
    refine (has_ai_b _ _ ?_).mono ?_
    · simp [go_sem]
    rintro e w1 ⟨rfl, rfl⟩
    go_wp2_with (first | (go_at_call 32; refine (in_any _ _ _ _).mono ?_; rintro e w1 ⟨rfl, rfl⟩; first | rw [hk] | rw [ha] | rw [hb] | rw [hi]))
    go_ret2
    exact ⟨ret_two (by omega) rfl, bel_alloc (bel_alloc (bel_alloc (Below.refl _ _) _) _) _⟩
set_option maxHeartbeats 2000000 in
theorem insWord_4 (a b i : Int) (w : World) (ha : betweenB 0 7 a = true) (hb : betweenB 0 7 b = true) (hi : betweenB 0 63 i = true) :
    Calls Try.prog 10 #[.agg #[.int .i64 4, .int .i64 a, .int .i64 b, .int .i64 i]] w fun e w' => e = .returned (.tuple #[.int .i64 (iW 4 a b i), .int .i64 (iE 4 a b i)]) ∧ Below w.heap.size w w' := by
  obtain ⟨a0, a1⟩ := of_between ha
  obtain ⟨b0, b1⟩ := of_between hb
  obtain ⟨i0, i1⟩ := of_between hi
  have hk : betweenB 0 8 4 = true := by decide
  have he : iE 4 a b i = if fitI 4 a b i = true then 0 else 3 := iE_in (k := 4) (by decide) ⟨a0, a1⟩ ⟨b0, b1⟩ ⟨i0, i1⟩
  have ways : (¬ 0 < a ∧ ¬ 0 < b ∧ ¬ 0 < i) ∨ (¬ 0 < a ∧ ¬ 0 < b ∧ 0 < i) ∨ (¬ 0 < a ∧ 0 < b ∧ ¬ 0 < i) ∨ (¬ 0 < a ∧ 0 < b ∧ 0 < i) ∨ (0 < a ∧ ¬ 0 < b ∧ ¬ 0 < i) ∨ (0 < a ∧ ¬ 0 < b ∧ 0 < i) ∨ (0 < a ∧ 0 < b ∧ ¬ 0 < i) ∨ (0 < a ∧ 0 < b ∧ 0 < i) := by omega
  rcases ways with ⟨pa, pb, pi⟩ | ⟨pa, pb, pi⟩ | ⟨pa, pb, pi⟩ | ⟨pa, pb, pi⟩ | ⟨pa, pb, pi⟩ | ⟨pa, pb, pi⟩ | ⟨pa, pb, pi⟩ | ⟨pa, pb, pi⟩
  · have hf : fitI 4 a b i = true := by simp [fitI, useA, useB, useI]
    rw [hf, if_pos rfl] at he
    rw [iW_ok he, he]
    clear he hf
    go_enter Try.func10, Try.ntmps10
    go_wp2_with (first | (go_at_call 32; refine (in_any _ _ _ _).mono ?_; rintro e w1 ⟨rfl, rfl⟩; first | rw [hk] | rw [ha] | rw [hb] | rw [hi]))
    go_ret2
    exact ⟨ret_two (by omega) rfl, bel_alloc (bel_alloc (bel_alloc (Below.refl _ _) _) _) _⟩
  · have hf : fitI 4 a b i = true := by simp [fitI, useA, useB, useI]
    rw [hf, if_pos rfl] at he
    rw [iW_ok he, he]
    clear he hf
    go_enter Try.func10, Try.ntmps10
    go_wp2_with (first | (go_at_call 32; refine (in_any _ _ _ _).mono ?_; rintro e w1 ⟨rfl, rfl⟩; first | rw [hk] | rw [ha] | rw [hb] | rw [hi]))
    refine (has_abi_i _ _ ?_).mono ?_
    · simp [go_sem]
    rintro e w1 ⟨rfl, rfl⟩
    go_wp2_with (first | (go_at_call 32; refine (in_any _ _ _ _).mono ?_; rintro e w1 ⟨rfl, rfl⟩; first | rw [hk] | rw [ha] | rw [hb] | rw [hi]))
    go_ret2
    exact ⟨ret_two (by omega) rfl, bel_alloc (bel_alloc (bel_alloc (Below.refl _ _) _) _) _⟩
  · have hf : fitI 4 a b i = true := by simp [fitI, useA, useB, useI]
    rw [hf, if_pos rfl] at he
    rw [iW_ok he, he]
    clear he hf
    go_enter Try.func10, Try.ntmps10
    go_wp2_with (first | (go_at_call 32; refine (in_any _ _ _ _).mono ?_; rintro e w1 ⟨rfl, rfl⟩; first | rw [hk] | rw [ha] | rw [hb] | rw [hi]))
    refine (has_abi_b _ _ ?_).mono ?_
    · simp [go_sem]
    rintro e w1 ⟨rfl, rfl⟩
    go_wp2_with (first | (go_at_call 32; refine (in_any _ _ _ _).mono ?_; rintro e w1 ⟨rfl, rfl⟩; first | rw [hk] | rw [ha] | rw [hb] | rw [hi]))
    go_ret2
    exact ⟨ret_two (by omega) rfl, bel_alloc (bel_alloc (bel_alloc (Below.refl _ _) _) _) _⟩
  · have hf : fitI 4 a b i = true := by simp [fitI, useA, useB, useI]
    rw [hf, if_pos rfl] at he
    rw [iW_ok he, he]
    clear he hf
    go_enter Try.func10, Try.ntmps10
    go_wp2_with (first | (go_at_call 32; refine (in_any _ _ _ _).mono ?_; rintro e w1 ⟨rfl, rfl⟩; first | rw [hk] | rw [ha] | rw [hb] | rw [hi]))
    refine (has_abi_b _ _ ?_).mono ?_
    · simp [go_sem]
    rintro e w1 ⟨rfl, rfl⟩
    go_wp2_with (first | (go_at_call 32; refine (in_any _ _ _ _).mono ?_; rintro e w1 ⟨rfl, rfl⟩; first | rw [hk] | rw [ha] | rw [hb] | rw [hi]))
    refine (has_abi_i _ _ ?_).mono ?_
    · simp [go_sem]
    rintro e w1 ⟨rfl, rfl⟩
    go_wp2_with (first | (go_at_call 32; refine (in_any _ _ _ _).mono ?_; rintro e w1 ⟨rfl, rfl⟩; first | rw [hk] | rw [ha] | rw [hb] | rw [hi]))
    go_ret2
    exact ⟨ret_two (by omega) rfl, bel_alloc (bel_alloc (bel_alloc (Below.refl _ _) _) _) _⟩
  · have hf : fitI 4 a b i = true := by simp [fitI, useA, useB, useI]
    rw [hf, if_pos rfl] at he
    rw [iW_ok he, he]
    clear he hf
    go_enter Try.func10, Try.ntmps10
    go_wp2_with (first | (go_at_call 32; refine (in_any _ _ _ _).mono ?_; rintro e w1 ⟨rfl, rfl⟩; first | rw [hk] | rw [ha] | rw [hb] | rw [hi]))
    refine (has_abi_a _ _ ?_).mono ?_
    · simp [go_sem]
    rintro e w1 ⟨rfl, rfl⟩
    go_wp2_with (first | (go_at_call 32; refine (in_any _ _ _ _).mono ?_; rintro e w1 ⟨rfl, rfl⟩; first | rw [hk] | rw [ha] | rw [hb] | rw [hi]))
    go_ret2
    exact ⟨ret_two (by omega) rfl, bel_alloc (bel_alloc (bel_alloc (Below.refl _ _) _) _) _⟩
  · have hf : fitI 4 a b i = true := by simp [fitI, useA, useB, useI]
    rw [hf, if_pos rfl] at he
    rw [iW_ok he, he]
    clear he hf
    go_enter Try.func10, Try.ntmps10
    go_wp2_with (first | (go_at_call 32; refine (in_any _ _ _ _).mono ?_; rintro e w1 ⟨rfl, rfl⟩; first | rw [hk] | rw [ha] | rw [hb] | rw [hi]))
    refine (has_abi_a _ _ ?_).mono ?_
    · simp [go_sem]
    rintro e w1 ⟨rfl, rfl⟩
    go_wp2_with (first | (go_at_call 32; refine (in_any _ _ _ _).mono ?_; rintro e w1 ⟨rfl, rfl⟩; first | rw [hk] | rw [ha] | rw [hb] | rw [hi]))
    refine (has_abi_i _ _ ?_).mono ?_
    · simp [go_sem]
    rintro e w1 ⟨rfl, rfl⟩
    go_wp2_with (first | (go_at_call 32; refine (in_any _ _ _ _).mono ?_; rintro e w1 ⟨rfl, rfl⟩; first | rw [hk] | rw [ha] | rw [hb] | rw [hi]))
    go_ret2
    exact ⟨ret_two (by omega) rfl, bel_alloc (bel_alloc (bel_alloc (Below.refl _ _) _) _) _⟩
  · have hf : fitI 4 a b i = true := by simp [fitI, useA, useB, useI]
    rw [hf, if_pos rfl] at he
    rw [iW_ok he, he]
    clear he hf
    go_enter Try.func10, Try.ntmps10
    go_wp2_with (first | (go_at_call 32; refine (in_any _ _ _ _).mono ?_; rintro e w1 ⟨rfl, rfl⟩; first | rw [hk] | rw [ha] | rw [hb] | rw [hi]))
    refine (has_abi_a _ _ ?_).mono ?_
    · simp [go_sem]
    rintro e w1 ⟨rfl, rfl⟩
    go_wp2_with (first | (go_at_call 32; refine (in_any _ _ _ _).mono ?_; rintro e w1 ⟨rfl, rfl⟩; first | rw [hk] | rw [ha] | rw [hb] | rw [hi]))
    refine (has_abi_b _ _ ?_).mono ?_
    · simp [go_sem]
    rintro e w1 ⟨rfl, rfl⟩
    go_wp2_with (first | (go_at_call 32; refine (in_any _ _ _ _).mono ?_; rintro e w1 ⟨rfl, rfl⟩; first | rw [hk] | rw [ha] | rw [hb] | rw [hi]))
    go_ret2
    exact ⟨ret_two (by omega) rfl, bel_alloc (bel_alloc (bel_alloc (Below.refl _ _) _) _) _⟩
  · have hf : fitI 4 a b i = true := by simp [fitI, useA, useB, useI]
    rw [hf, if_pos rfl] at he
    rw [iW_ok he, he]
    clear he hf
    go_enter Try.func10, Try.ntmps10
    go_wp2_with (first | (go_at_call 32; refine (in_any _ _ _ _).mono ?_; rintro e w1 ⟨rfl, rfl⟩; first | rw [hk] | rw [ha] | rw [hb] | rw [hi]))
    refine (has_abi_a _ _ ?_).mono ?_
    · simp [go_sem]
    rintro e w1 ⟨rfl, rfl⟩
    go_wp2_with (first | (go_at_call 32; refine (in_any _ _ _ _).mono ?_; rintro e w1 ⟨rfl, rfl⟩; first | rw [hk] | rw [ha] | rw [hb] | rw [hi]))
    refine (has_abi_b _ _ ?_).mono ?_
    · simp [go_sem]
    rintro e w1 ⟨rfl, rfl⟩
    go_wp2_with (first | (go_at_call 32; refine (in_any _ _ _ _).mono ?_; rintro e w1 ⟨rfl, rfl⟩; first | rw [hk] | rw [ha] | rw [hb] | rw [hi]))
    refine (has_abi_i _ _ ?_).mono ?_
    · simp [go_sem]
    rintro e w1 ⟨rfl, rfl⟩
    go_wp2_with (first | (go_at_call 32; refine (in_any _ _ _ _).mono ?_; rintro e w1 ⟨rfl, rfl⟩; first | rw [hk] | rw [ha] | rw [hb] | rw [hi]))
    go_ret2
    exact ⟨ret_two (by omega) rfl, bel_alloc (bel_alloc (bel_alloc (Below.refl _ _) _) _) _⟩
end Go.Proofs.Ytfbmmiikhkmpfac
/-
  What drawbridgeref's InsWord answers, by kind: the same as Put.
-/
namespace Go.Proofs.Ytfbmmiikhkmpfac
open Go.RowKit

set_option maxHeartbeats 2000000 in
theorem insWord_5 (a b i : Int) (w : World) (ha : betweenB 0 7 a = true) (hb : betweenB 0 7 b = true) (hi : betweenB 0 63 i = true) :
    Calls Try.prog 10 #[.agg #[.int .i64 5, .int .i64 a, .int .i64 b, .int .i64 i]] w fun e w' => e = .returned (.tuple #[.int .i64 (iW 5 a b i), .int .i64 (iE 5 a b i)]) ∧ Below w.heap.size w w' := by
  obtain ⟨a0, a1⟩ := of_between ha
  obtain ⟨b0, b1⟩ := of_between hb
  obtain ⟨i0, i1⟩ := of_between hi
  have hk : betweenB 0 8 5 = true := by decide
  have he : iE 5 a b i = if fitI 5 a b i = true then 0 else 3 := iE_in (k := 5) (by decide) ⟨a0, a1⟩ ⟨b0, b1⟩ ⟨i0, i1⟩
  have ways : (¬ 0 < a ∧ ¬ 0 < b ∧ ¬ 0 < i) ∨ (¬ 0 < a ∧ ¬ 0 < b ∧ 0 < i) ∨ (¬ 0 < a ∧ 0 < b ∧ ¬ 0 < i) ∨ (¬ 0 < a ∧ 0 < b ∧ 0 < i) ∨ (0 < a ∧ ¬ 0 < b ∧ ¬ 0 < i) ∨ (0 < a ∧ ¬ 0 < b ∧ 0 < i) ∨ (0 < a ∧ 0 < b ∧ ¬ 0 < i) ∨ (0 < a ∧ 0 < b ∧ 0 < i) := by omega
  rcases ways with ⟨pa, pb, pi⟩ | ⟨pa, pb, pi⟩ | ⟨pa, pb, pi⟩ | ⟨pa, pb, pi⟩ | ⟨pa, pb, pi⟩ | ⟨pa, pb, pi⟩ | ⟨pa, pb, pi⟩ | ⟨pa, pb, pi⟩
  · have hf : fitI 5 a b i = true := by simp [fitI, useA, useB, useI]
    rw [hf, if_pos rfl] at he
    rw [iW_ok he, he]
    clear he hf
    go_enter Try.func10, Try.ntmps10
    go_wp2_with (first | (go_at_call 32; refine (in_any _ _ _ _).mono ?_; rintro e w1 ⟨rfl, rfl⟩; first | rw [hk] | rw [ha] | rw [hb] | rw [hi]))
    go_ret2
    exact ⟨ret_two (by omega) rfl, bel_alloc (bel_alloc (bel_alloc (Below.refl _ _) _) _) _⟩
  · have hf : fitI 5 a b i = true := by simp [fitI, useA, useB, useI]
    rw [hf, if_pos rfl] at he
    rw [iW_ok he, he]
    clear he hf
    go_enter Try.func10, Try.ntmps10
    go_wp2_with (first | (go_at_call 32; refine (in_any _ _ _ _).mono ?_; rintro e w1 ⟨rfl, rfl⟩; first | rw [hk] | rw [ha] | rw [hb] | rw [hi]))
    refine (has_abi_i _ _ ?_).mono ?_
    · simp [go_sem]
    rintro e w1 ⟨rfl, rfl⟩
    go_wp2_with (first | (go_at_call 32; refine (in_any _ _ _ _).mono ?_; rintro e w1 ⟨rfl, rfl⟩; first | rw [hk] | rw [ha] | rw [hb] | rw [hi]))
    go_ret2
    exact ⟨ret_two (by omega) rfl, bel_alloc (bel_alloc (bel_alloc (Below.refl _ _) _) _) _⟩
  · have hf : fitI 5 a b i = true := by simp [fitI, useA, useB, useI]
    rw [hf, if_pos rfl] at he
    rw [iW_ok he, he]
    clear he hf
    go_enter Try.func10, Try.ntmps10
    go_wp2_with (first | (go_at_call 32; refine (in_any _ _ _ _).mono ?_; rintro e w1 ⟨rfl, rfl⟩; first | rw [hk] | rw [ha] | rw [hb] | rw [hi]))
    refine (has_abi_b _ _ ?_).mono ?_
    · simp [go_sem]
    rintro e w1 ⟨rfl, rfl⟩
    go_wp2_with (first | (go_at_call 32; refine (in_any _ _ _ _).mono ?_; rintro e w1 ⟨rfl, rfl⟩; first | rw [hk] | rw [ha] | rw [hb] | rw [hi]))
    go_ret2
    exact ⟨ret_two (by omega) rfl, bel_alloc (bel_alloc (bel_alloc (Below.refl _ _) _) _) _⟩
  · have hf : fitI 5 a b i = true := by simp [fitI, useA, useB, useI]
    rw [hf, if_pos rfl] at he
    rw [iW_ok he, he]
    clear he hf
    go_enter Try.func10, Try.ntmps10
    go_wp2_with (first | (go_at_call 32; refine (in_any _ _ _ _).mono ?_; rintro e w1 ⟨rfl, rfl⟩; first | rw [hk] | rw [ha] | rw [hb] | rw [hi]))
    refine (has_abi_b _ _ ?_).mono ?_
    · simp [go_sem]
    rintro e w1 ⟨rfl, rfl⟩
    go_wp2_with (first | (go_at_call 32; refine (in_any _ _ _ _).mono ?_; rintro e w1 ⟨rfl, rfl⟩; first | rw [hk] | rw [ha] | rw [hb] | rw [hi]))
    refine (has_abi_i _ _ ?_).mono ?_
    · simp [go_sem]
    rintro e w1 ⟨rfl, rfl⟩
    go_wp2_with (first | (go_at_call 32; refine (in_any _ _ _ _).mono ?_; rintro e w1 ⟨rfl, rfl⟩; first | rw [hk] | rw [ha] | rw [hb] | rw [hi]))
    go_ret2
    exact ⟨ret_two (by omega) rfl, bel_alloc (bel_alloc (bel_alloc (Below.refl _ _) _) _) _⟩
  · have hf : fitI 5 a b i = true := by simp [fitI, useA, useB, useI]
    rw [hf, if_pos rfl] at he
    rw [iW_ok he, he]
    clear he hf
    go_enter Try.func10, Try.ntmps10
    go_wp2_with (first | (go_at_call 32; refine (in_any _ _ _ _).mono ?_; rintro e w1 ⟨rfl, rfl⟩; first | rw [hk] | rw [ha] | rw [hb] | rw [hi]))
    refine (has_abi_a _ _ ?_).mono ?_
    · simp [go_sem]
    rintro e w1 ⟨rfl, rfl⟩
    go_wp2_with (first | (go_at_call 32; refine (in_any _ _ _ _).mono ?_; rintro e w1 ⟨rfl, rfl⟩; first | rw [hk] | rw [ha] | rw [hb] | rw [hi]))
    go_ret2
    exact ⟨ret_two (by omega) rfl, bel_alloc (bel_alloc (bel_alloc (Below.refl _ _) _) _) _⟩
  · have hf : fitI 5 a b i = true := by simp [fitI, useA, useB, useI]
    rw [hf, if_pos rfl] at he
    rw [iW_ok he, he]
    clear he hf
    go_enter Try.func10, Try.ntmps10
    go_wp2_with (first | (go_at_call 32; refine (in_any _ _ _ _).mono ?_; rintro e w1 ⟨rfl, rfl⟩; first | rw [hk] | rw [ha] | rw [hb] | rw [hi]))
    refine (has_abi_a _ _ ?_).mono ?_
    · simp [go_sem]
    rintro e w1 ⟨rfl, rfl⟩
    go_wp2_with (first | (go_at_call 32; refine (in_any _ _ _ _).mono ?_; rintro e w1 ⟨rfl, rfl⟩; first | rw [hk] | rw [ha] | rw [hb] | rw [hi]))
    refine (has_abi_i _ _ ?_).mono ?_
    · simp [go_sem]
    rintro e w1 ⟨rfl, rfl⟩
    go_wp2_with (first | (go_at_call 32; refine (in_any _ _ _ _).mono ?_; rintro e w1 ⟨rfl, rfl⟩; first | rw [hk] | rw [ha] | rw [hb] | rw [hi]))
    go_ret2
    exact ⟨ret_two (by omega) rfl, bel_alloc (bel_alloc (bel_alloc (Below.refl _ _) _) _) _⟩
  · have hf : fitI 5 a b i = true := by simp [fitI, useA, useB, useI]
    rw [hf, if_pos rfl] at he
    rw [iW_ok he, he]
    clear he hf
    go_enter Try.func10, Try.ntmps10
    go_wp2_with (first | (go_at_call 32; refine (in_any _ _ _ _).mono ?_; rintro e w1 ⟨rfl, rfl⟩; first | rw [hk] | rw [ha] | rw [hb] | rw [hi]))
    refine (has_abi_a _ _ ?_).mono ?_
    · simp [go_sem]
    rintro e w1 ⟨rfl, rfl⟩
    go_wp2_with (first | (go_at_call 32; refine (in_any _ _ _ _).mono ?_; rintro e w1 ⟨rfl, rfl⟩; first | rw [hk] | rw [ha] | rw [hb] | rw [hi]))
    refine (has_abi_b _ _ ?_).mono ?_
    · simp [go_sem]
    rintro e w1 ⟨rfl, rfl⟩
    go_wp2_with (first | (go_at_call 32; refine (in_any _ _ _ _).mono ?_; rintro e w1 ⟨rfl, rfl⟩; first | rw [hk] | rw [ha] | rw [hb] | rw [hi]))
    go_ret2
    exact ⟨ret_two (by omega) rfl, bel_alloc (bel_alloc (bel_alloc (Below.refl _ _) _) _) _⟩
  · have hf : fitI 5 a b i = true := by simp [fitI, useA, useB, useI]
    rw [hf, if_pos rfl] at he
    rw [iW_ok he, he]
    clear he hf
    go_enter Try.func10, Try.ntmps10
    go_wp2_with (first | (go_at_call 32; refine (in_any _ _ _ _).mono ?_; rintro e w1 ⟨rfl, rfl⟩; first | rw [hk] | rw [ha] | rw [hb] | rw [hi]))
    refine (has_abi_a _ _ ?_).mono ?_
    · simp [go_sem]
    rintro e w1 ⟨rfl, rfl⟩
    go_wp2_with (first | (go_at_call 32; refine (in_any _ _ _ _).mono ?_; rintro e w1 ⟨rfl, rfl⟩; first | rw [hk] | rw [ha] | rw [hb] | rw [hi]))
    refine (has_abi_b _ _ ?_).mono ?_
    · simp [go_sem]
    rintro e w1 ⟨rfl, rfl⟩
    go_wp2_with (first | (go_at_call 32; refine (in_any _ _ _ _).mono ?_; rintro e w1 ⟨rfl, rfl⟩; first | rw [hk] | rw [ha] | rw [hb] | rw [hi]))
    refine (has_abi_i _ _ ?_).mono ?_
    · simp [go_sem]
    rintro e w1 ⟨rfl, rfl⟩
    go_wp2_with (first | (go_at_call 32; refine (in_any _ _ _ _).mono ?_; rintro e w1 ⟨rfl, rfl⟩; first | rw [hk] | rw [ha] | rw [hb] | rw [hi]))
    go_ret2
    exact ⟨ret_two (by omega) rfl, bel_alloc (bel_alloc (bel_alloc (Below.refl _ _) _) _) _⟩
set_option maxHeartbeats 2000000 in
theorem insWord_6 (a b i : Int) (w : World) (ha : betweenB 0 7 a = true) (hb : betweenB 0 7 b = true) (hi : betweenB 0 63 i = true) :
    Calls Try.prog 10 #[.agg #[.int .i64 6, .int .i64 a, .int .i64 b, .int .i64 i]] w fun e w' => e = .returned (.tuple #[.int .i64 (iW 6 a b i), .int .i64 (iE 6 a b i)]) ∧ Below w.heap.size w w' := by
  obtain ⟨a0, a1⟩ := of_between ha
  obtain ⟨b0, b1⟩ := of_between hb
  obtain ⟨i0, i1⟩ := of_between hi
  have hk : betweenB 0 8 6 = true := by decide
  have he : iE 6 a b i = if fitI 6 a b i = true then 0 else 3 := iE_in (k := 6) (by decide) ⟨a0, a1⟩ ⟨b0, b1⟩ ⟨i0, i1⟩
  have ways : (¬ 0 < a ∧ ¬ 0 < b ∧ ¬ 0 < i) ∨ (¬ 0 < a ∧ ¬ 0 < b ∧ 0 < i) ∨ (¬ 0 < a ∧ 0 < b ∧ ¬ 0 < i) ∨ (¬ 0 < a ∧ 0 < b ∧ 0 < i) ∨ (0 < a ∧ ¬ 0 < b ∧ ¬ 0 < i) ∨ (0 < a ∧ ¬ 0 < b ∧ 0 < i) ∨ (0 < a ∧ 0 < b ∧ ¬ 0 < i) ∨ (0 < a ∧ 0 < b ∧ 0 < i) := by omega
  rcases ways with ⟨pa, pb, pi⟩ | ⟨pa, pb, pi⟩ | ⟨pa, pb, pi⟩ | ⟨pa, pb, pi⟩ | ⟨pa, pb, pi⟩ | ⟨pa, pb, pi⟩ | ⟨pa, pb, pi⟩ | ⟨pa, pb, pi⟩
  · have hf : fitI 6 a b i = true := by simp [fitI, useA, useB, useI]
    rw [hf, if_pos rfl] at he
    rw [iW_ok he, he]
    clear he hf
    go_enter Try.func10, Try.ntmps10
    go_wp2_with (first | (go_at_call 32; refine (in_any _ _ _ _).mono ?_; rintro e w1 ⟨rfl, rfl⟩; first | rw [hk] | rw [ha] | rw [hb] | rw [hi]))
    go_ret2
    exact ⟨ret_two (by omega) rfl, bel_alloc (bel_alloc (bel_alloc (Below.refl _ _) _) _) _⟩
  · have hf : fitI 6 a b i = true := by simp [fitI, useA, useB, useI]
    rw [hf, if_pos rfl] at he
    rw [iW_ok he, he]
    clear he hf
    go_enter Try.func10, Try.ntmps10
    go_wp2_with (first | (go_at_call 32; refine (in_any _ _ _ _).mono ?_; rintro e w1 ⟨rfl, rfl⟩; first | rw [hk] | rw [ha] | rw [hb] | rw [hi]))
    refine (has_abi_i _ _ ?_).mono ?_
    · simp [go_sem]
    rintro e w1 ⟨rfl, rfl⟩
    go_wp2_with (first | (go_at_call 32; refine (in_any _ _ _ _).mono ?_; rintro e w1 ⟨rfl, rfl⟩; first | rw [hk] | rw [ha] | rw [hb] | rw [hi]))
    go_ret2
    exact ⟨ret_two (by omega) rfl, bel_alloc (bel_alloc (bel_alloc (Below.refl _ _) _) _) _⟩
  · have hf : fitI 6 a b i = true := by simp [fitI, useA, useB, useI]
    rw [hf, if_pos rfl] at he
    rw [iW_ok he, he]
    clear he hf
    go_enter Try.func10, Try.ntmps10
    go_wp2_with (first | (go_at_call 32; refine (in_any _ _ _ _).mono ?_; rintro e w1 ⟨rfl, rfl⟩; first | rw [hk] | rw [ha] | rw [hb] | rw [hi]))
    refine (has_abi_b _ _ ?_).mono ?_
    · simp [go_sem]
    rintro e w1 ⟨rfl, rfl⟩
    go_wp2_with (first | (go_at_call 32; refine (in_any _ _ _ _).mono ?_; rintro e w1 ⟨rfl, rfl⟩; first | rw [hk] | rw [ha] | rw [hb] | rw [hi]))
    go_ret2
    exact ⟨ret_two (by omega) rfl, bel_alloc (bel_alloc (bel_alloc (Below.refl _ _) _) _) _⟩
  · have hf : fitI 6 a b i = true := by simp [fitI, useA, useB, useI]
    rw [hf, if_pos rfl] at he
    rw [iW_ok he, he]
    clear he hf
    go_enter Try.func10, Try.ntmps10
    go_wp2_with (first | (go_at_call 32; refine (in_any _ _ _ _).mono ?_; rintro e w1 ⟨rfl, rfl⟩; first | rw [hk] | rw [ha] | rw [hb] | rw [hi]))
    refine (has_abi_b _ _ ?_).mono ?_
    · simp [go_sem]
    rintro e w1 ⟨rfl, rfl⟩
    go_wp2_with (first | (go_at_call 32; refine (in_any _ _ _ _).mono ?_; rintro e w1 ⟨rfl, rfl⟩; first | rw [hk] | rw [ha] | rw [hb] | rw [hi]))
    refine (has_abi_i _ _ ?_).mono ?_
    · simp [go_sem]
    rintro e w1 ⟨rfl, rfl⟩
    go_wp2_with (first | (go_at_call 32; refine (in_any _ _ _ _).mono ?_; rintro e w1 ⟨rfl, rfl⟩; first | rw [hk] | rw [ha] | rw [hb] | rw [hi]))
    go_ret2
    exact ⟨ret_two (by omega) rfl, bel_alloc (bel_alloc (bel_alloc (Below.refl _ _) _) _) _⟩
  · have hf : fitI 6 a b i = true := by simp [fitI, useA, useB, useI]
    rw [hf, if_pos rfl] at he
    rw [iW_ok he, he]
    clear he hf
    go_enter Try.func10, Try.ntmps10
    go_wp2_with (first | (go_at_call 32; refine (in_any _ _ _ _).mono ?_; rintro e w1 ⟨rfl, rfl⟩; first | rw [hk] | rw [ha] | rw [hb] | rw [hi]))
    refine (has_abi_a _ _ ?_).mono ?_
    · simp [go_sem]
    rintro e w1 ⟨rfl, rfl⟩
    go_wp2_with (first | (go_at_call 32; refine (in_any _ _ _ _).mono ?_; rintro e w1 ⟨rfl, rfl⟩; first | rw [hk] | rw [ha] | rw [hb] | rw [hi]))
    go_ret2
    exact ⟨ret_two (by omega) rfl, bel_alloc (bel_alloc (bel_alloc (Below.refl _ _) _) _) _⟩
  · have hf : fitI 6 a b i = true := by simp [fitI, useA, useB, useI]
    rw [hf, if_pos rfl] at he
    rw [iW_ok he, he]
    clear he hf
    go_enter Try.func10, Try.ntmps10
    go_wp2_with (first | (go_at_call 32; refine (in_any _ _ _ _).mono ?_; rintro e w1 ⟨rfl, rfl⟩; first | rw [hk] | rw [ha] | rw [hb] | rw [hi]))
    refine (has_abi_a _ _ ?_).mono ?_
    · simp [go_sem]
    rintro e w1 ⟨rfl, rfl⟩
    go_wp2_with (first | (go_at_call 32; refine (in_any _ _ _ _).mono ?_; rintro e w1 ⟨rfl, rfl⟩; first | rw [hk] | rw [ha] | rw [hb] | rw [hi]))
    refine (has_abi_i _ _ ?_).mono ?_
    · simp [go_sem]
    rintro e w1 ⟨rfl, rfl⟩
    go_wp2_with (first | (go_at_call 32; refine (in_any _ _ _ _).mono ?_; rintro e w1 ⟨rfl, rfl⟩; first | rw [hk] | rw [ha] | rw [hb] | rw [hi]))
    go_ret2
    exact ⟨ret_two (by omega) rfl, bel_alloc (bel_alloc (bel_alloc (Below.refl _ _) _) _) _⟩
  · have hf : fitI 6 a b i = true := by simp [fitI, useA, useB, useI]
    rw [hf, if_pos rfl] at he
    rw [iW_ok he, he]
    clear he hf
    go_enter Try.func10, Try.ntmps10
    go_wp2_with (first | (go_at_call 32; refine (in_any _ _ _ _).mono ?_; rintro e w1 ⟨rfl, rfl⟩; first | rw [hk] | rw [ha] | rw [hb] | rw [hi]))
    refine (has_abi_a _ _ ?_).mono ?_
    · simp [go_sem]
    rintro e w1 ⟨rfl, rfl⟩
    go_wp2_with (first | (go_at_call 32; refine (in_any _ _ _ _).mono ?_; rintro e w1 ⟨rfl, rfl⟩; first | rw [hk] | rw [ha] | rw [hb] | rw [hi]))
    refine (has_abi_b _ _ ?_).mono ?_
    · simp [go_sem]
    rintro e w1 ⟨rfl, rfl⟩
    go_wp2_with (first | (go_at_call 32; refine (in_any _ _ _ _).mono ?_; rintro e w1 ⟨rfl, rfl⟩; first | rw [hk] | rw [ha] | rw [hb] | rw [hi]))
    go_ret2
    exact ⟨ret_two (by omega) rfl, bel_alloc (bel_alloc (bel_alloc (Below.refl _ _) _) _) _⟩
  · have hf : fitI 6 a b i = true := by simp [fitI, useA, useB, useI]
    rw [hf, if_pos rfl] at he
    rw [iW_ok he, he]
    clear he hf
    go_enter Try.func10, Try.ntmps10
    go_wp2_with (first | (go_at_call 32; refine (in_any _ _ _ _).mono ?_; rintro e w1 ⟨rfl, rfl⟩; first | rw [hk] | rw [ha] | rw [hb] | rw [hi]))
    refine (has_abi_a _ _ ?_).mono ?_
    · simp [go_sem]
    rintro e w1 ⟨rfl, rfl⟩
    go_wp2_with (first | (go_at_call 32; refine (in_any _ _ _ _).mono ?_; rintro e w1 ⟨rfl, rfl⟩; first | rw [hk] | rw [ha] | rw [hb] | rw [hi]))
    refine (has_abi_b _ _ ?_).mono ?_
    · simp [go_sem]
    rintro e w1 ⟨rfl, rfl⟩
    go_wp2_with (first | (go_at_call 32; refine (in_any _ _ _ _).mono ?_; rintro e w1 ⟨rfl, rfl⟩; first | rw [hk] | rw [ha] | rw [hb] | rw [hi]))
    refine (has_abi_i _ _ ?_).mono ?_
    · simp [go_sem]
    rintro e w1 ⟨rfl, rfl⟩
    go_wp2_with (first | (go_at_call 32; refine (in_any _ _ _ _).mono ?_; rintro e w1 ⟨rfl, rfl⟩; first | rw [hk] | rw [ha] | rw [hb] | rw [hi]))
    go_ret2
    exact ⟨ret_two (by omega) rfl, bel_alloc (bel_alloc (bel_alloc (Below.refl _ _) _) _) _⟩
end Go.Proofs.Ytfbmmiikhkmpfac
/-
  What drawbridgeref's InsWord answers, by kind: the same as Put.
-/
namespace Go.Proofs.Ytfbmmiikhkmpfac
open Go.RowKit

set_option maxHeartbeats 2000000 in
theorem insWord_7 (a b i : Int) (w : World) (ha : betweenB 0 7 a = true) (hb : betweenB 0 7 b = true) (hi : betweenB 0 63 i = true) :
    Calls Try.prog 10 #[.agg #[.int .i64 7, .int .i64 a, .int .i64 b, .int .i64 i]] w fun e w' => e = .returned (.tuple #[.int .i64 (iW 7 a b i), .int .i64 (iE 7 a b i)]) ∧ Below w.heap.size w w' := by
  obtain ⟨a0, a1⟩ := of_between ha
  obtain ⟨b0, b1⟩ := of_between hb
  obtain ⟨i0, i1⟩ := of_between hi
  have hk : betweenB 0 8 7 = true := by decide
  have he : iE 7 a b i = if fitI 7 a b i = true then 0 else 3 := iE_in (k := 7) (by decide) ⟨a0, a1⟩ ⟨b0, b1⟩ ⟨i0, i1⟩
  have ways : (¬ 0 < a ∧ ¬ 0 < b ∧ ¬ 0 < i) ∨ (¬ 0 < a ∧ ¬ 0 < b ∧ 0 < i) ∨ (¬ 0 < a ∧ 0 < b) ∨ (0 < a ∧ ¬ 0 < b ∧ ¬ 0 < i) ∨ (0 < a ∧ ¬ 0 < b ∧ 0 < i) ∨ (0 < a ∧ 0 < b) := by omega
  rcases ways with ⟨pa, pb, pi⟩ | ⟨pa, pb, pi⟩ | ⟨pa, pb⟩ | ⟨pa, pb, pi⟩ | ⟨pa, pb, pi⟩ | ⟨pa, pb⟩
  · have hf : fitI 7 a b i = true := by simp [fitI, useA, useB, useI]; omega
    rw [hf, if_pos rfl] at he
    rw [iW_ok he, he]
    clear he hf
    go_enter Try.func10, Try.ntmps10
    go_wp2_with (first | (go_at_call 32; refine (in_any _ _ _ _).mono ?_; rintro e w1 ⟨rfl, rfl⟩; first | rw [hk] | rw [ha] | rw [hb] | rw [hi]))
    go_ret2
    exact ⟨ret_two (by omega) rfl, bel_alloc (bel_alloc (bel_alloc (Below.refl _ _) _) _) _⟩
  · have hf : fitI 7 a b i = true := by simp [fitI, useA, useB, useI]; omega
    rw [hf, if_pos rfl] at he
    rw [iW_ok he, he]
    clear he hf
    go_enter Try.func10, Try.ntmps10
    go_wp2_with (first | (go_at_call 32; refine (in_any _ _ _ _).mono ?_; rintro e w1 ⟨rfl, rfl⟩; first | rw [hk] | rw [ha] | rw [hb] | rw [hi]))
    refine (has_ai_i _ _ ?_).mono ?_
    · simp [go_sem]
    rintro e w1 ⟨rfl, rfl⟩
    go_wp2_with (first | (go_at_call 32; refine (in_any _ _ _ _).mono ?_; rintro e w1 ⟨rfl, rfl⟩; first | rw [hk] | rw [ha] | rw [hb] | rw [hi]))
    go_ret2
    exact ⟨ret_two (by omega) rfl, bel_alloc (bel_alloc (bel_alloc (Below.refl _ _) _) _) _⟩
  · have hf : ¬ fitI 7 a b i = true := by simp [fitI, useA, useB, useI]; omega
    rw [if_neg hf] at he
    rw [iW_bad he (by decide), he]
    clear he hf
    go_enter Try.func10, Try.ntmps10
    go_wp2_with (first | (go_at_call 32; refine (in_any _ _ _ _).mono ?_; rintro e w1 ⟨rfl, rfl⟩; first | rw [hk] | rw [ha] | rw [hb] | rw [hi]))
    refine (has_ai_b _ _ ?_).mono ?_
    · simp [go_sem]
    rintro e w1 ⟨rfl, rfl⟩
    go_wp2_with (first | (go_at_call 32; refine (in_any _ _ _ _).mono ?_; rintro e w1 ⟨rfl, rfl⟩; first | rw [hk] | rw [ha] | rw [hb] | rw [hi]))
    go_ret2
    exact ⟨ret_two (by omega) rfl, bel_alloc (bel_alloc (bel_alloc (Below.refl _ _) _) _) _⟩
  · have hf : fitI 7 a b i = true := by simp [fitI, useA, useB, useI]; omega
    rw [hf, if_pos rfl] at he
    rw [iW_ok he, he]
    clear he hf
    go_enter Try.func10, Try.ntmps10
    go_wp2_with (first | (go_at_call 32; refine (in_any _ _ _ _).mono ?_; rintro e w1 ⟨rfl, rfl⟩; first | rw [hk] | rw [ha] | rw [hb] | rw [hi]))
    refine (has_ai_a _ _ ?_).mono ?_
    · simp [go_sem]
    rintro e w1 ⟨rfl, rfl⟩
    go_wp2_with (first | (go_at_call 32; refine (in_any _ _ _ _).mono ?_; rintro e w1 ⟨rfl, rfl⟩; first | rw [hk] | rw [ha] | rw [hb] | rw [hi]))
    go_ret2
    exact ⟨ret_two (by omega) rfl, bel_alloc (bel_alloc (bel_alloc (Below.refl _ _) _) _) _⟩
  · have hf : fitI 7 a b i = true := by simp [fitI, useA, useB, useI]; omega
    rw [hf, if_pos rfl] at he
    rw [iW_ok he, he]
    clear he hf
    go_enter Try.func10, Try.ntmps10
    go_wp2_with (first | (go_at_call 32; refine (in_any _ _ _ _).mono ?_; rintro e w1 ⟨rfl, rfl⟩; first | rw [hk] | rw [ha] | rw [hb] | rw [hi]))
    refine (has_ai_a _ _ ?_).mono ?_
    · simp [go_sem]
    rintro e w1 ⟨rfl, rfl⟩
    go_wp2_with (first | (go_at_call 32; refine (in_any _ _ _ _).mono ?_; rintro e w1 ⟨rfl, rfl⟩; first | rw [hk] | rw [ha] | rw [hb] | rw [hi]))
    refine (has_ai_i _ _ ?_).mono ?_
    · simp [go_sem]
    rintro e w1 ⟨rfl, rfl⟩
    go_wp2_with (first | (go_at_call 32; refine (in_any _ _ _ _).mono ?_; rintro e w1 ⟨rfl, rfl⟩; first | rw [hk] | rw [ha] | rw [hb] | rw [hi]))
    go_ret2
    exact ⟨ret_two (by omega) rfl, bel_alloc (bel_alloc (bel_alloc (Below.refl _ _) _) _) _⟩
  · have hf : ¬ fitI 7 a b i = true := by simp [fitI, useA, useB, useI]; omega
    rw [if_neg hf] at he
    rw [iW_bad he (by decide), he]
    clear he hf
    go_enter Try.func10, Try.ntmps10
    go_wp2_with (first | (go_at_call 32; refine (in_any _ _ _ _).mono ?_; rintro e w1 ⟨rfl, rfl⟩; first | rw [hk] | rw [ha] | rw [hb] | rw [hi]))
    refine (has_ai_a _ _ ?_).mono ?_
    · simp [go_sem]
    rintro e w1 ⟨rfl, rfl⟩
    go_wp2_with (first | (go_at_call 32; refine (in_any _ _ _ _).mono ?_; rintro e w1 ⟨rfl, rfl⟩; first | rw [hk] | rw [ha] | rw [hb] | rw [hi]))
    refine (has_ai_b _ _ ?_).mono ?_
    · simp [go_sem]
    rintro e w1 ⟨rfl, rfl⟩
    go_wp2_with (first | (go_at_call 32; refine (in_any _ _ _ _).mono ?_; rintro e w1 ⟨rfl, rfl⟩; first | rw [hk] | rw [ha] | rw [hb] | rw [hi]))
    go_ret2
    exact ⟨ret_two (by omega) rfl, bel_alloc (bel_alloc (bel_alloc (Below.refl _ _) _) _) _⟩
set_option maxHeartbeats 2000000 in
theorem insWord_8 (a b i : Int) (w : World) (ha : betweenB 0 7 a = true) (hb : betweenB 0 7 b = true) (hi : betweenB 0 63 i = true) :
    Calls Try.prog 10 #[.agg #[.int .i64 8, .int .i64 a, .int .i64 b, .int .i64 i]] w fun e w' => e = .returned (.tuple #[.int .i64 (iW 8 a b i), .int .i64 (iE 8 a b i)]) ∧ Below w.heap.size w w' := by
  obtain ⟨a0, a1⟩ := of_between ha
  obtain ⟨b0, b1⟩ := of_between hb
  obtain ⟨i0, i1⟩ := of_between hi
  have hk : betweenB 0 8 8 = true := by decide
  have he : iE 8 a b i = if fitI 8 a b i = true then 0 else 3 := iE_in (k := 8) (by decide) ⟨a0, a1⟩ ⟨b0, b1⟩ ⟨i0, i1⟩
  have ways : (¬ 0 < a ∧ ¬ 0 < b ∧ ¬ 0 < i) ∨ (¬ 0 < a ∧ ¬ 0 < b ∧ 0 < i) ∨ (¬ 0 < a ∧ 0 < b) ∨ (0 < a ∧ ¬ 0 < b ∧ ¬ 0 < i) ∨ (0 < a ∧ ¬ 0 < b ∧ 0 < i) ∨ (0 < a ∧ 0 < b) := by omega
  rcases ways with ⟨pa, pb, pi⟩ | ⟨pa, pb, pi⟩ | ⟨pa, pb⟩ | ⟨pa, pb, pi⟩ | ⟨pa, pb, pi⟩ | ⟨pa, pb⟩
  · have hf : fitI 8 a b i = true := by simp [fitI, useA, useB, useI]; omega
    rw [hf, if_pos rfl] at he
    rw [iW_ok he, he]
    clear he hf
    go_enter Try.func10, Try.ntmps10
    go_wp2_with (first | (go_at_call 32; refine (in_any _ _ _ _).mono ?_; rintro e w1 ⟨rfl, rfl⟩; first | rw [hk] | rw [ha] | rw [hb] | rw [hi]))
    go_ret2
    exact ⟨ret_two (by omega) rfl, bel_alloc (bel_alloc (bel_alloc (Below.refl _ _) _) _) _⟩
  · have hf : fitI 8 a b i = true := by simp [fitI, useA, useB, useI]; omega
    rw [hf, if_pos rfl] at he
    rw [iW_ok he, he]
    clear he hf
    go_enter Try.func10, Try.ntmps10
    go_wp2_with (first | (go_at_call 32; refine (in_any _ _ _ _).mono ?_; rintro e w1 ⟨rfl, rfl⟩; first | rw [hk] | rw [ha] | rw [hb] | rw [hi]))
    refine (has_ai_i _ _ ?_).mono ?_
    · simp [go_sem]
    rintro e w1 ⟨rfl, rfl⟩
    go_wp2_with (first | (go_at_call 32; refine (in_any _ _ _ _).mono ?_; rintro e w1 ⟨rfl, rfl⟩; first | rw [hk] | rw [ha] | rw [hb] | rw [hi]))
    go_ret2
    exact ⟨ret_two (by omega) rfl, bel_alloc (bel_alloc (bel_alloc (Below.refl _ _) _) _) _⟩
  · have hf : ¬ fitI 8 a b i = true := by simp [fitI, useA, useB, useI]; omega
    rw [if_neg hf] at he
    rw [iW_bad he (by decide), he]
    clear he hf
    go_enter Try.func10, Try.ntmps10
    go_wp2_with (first | (go_at_call 32; refine (in_any _ _ _ _).mono ?_; rintro e w1 ⟨rfl, rfl⟩; first | rw [hk] | rw [ha] | rw [hb] | rw [hi]))
    refine (has_ai_b _ _ ?_).mono ?_
    · simp [go_sem]
    rintro e w1 ⟨rfl, rfl⟩
    go_wp2_with (first | (go_at_call 32; refine (in_any _ _ _ _).mono ?_; rintro e w1 ⟨rfl, rfl⟩; first | rw [hk] | rw [ha] | rw [hb] | rw [hi]))
    go_ret2
    exact ⟨ret_two (by omega) rfl, bel_alloc (bel_alloc (bel_alloc (Below.refl _ _) _) _) _⟩
  · have hf : fitI 8 a b i = true := by simp [fitI, useA, useB, useI]; omega
    rw [hf, if_pos rfl] at he
    rw [iW_ok he, he]
    clear he hf
    go_enter Try.func10, Try.ntmps10
    go_wp2_with (first | (go_at_call 32; refine (in_any _ _ _ _).mono ?_; rintro e w1 ⟨rfl, rfl⟩; first | rw [hk] | rw [ha] | rw [hb] | rw [hi]))
    refine (has_ai_a _ _ ?_).mono ?_
    · simp [go_sem]
    rintro e w1 ⟨rfl, rfl⟩
    go_wp2_with (first | (go_at_call 32; refine (in_any _ _ _ _).mono ?_; rintro e w1 ⟨rfl, rfl⟩; first | rw [hk] | rw [ha] | rw [hb] | rw [hi]))
    go_ret2
    exact ⟨ret_two (by omega) rfl, bel_alloc (bel_alloc (bel_alloc (Below.refl _ _) _) _) _⟩
  · have hf : fitI 8 a b i = true := by simp [fitI, useA, useB, useI]; omega
    rw [hf, if_pos rfl] at he
    rw [iW_ok he, he]
    clear he hf
    go_enter Try.func10, Try.ntmps10
    go_wp2_with (first | (go_at_call 32; refine (in_any _ _ _ _).mono ?_; rintro e w1 ⟨rfl, rfl⟩; first | rw [hk] | rw [ha] | rw [hb] | rw [hi]))
    refine (has_ai_a _ _ ?_).mono ?_
    · simp [go_sem]
    rintro e w1 ⟨rfl, rfl⟩
    go_wp2_with (first | (go_at_call 32; refine (in_any _ _ _ _).mono ?_; rintro e w1 ⟨rfl, rfl⟩; first | rw [hk] | rw [ha] | rw [hb] | rw [hi]))
    refine (has_ai_i _ _ ?_).mono ?_
    · simp [go_sem]
    rintro e w1 ⟨rfl, rfl⟩
    go_wp2_with (first | (go_at_call 32; refine (in_any _ _ _ _).mono ?_; rintro e w1 ⟨rfl, rfl⟩; first | rw [hk] | rw [ha] | rw [hb] | rw [hi]))
    go_ret2
    exact ⟨ret_two (by omega) rfl, bel_alloc (bel_alloc (bel_alloc (Below.refl _ _) _) _) _⟩
  · have hf : ¬ fitI 8 a b i = true := by simp [fitI, useA, useB, useI]; omega
    rw [if_neg hf] at he
    rw [iW_bad he (by decide), he]
    clear he hf
    go_enter Try.func10, Try.ntmps10
    go_wp2_with (first | (go_at_call 32; refine (in_any _ _ _ _).mono ?_; rintro e w1 ⟨rfl, rfl⟩; first | rw [hk] | rw [ha] | rw [hb] | rw [hi]))
    refine (has_ai_a _ _ ?_).mono ?_
    · simp [go_sem]
    rintro e w1 ⟨rfl, rfl⟩
    go_wp2_with (first | (go_at_call 32; refine (in_any _ _ _ _).mono ?_; rintro e w1 ⟨rfl, rfl⟩; first | rw [hk] | rw [ha] | rw [hb] | rw [hi]))
    refine (has_ai_b _ _ ?_).mono ?_
    · simp [go_sem]
    rintro e w1 ⟨rfl, rfl⟩
    go_wp2_with (first | (go_at_call 32; refine (in_any _ _ _ _).mono ?_; rintro e w1 ⟨rfl, rfl⟩; first | rw [hk] | rw [ha] | rw [hb] | rw [hi]))
    go_ret2
    exact ⟨ret_two (by omega) rfl, bel_alloc (bel_alloc (bel_alloc (Below.refl _ _) _) _) _⟩
end Go.Proofs.Ytfbmmiikhkmpfac
/-
  drawbridgeref's InsWord: whatever instruction: the same as Put.
-/
namespace Go.Proofs.Ytfbmmiikhkmpfac
open Go.RowKit

set_option maxHeartbeats 1000000 in
theorem insWord_any (k a b i : Int) (w : World) :
    Calls Try.prog 10 #[.agg #[.int .i64 k, .int .i64 a, .int .i64 b, .int .i64 i]] w fun e w' => e = .returned (.tuple #[.int .i64 (iW k a b i), .int .i64 (iE k a b i)]) ∧ Below w.heap.size w w' := by
  cases hk : betweenB 0 8 k
  · have hk' : ¬ (0 ≤ k ∧ k ≤ 8) := of_decide_eq_false hk
    have he : iE k a b i = 2 := iE_out (by omega)
    rw [iW_bad he (by decide), he]
    clear he hk'
    go_enter Try.func10, Try.ntmps10
    go_wp2_with (first | (go_at_call 32; refine (in_any _ _ _ _).mono ?_; rintro e w1 ⟨rfl, rfl⟩; first | rw [hk]))
    go_ret2
    exact ⟨rfl, bel_alloc (Below.refl _ _) _⟩
  cases ha : betweenB 0 7 a
  · have ha' : ¬ (0 ≤ a ∧ a ≤ 7) := of_decide_eq_false ha
    have he : iE k a b i = 2 := iE_out (by omega)
    rw [iW_bad he (by decide), he]
    clear he ha'
    go_enter Try.func10, Try.ntmps10
    go_wp2_with (first | (go_at_call 32; refine (in_any _ _ _ _).mono ?_; rintro e w1 ⟨rfl, rfl⟩; first | rw [hk] | rw [ha]))
    go_ret2
    exact ⟨rfl, bel_alloc (Below.refl _ _) _⟩
  cases hb : betweenB 0 7 b
  · have hb' : ¬ (0 ≤ b ∧ b ≤ 7) := of_decide_eq_false hb
    have he : iE k a b i = 2 := iE_out (by omega)
    rw [iW_bad he (by decide), he]
    clear he hb'
    go_enter Try.func10, Try.ntmps10
    go_wp2_with (first | (go_at_call 32; refine (in_any _ _ _ _).mono ?_; rintro e w1 ⟨rfl, rfl⟩; first | rw [hk] | rw [ha] | rw [hb]))
    go_ret2
    exact ⟨rfl, bel_alloc (Below.refl _ _) _⟩
  cases hi : betweenB 0 63 i
  · have hi' : ¬ (0 ≤ i ∧ i ≤ 63) := of_decide_eq_false hi
    have he : iE k a b i = 2 := iE_out (by omega)
    rw [iW_bad he (by decide), he]
    clear he hi'
    go_enter Try.func10, Try.ntmps10
    go_wp2_with (first | (go_at_call 32; refine (in_any _ _ _ _).mono ?_; rintro e w1 ⟨rfl, rfl⟩; first | rw [hk] | rw [ha] | rw [hb] | rw [hi]))
    go_ret2
    exact ⟨rfl, bel_alloc (Below.refl _ _) _⟩
  have hk' := of_between hk
  have parts : k = 0 ∨ k = 1 ∨ k = 2 ∨ k = 3 ∨ k = 4 ∨ k = 5 ∨ k = 6 ∨ k = 7 ∨ k = 8 := by omega
  rcases parts with rfl | rfl | rfl | rfl | rfl | rfl | rfl | rfl | rfl
  · exact insWord_0 a b i w ha hb hi
  · exact insWord_1 a b i w ha hb hi
  · exact insWord_2 a b i w ha hb hi
  · exact insWord_3 a b i w ha hb hi
  · exact insWord_4 a b i w ha hb hi
  · exact insWord_5 a b i w ha hb hi
  · exact insWord_6 a b i w ha hb hi
  · exact insWord_7 a b i w ha hb hi
  · exact insWord_8 a b i w ha hb hi
end Go.Proofs.Ytfbmmiikhkmpfac
