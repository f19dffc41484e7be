/-
  Laid together: InsW2, InsW3, InsW4, InsWord, Code2, Coded, HNext, AppendI.
-/
import Derived.Test.YtfbmmiikhkmpfacT9
/-
  What drawbridgeref's InsWord answers, by kind: the same as Put.
-/
namespace Go.Proofs.Ytfbmmiikhkmpfac
open Go.RowKit

set_option maxHeartbeats 2000000 in
theorem insWord_3 (a b i : Int) (w : World) (ha : betweenB 0 7 a = true) (hb : betweenB 0 7 b = true) (hi : betweenB 0 63 i = true) :
    Calls Try.prog 10 #[.agg #[.int .i64 3, .int .i64 a, .int .i64 b, .int .i64 i]] w fun e w' => e = .returned (.tuple #[.int .i64 (iW 3 a b i), .int .i64 (iE 3 a b i)]) ∧ Below w.heap.size w w' := by
  obtain ⟨a0, a1⟩ := of_between ha
  obtain ⟨b0, b1⟩ := of_between hb
  obtain ⟨i0, i1⟩ := of_between hi
  have hk : betweenB 0 8 3 = true := by decide
  have he : iE 3 a b i = if fitI 3 a b i = true then 0 else 3 := iE_in (k := 3) (by decide) ⟨a0, a1⟩ ⟨b0, b1⟩ ⟨i0, i1⟩
  have ways : (¬ 0 < a ∧ ¬ 0 < b ∧ ¬ 0 < i) ∨ (¬ 0 < a ∧ ¬ 0 < b ∧ 0 < i) ∨ (¬ 0 < a ∧ 0 < b) ∨ (0 < a ∧ ¬ 0 < b ∧ ¬ 0 < i) ∨ (0 < a ∧ ¬ 0 < b ∧ 0 < i) ∨ (0 < a ∧ 0 < b) := by omega
  rcases ways with ⟨pa, pb, pi⟩ | ⟨pa, pb, pi⟩ | ⟨pa, pb⟩ | ⟨pa, pb, pi⟩ | ⟨pa, pb, pi⟩ | ⟨pa, pb⟩
  · have hf : fitI 3 a b i = true := by simp [fitI, useA, useB, useI]; omega
    rw [hf, if_pos rfl] at he
    rw [iW_ok he, he]
    clear he hf
    go_enter Try.func10, Try.ntmps10
    go_wp2_with (first | (go_at_call 32; refine (in_any _ _ _ _).mono ?_; rintro e w1 ⟨rfl, rfl⟩; first | rw [hk] | rw [ha] | rw [hb] | rw [hi]))
    go_ret2
    exact ⟨ret_two (by omega) rfl, bel_alloc (bel_alloc (bel_alloc (Below.refl _ _) _) _) _⟩
  · have hf : fitI 3 a b i = true := by simp [fitI, useA, useB, useI]; omega
    rw [hf, if_pos rfl] at he
    rw [iW_ok he, he]
    clear he hf
    go_enter Try.func10, Try.ntmps10
    go_wp2_with (first | (go_at_call 32; refine (in_any _ _ _ _).mono ?_; rintro e w1 ⟨rfl, rfl⟩; first | rw [hk] | rw [ha] | rw [hb] | rw [hi]))
    refine (has_ai_i _ _ ?_).mono ?_
    · simp [go_sem]
    rintro e w1 ⟨rfl, rfl⟩
    go_wp2_with (first | (go_at_call 32; refine (in_any _ _ _ _).mono ?_; rintro e w1 ⟨rfl, rfl⟩; first | rw [hk] | rw [ha] | rw [hb] | rw [hi]))
    go_ret2
    exact ⟨ret_two (by omega) rfl, bel_alloc (bel_alloc (bel_alloc (Below.refl _ _) _) _) _⟩
  · have hf : ¬ fitI 3 a b i = true := by simp [fitI, useA, useB, useI]; omega
    rw [if_neg hf] at he
    rw [iW_bad he (by decide), he]
    clear he hf
    go_enter Try.func10, Try.ntmps10
    go_wp2_with (first | (go_at_call 32; refine (in_any _ _ _ _).mono ?_; rintro e w1 ⟨rfl, rfl⟩; first | rw [hk] | rw [ha] | rw [hb] | rw [hi]))
    refine (has_ai_b _ _ ?_).mono ?_
    · simp [go_sem]
    rintro e w1 ⟨rfl, rfl⟩
    go_wp2_with (first | (go_at_call 32; refine (in_any _ _ _ _).mono ?_; rintro e w1 ⟨rfl, rfl⟩; first | rw [hk] | rw [ha] | rw [hb] | rw [hi]))
    go_ret2
    exact ⟨ret_two (by omega) rfl, bel_alloc (bel_alloc (bel_alloc (Below.refl _ _) _) _) _⟩
  · have hf : fitI 3 a b i = true := by simp [fitI, useA, useB, useI]; omega
    rw [hf, if_pos rfl] at he
    rw [iW_ok he, he]
    clear he hf
    go_enter Try.func10, Try.ntmps10
    go_wp2_with (first | (go_at_call 32; refine (in_any _ _ _ _).mono ?_; rintro e w1 ⟨rfl, rfl⟩; first | rw [hk] | rw [ha] | rw [hb] | rw [hi]))
    refine (has_ai_a _ _ ?_).mono ?_
    · simp [go_sem]
    rintro e w1 ⟨rfl, rfl⟩
    go_wp2_with (first | (go_at_call 32; refine (in_any _ _ _ _).mono ?_; rintro e w1 ⟨rfl, rfl⟩; first | rw [hk] | rw [ha] | rw [hb] | rw [hi]))
    go_ret2
    exact ⟨ret_two (by omega) rfl, bel_alloc (bel_alloc (bel_alloc (Below.refl _ _) _) _) _⟩
  · have hf : fitI 3 a b i = true := by simp [fitI, useA, useB, useI]; omega
    rw [hf, if_pos rfl] at he
    rw [iW_ok he, he]
    clear he hf
    go_enter Try.func10, Try.ntmps10
    go_wp2_with (first | (go_at_call 32; refine (in_any _ _ _ _).mono ?_; rintro e w1 ⟨rfl, rfl⟩; first | rw [hk] | rw [ha] | rw [hb] | rw [hi]))
    refine (has_ai_a _ _ ?_).mono ?_
    · simp [go_sem]
    rintro e w1 ⟨rfl, rfl⟩
    go_wp2_with (first | (go_at_call 32; refine (in_any _ _ _ _).mono ?_; rintro e w1 ⟨rfl, rfl⟩; first | rw [hk] | rw [ha] | rw [hb] | rw [hi]))
    refine (has_ai_i _ _ ?_).mono ?_
    · simp [go_sem]
    rintro e w1 ⟨rfl, rfl⟩
    go_wp2_with (first | (go_at_call 32; refine (in_any _ _ _ _).mono ?_; rintro e w1 ⟨rfl, rfl⟩; first | rw [hk] | rw [ha] | rw [hb] | rw [hi]))
    go_ret2
    exact ⟨ret_two (by omega) rfl, bel_alloc (bel_alloc (bel_alloc (Below.refl _ _) _) _) _⟩
  · have hf : ¬ fitI 3 a b i = true := by simp [fitI, useA, useB, useI]; omega
    rw [if_neg hf] at he
    rw [iW_bad he (by decide), he]
    clear he hf
    go_enter Try.func10, Try.ntmps10
    go_wp2_with (first | (go_at_call 32; refine (in_any _ _ _ _).mono ?_; rintro e w1 ⟨rfl, rfl⟩; first | rw [hk] | rw [ha] | rw [hb] | rw [hi]))
    refine (has_ai_a _ _ ?_).mono ?_
    · simp [go_sem]
    rintro e w1 ⟨rfl, rfl⟩
    go_wp2_with (first | (go_at_call 32; refine (in_any _ _ _ _).mono ?_; rintro e w1 ⟨rfl, rfl⟩; first | rw [hk] | rw [ha] | rw [hb] | rw [hi]))
    refine (has_ai_b _ _ ?_).mono ?_
    · simp [go_sem]
    rintro e w1 ⟨rfl, rfl⟩
    go_wp2_with (first | (go_at_call 32; refine (in_any _ _ _ _).mono ?_; rintro e w1 ⟨rfl, rfl⟩; first | rw [hk] | rw [ha] | rw [hb] | rw [hi]))
    go_ret2
    exact ⟨ret_two (by omega) rfl, bel_alloc (bel_alloc (bel_alloc (Below.refl _ _) _) _) _⟩
set_option maxHeartbeats 2000000 in
theorem insWord_4 (a b i : Int) (w : World) (ha : betweenB 0 7 a = true) (hb : betweenB 0 7 b = true) (hi : betweenB 0 63 i = true) :
    Calls Try.prog 10 #[.agg #[.int .i64 4, .int .i64 a, .int .i64 b, .int .i64 i]] w fun e w' => e = .returned (.tuple #[.int .i64 (iW 4 a b i), .int .i64 (iE 4 a b i)]) ∧ Below w.heap.size w w' := by
  obtain ⟨a0, a1⟩ := of_between ha
  obtain ⟨b0, b1⟩ := of_between hb
  obtain ⟨i0, i1⟩ := of_between hi
  have hk : betweenB 0 8 4 = true := by decide
  have he : iE 4 a b i = if fitI 4 a b i = true then 0 else 3 := iE_in (k := 4) (by decide) ⟨a0, a1⟩ ⟨b0, b1⟩ ⟨i0, i1⟩
  have ways : (¬ 0 < a ∧ ¬ 0 < b ∧ ¬ 0 < i) ∨ (¬ 0 < a ∧ ¬ 0 < b ∧ 0 < i) ∨ (¬ 0 < a ∧ 0 < b ∧ ¬ 0 < i) ∨ (¬ 0 < a ∧ 0 < b ∧ 0 < i) ∨ (0 < a ∧ ¬ 0 < b ∧ ¬ 0 < i) ∨ (0 < a ∧ ¬ 0 < b ∧ 0 < i) ∨ (0 < a ∧ 0 < b ∧ ¬ 0 < i) ∨ (0 < a ∧ 0 < b ∧ 0 < i) := by omega
  rcases ways with ⟨pa, pb, pi⟩ | ⟨pa, pb, pi⟩ | ⟨pa, pb, pi⟩ | ⟨pa, pb, pi⟩ | ⟨pa, pb, pi⟩ | ⟨pa, pb, pi⟩ | ⟨pa, pb, pi⟩ | ⟨pa, pb, pi⟩
  · have hf : fitI 4 a b i = true := by simp [fitI, useA, useB, useI]
    rw [hf, if_pos rfl] at he
    rw [iW_ok he, he]
    clear he hf
    go_enter Try.func10, Try.ntmps10
    go_wp2_with (first | (go_at_call 32; refine (in_any _ _ _ _).mono ?_; rintro e w1 ⟨rfl, rfl⟩; first | rw [hk] | rw [ha] | rw [hb] | rw [hi]))
    go_ret2
    exact ⟨ret_two (by omega) rfl, bel_alloc (bel_alloc (bel_alloc (Below.refl _ _) _) _) _⟩
  · have hf : fitI 4 a b i = true := by simp [fitI, useA, useB, useI]
    rw [hf, if_pos rfl] at he
    rw [iW_ok he, he]
    clear he hf
    go_enter Try.func10, Try.ntmps10
    go_wp2_with (first | (go_at_call 32; refine (in_any _ _ _ _).mono ?_; rintro e w1 ⟨rfl, rfl⟩; first | rw [hk] | rw [ha] | rw [hb] | rw [hi]))
    refine (has_abi_i _ _ ?_).mono ?_
    · simp [go_sem]
    rintro e w1 ⟨rfl, rfl⟩
    go_wp2_with (first | (go_at_call 32; refine (in_any _ _ _ _).mono ?_; rintro e w1 ⟨rfl, rfl⟩; first | rw [hk] | rw [ha] | rw [hb] | rw [hi]))
    go_ret2
    exact ⟨ret_two (by omega) rfl, bel_alloc (bel_alloc (bel_alloc (Below.refl _ _) _) _) _⟩
  · have hf : fitI 4 a b i = true := by simp [fitI, useA, useB, useI]
    rw [hf, if_pos rfl] at he
    rw [iW_ok he, he]
    clear he hf
    go_enter Try.func10, Try.ntmps10
    go_wp2_with (first | (go_at_call 32; refine (in_any _ _ _ _).mono ?_; rintro e w1 ⟨rfl, rfl⟩; first | rw [hk] | rw [ha] | rw [hb] | rw [hi]))
    refine (has_abi_b _ _ ?_).mono ?_
    · simp [go_sem]
    rintro e w1 ⟨rfl, rfl⟩
    go_wp2_with (first | (go_at_call 32; refine (in_any _ _ _ _).mono ?_; rintro e w1 ⟨rfl, rfl⟩; first | rw [hk] | rw [ha] | rw [hb] | rw [hi]))
    go_ret2
    exact ⟨ret_two (by omega) rfl, bel_alloc (bel_alloc (bel_alloc (Below.refl _ _) _) _) _⟩
  · have hf : fitI 4 a b i = true := by simp [fitI, useA, useB, useI]
    rw [hf, if_pos rfl] at he
    rw [iW_ok he, he]
    clear he hf
    go_enter Try.func10, Try.ntmps10
    go_wp2_with (first | (go_at_call 32; refine (in_any _ _ _ _).mono ?_; rintro e w1 ⟨rfl, rfl⟩; first | rw [hk] | rw [ha] | rw [hb] | rw [hi]))
    refine (has_abi_b _ _ ?_).mono ?_
    · simp [go_sem]
    rintro e w1 ⟨rfl, rfl⟩
    go_wp2_with (first | (go_at_call 32; refine (in_any _ _ _ _).mono ?_; rintro e w1 ⟨rfl, rfl⟩; first | rw [hk] | rw [ha] | rw [hb] | rw [hi]))
    refine (has_abi_i _ _ ?_).mono ?_
    · simp [go_sem]
    rintro e w1 ⟨rfl, rfl⟩
    go_wp2_with (first | (go_at_call 32; refine (in_any _ _ _ _).mono ?_; rintro e w1 ⟨rfl, rfl⟩; first | rw [hk] | rw [ha] | rw [hb] | rw [hi]))
    go_ret2
    exact ⟨ret_two (by omega) rfl, bel_alloc (bel_alloc (bel_alloc (Below.refl _ _) _) _) _⟩
  · have hf : fitI 4 a b i = true := by simp [fitI, useA, useB, useI]
    rw [hf, if_pos rfl] at he
    rw [iW_ok he, he]
    clear he hf
    go_enter Try.func10, Try.ntmps10
    go_wp2_with (first | (go_at_call 32; refine (in_any _ _ _ _).mono ?_; rintro e w1 ⟨rfl, rfl⟩; first | rw [hk] | rw [ha] | rw [hb] | rw [hi]))
    refine (has_abi_a _ _ ?_).mono ?_
    · simp [go_sem]
    rintro e w1 ⟨rfl, rfl⟩
    go_wp2_with (first | (go_at_call 32; refine (in_any _ _ _ _).mono ?_; rintro e w1 ⟨rfl, rfl⟩; first | rw [hk] | rw [ha] | rw [hb] | rw [hi]))
    go_ret2
    exact ⟨ret_two (by omega) rfl, bel_alloc (bel_alloc (bel_alloc (Below.refl _ _) _) _) _⟩
  · have hf : fitI 4 a b i = true := by simp [fitI, useA, useB, useI]
    rw [hf, if_pos rfl] at he
    rw [iW_ok he, he]
    clear he hf
    go_enter Try.func10, Try.ntmps10
    go_wp2_with (first | (go_at_call 32; refine (in_any _ _ _ _).mono ?_; rintro e w1 ⟨rfl, rfl⟩; first | rw [hk] | rw [ha] | rw [hb] | rw [hi]))
    refine (has_abi_a _ _ ?_).mono ?_
    · simp [go_sem]
    rintro e w1 ⟨rfl, rfl⟩
    go_wp2_with (first | (go_at_call 32; refine (in_any _ _ _ _).mono ?_; rintro e w1 ⟨rfl, rfl⟩; first | rw [hk] | rw [ha] | rw [hb] | rw [hi]))
    refine (has_abi_i _ _ ?_).mono ?_
    · simp [go_sem]
    rintro e w1 ⟨rfl, rfl⟩
    go_wp2_with (first | (go_at_call 32; refine (in_any _ _ _ _).mono ?_; rintro e w1 ⟨rfl, rfl⟩; first | rw [hk] | rw [ha] | rw [hb] | rw [hi]))
    go_ret2
    exact ⟨ret_two (by omega) rfl, bel_alloc (bel_alloc (bel_alloc (Below.refl _ _) _) _) _⟩
  · have hf : fitI 4 a b i = true := by simp [fitI, useA, useB, useI]
    rw [hf, if_pos rfl] at he
    rw [iW_ok he, he]
    clear he hf
    go_enter Try.func10, Try.ntmps10
    go_wp2_with (first | (go_at_call 32; refine (in_any _ _ _ _).mono ?_; rintro e w1 ⟨rfl, rfl⟩; first | rw [hk] | rw [ha] | rw [hb] | rw [hi]))
    refine (has_abi_a _ _ ?_).mono ?_
    · simp [go_sem]
    rintro e w1 ⟨rfl, rfl⟩
    go_wp2_with (first | (go_at_call 32; refine (in_any _ _ _ _).mono ?_; rintro e w1 ⟨rfl, rfl⟩; first | rw [hk] | rw [ha] | rw [hb] | rw [hi]))
    refine (has_abi_b _ _ ?_).mono ?_
    · simp [go_sem]
    rintro e w1 ⟨rfl, rfl⟩
    go_wp2_with (first | (go_at_call 32; refine (in_any _ _ _ _).mono ?_; rintro e w1 ⟨rfl, rfl⟩; first | rw [hk] | rw [ha] | rw [hb] | rw [hi]))
    go_ret2
    exact ⟨ret_two (by omega) rfl, bel_alloc (bel_alloc (bel_alloc (Below.refl _ _) _) _) _⟩
  · have hf : fitI 4 a b i = true := by simp [fitI, useA, useB, useI]
    rw [hf, if_pos rfl] at he
    rw [iW_ok he, he]
    clear he hf
    go_enter Try.func10, Try.ntmps10
    go_wp2_with (first | (go_at_call 32; refine (in_any _ _ _ _).mono ?_; rintro e w1 ⟨rfl, rfl⟩; first | rw [hk] | rw [ha] | rw [hb] | rw [hi]))
    refine (has_abi_a _ _ ?_).mono ?_
    · simp [go_sem]
    rintro e w1 ⟨rfl, rfl⟩
    go_wp2_with (first | (go_at_call 32; refine (in_any _ _ _ _).mono ?_; rintro e w1 ⟨rfl, rfl⟩; first | rw [hk] | rw [ha] | rw [hb] | rw [hi]))
    refine (has_abi_b _ _ ?_).mono ?_
    · simp [go_sem]
    rintro e w1 ⟨rfl, rfl⟩
    go_wp2_with (first | (go_at_call 32; refine (in_any _ _ _ _).mono ?_; rintro e w1 ⟨rfl, rfl⟩; first | rw [hk] | rw [ha] | rw [hb] | rw [hi]))
    refine (has_abi_i _ _ ?_).mono ?_
    · simp [go_sem]
    rintro e w1 ⟨rfl, rfl⟩
    go_wp2_with (first | (go_at_call 32; refine (in_any _ _ _ _).mono ?_; rintro e w1 ⟨rfl, rfl⟩; first | rw [hk] | rw [ha] | rw [hb] | rw [hi]))
    go_ret2
    exact ⟨ret_two (by omega) rfl, bel_alloc (bel_alloc (bel_alloc (Below.refl _ _) _) _) _⟩
end Go.Proofs.Ytfbmmiikhkmpfac
/-
  What drawbridgeref's InsWord answers, by kind: the same as Put.
-/
namespace Go.Proofs.Ytfbmmiikhkmpfac
open Go.RowKit

set_option maxHeartbeats 2000000 in
theorem insWord_5 (a b i : Int) (w : World) (ha : betweenB 0 7 a = true) (hb : betweenB 0 7 b = true) (hi : betweenB 0 63 i = true) :
    Calls Try.prog 10 #[.agg #[.int .i64 5, .int .i64 a, .int .i64 b, .int .i64 i]] w fun e w' => e = .returned (.tuple #[.int .i64 (iW 5 a b i), .int .i64 (iE 5 a b i)]) ∧ Below w.heap.size w w' := by
  obtain ⟨a0, a1⟩ := of_between ha
  obtain ⟨b0, b1⟩ := of_between hb
  obtain ⟨i0, i1⟩ := of_between hi
  have hk : betweenB 0 8 5 = true := by decide
  have he : iE 5 a b i = if fitI 5 a b i = true then 0 else 3 := iE_in (k := 5) (by decide) ⟨a0, a1⟩ ⟨b0, b1⟩ ⟨i0, i1⟩
  have ways : (¬ 0 < a ∧ ¬ 0 < b ∧ ¬ 0 < i) ∨ (¬ 0 < a ∧ ¬ 0 < b ∧ 0 < i) ∨ (¬ 0 < a ∧ 0 < b ∧ ¬ 0 < i) ∨ (¬ 0 < a ∧ 0 < b ∧ 0 < i) ∨ (0 < a ∧ ¬ 0 < b ∧ ¬ 0 < i) ∨ (0 < a ∧ ¬ 0 < b ∧ 0 < i) ∨ (0 < a ∧ 0 < b ∧ ¬ 0 < i) ∨ (0 < a ∧ 0 < b ∧ 0 < i) := by omega
  rcases ways with ⟨pa, pb, pi⟩ | ⟨pa, pb, pi⟩ | ⟨pa, pb, pi⟩ | ⟨pa, pb, pi⟩ | ⟨pa, pb, pi⟩ | ⟨pa, pb, pi⟩ | ⟨pa, pb, pi⟩ | ⟨pa, pb, pi⟩
  · have hf : fitI 5 a b i = true := by simp [fitI, useA, useB, useI]
    rw [hf, if_pos rfl] at he
    rw [iW_ok he, he]
    clear he hf
    go_enter Try.func10, Try.ntmps10
    go_wp2_with (first | (go_at_call 32; refine (in_any _ _ _ _).mono ?_; rintro e w1 ⟨rfl, rfl⟩; first | rw [hk] | rw [ha] | rw [hb] | rw [hi]))
    go_ret2
    exact ⟨ret_two (by omega) rfl, bel_alloc (bel_alloc (bel_alloc (Below.refl _ _) _) _) _⟩
  · have hf : fitI 5 a b i = true := by simp [fitI, useA, useB, useI]
    rw [hf, if_pos rfl] at he
    rw [iW_ok he, he]
    clear he hf
    go_enter Try.func10, Try.ntmps10
    go_wp2_with (first | (go_at_call 32; refine (in_any _ _ _ _).mono ?_; rintro e w1 ⟨rfl, rfl⟩; first | rw [hk] | rw [ha] | rw [hb] | rw [hi]))
    refine (has_abi_i _ _ ?_).mono ?_
    · simp [go_sem]
    rintro e w1 ⟨rfl, rfl⟩
    go_wp2_with (first | (go_at_call 32; refine (in_any _ _ _ _).mono ?_; rintro e w1 ⟨rfl, rfl⟩; first | rw [hk] | rw [ha] | rw [hb] | rw [hi]))
    go_ret2
    exact ⟨ret_two (by omega) rfl, bel_alloc (bel_alloc (bel_alloc (Below.refl _ _) _) _) _⟩
  · have hf : fitI 5 a b i = true := by simp [fitI, useA, useB, useI]
    rw [hf, if_pos rfl] at he
    rw [iW_ok he, he]
    clear he hf
    go_enter Try.func10, Try.ntmps10
    go_wp2_with (first | (go_at_call 32; refine (in_any _ _ _ _).mono ?_; rintro e w1 ⟨rfl, rfl⟩; first | rw [hk] | rw [ha] | rw [hb] | rw [hi]))
    refine (has_abi_b _ _ ?_).mono ?_
    · simp [go_sem]
    rintro e w1 ⟨rfl, rfl⟩
    go_wp2_with (first | (go_at_call 32; refine (in_any _ _ _ _).mono ?_; rintro e w1 ⟨rfl, rfl⟩; first | rw [hk] | rw [ha] | rw [hb] | rw [hi]))
    go_ret2
    exact ⟨ret_two (by omega) rfl, bel_alloc (bel_alloc (bel_alloc (Below.refl _ _) _) _) _⟩
  · have hf : fitI 5 a b i = true := by simp [fitI, useA, useB, useI]
    rw [hf, if_pos rfl] at he
    rw [iW_ok he, he]
    clear he hf
    go_enter Try.func10, Try.ntmps10
    go_wp2_with (first | (go_at_call 32; refine (in_any _ _ _ _).mono ?_; rintro e w1 ⟨rfl, rfl⟩; first | rw [hk] | rw [ha] | rw [hb] | rw [hi]))
    refine (has_abi_b _ _ ?_).mono ?_
    · simp [go_sem]
    rintro e w1 ⟨rfl, rfl⟩
    go_wp2_with (first | (go_at_call 32; refine (in_any _ _ _ _).mono ?_; rintro e w1 ⟨rfl, rfl⟩; first | rw [hk] | rw [ha] | rw [hb] | rw [hi]))
    refine (has_abi_i _ _ ?_).mono ?_
    · simp [go_sem]
    rintro e w1 ⟨rfl, rfl⟩
    go_wp2_with (first | (go_at_call 32; refine (in_any _ _ _ _).mono ?_; rintro e w1 ⟨rfl, rfl⟩; first | rw [hk] | rw [ha] | rw [hb] | rw [hi]))
    go_ret2
    exact ⟨ret_two (by omega) rfl, bel_alloc (bel_alloc (bel_alloc (Below.refl _ _) _) _) _⟩
  · have hf : fitI 5 a b i = true := by simp [fitI, useA, useB, useI]
    rw [hf, if_pos rfl] at he
    rw [iW_ok he, he]
    clear he hf
    go_enter Try.func10, Try.ntmps10
    go_wp2_with (first | (go_at_call 32; refine (in_any _ _ _ _).mono ?_; rintro e w1 ⟨rfl, rfl⟩; first | rw [hk] | rw [ha] | rw [hb] | rw [hi]))
    refine (has_abi_a _ _ ?_).mono ?_
    · simp [go_sem]
    rintro e w1 ⟨rfl, rfl⟩
    go_wp2_with (first | (go_at_call 32; refine (in_any _ _ _ _).mono ?_; rintro e w1 ⟨rfl, rfl⟩; first | rw [hk] | rw [ha] | rw [hb] | rw [hi]))
    go_ret2
    exact ⟨ret_two (by omega) rfl, bel_alloc (bel_alloc (bel_alloc (Below.refl _ _) _) _) _⟩
  · have hf : fitI 5 a b i = true := by simp [fitI, useA, useB, useI]
    rw [hf, if_pos rfl] at he
    rw [iW_ok he, he]
    clear he hf
    go_enter Try.func10, Try.ntmps10
    go_wp2_with (first | (go_at_call 32; refine (in_any _ _ _ _).mono ?_; rintro e w1 ⟨rfl, rfl⟩; first | rw [hk] | rw [ha] | rw [hb] | rw [hi]))
    refine (has_abi_a _ _ ?_).mono ?_
    · simp [go_sem]
    rintro e w1 ⟨rfl, rfl⟩
    go_wp2_with (first | (go_at_call 32; refine (in_any _ _ _ _).mono ?_; rintro e w1 ⟨rfl, rfl⟩; first | rw [hk] | rw [ha] | rw [hb] | rw [hi]))
    refine (has_abi_i _ _ ?_).mono ?_
    · simp [go_sem]
    rintro e w1 ⟨rfl, rfl⟩
    go_wp2_with (first | (go_at_call 32; refine (in_any _ _ _ _).mono ?_; rintro e w1 ⟨rfl, rfl⟩; first | rw [hk] | rw [ha] | rw [hb] | rw [hi]))
    go_ret2
    exact ⟨ret_two (by omega) rfl, bel_alloc (bel_alloc (bel_alloc (Below.refl _ _) _) _) _⟩
  · have hf : fitI 5 a b i = true := by simp [fitI, useA, useB, useI]
    rw [hf, if_pos rfl] at he
    rw [iW_ok he, he]
    clear he hf
    go_enter Try.func10, Try.ntmps10
    go_wp2_with (first | (go_at_call 32; refine (in_any _ _ _ _).mono ?_; rintro e w1 ⟨rfl, rfl⟩; first | rw [hk] | rw [ha] | rw [hb] | rw [hi]))
    refine (has_abi_a _ _ ?_).mono ?_
    · simp [go_sem]
    rintro e w1 ⟨rfl, rfl⟩
    go_wp2_with (first | (go_at_call 32; refine (in_any _ _ _ _).mono ?_; rintro e w1 ⟨rfl, rfl⟩; first | rw [hk] | rw [ha] | rw [hb] | rw [hi]))
    refine (has_abi_b _ _ ?_).mono ?_
    · simp [go_sem]
    rintro e w1 ⟨rfl, rfl⟩
    go_wp2_with (first | (go_at_call 32; refine (in_any _ _ _ _).mono ?_; rintro e w1 ⟨rfl, rfl⟩; first | rw [hk] | rw [ha] | rw [hb] | rw [hi]))
    go_ret2
    exact ⟨ret_two (by omega) rfl, bel_alloc (bel_alloc (bel_alloc (Below.refl _ _) _) _) _⟩
  · have hf : fitI 5 a b i = true := by simp [fitI, useA, useB, useI]
    rw [hf, if_pos rfl] at he
    rw [iW_ok he, he]
    clear he hf
    go_enter Try.func10, Try.ntmps10
    go_wp2_with (first | (go_at_call 32; refine (in_any _ _ _ _).mono ?_; rintro e w1 ⟨rfl, rfl⟩; first | rw [hk] | rw [ha] | rw [hb] | rw [hi]))
    refine (has_abi_a _ _ ?_).mono ?_
    · simp [go_sem]
    rintro e w1 ⟨rfl, rfl⟩
    go_wp2_with (first | (go_at_call 32; refine (in_any _ _ _ _).mono ?_; rintro e w1 ⟨rfl, rfl⟩; first | rw [hk] | rw [ha] | rw [hb] | rw [hi]))
    refine (has_abi_b _ _ ?_).mono ?_
    · simp [go_sem]
    rintro e w1 ⟨rfl, rfl⟩
    go_wp2_with (first | (go_at_call 32; refine (in_any _ _ _ _).mono ?_; rintro e w1 ⟨rfl, rfl⟩; first | rw [hk] | rw [ha] | rw [hb] | rw [hi]))
    refine (has_abi_i _ _ ?_).mono ?_
    · simp [go_sem]
    rintro e w1 ⟨rfl, rfl⟩
    go_wp2_with (first | (go_at_call 32; refine (in_any _ _ _ _).mono ?_; rintro e w1 ⟨rfl, rfl⟩; first | rw [hk] | rw [ha] | rw [hb] | rw [hi]))
    go_ret2
    exact ⟨ret_two (by omega) rfl, bel_alloc (bel_alloc (bel_alloc (Below.refl _ _) _) _) _⟩
set_option maxHeartbeats 2000000 in
theorem insWord_6 (a b i : Int) (w : World) (ha : betweenB 0 7 a = true) (hb : betweenB 0 7 b = true) (hi : betweenB 0 63 i = true) :
    Calls Try.prog 10 #[.agg #[.int .i64 6, .int .i64 a, .int .i64 b, .int .i64 i]] w fun e w' => e = .returned (.tuple #[.int .i64 (iW 6 a b i), .int .i64 (iE 6 a b i)]) ∧ Below w.heap.size w w' := by
  obtain ⟨a0, a1⟩ := of_between ha
  obtain ⟨b0, b1⟩ := of_between hb
  obtain ⟨i0, i1⟩ := of_between hi
  have hk : betweenB 0 8 6 = true := by decide
  have he : iE 6 a b i = if fitI 6 a b i = true then 0 else 3 := iE_in (k := 6) (by decide) ⟨a0, a1⟩ ⟨b0, b1⟩ ⟨i0, i1⟩
  have ways : (¬ 0 < a ∧ ¬ 0 < b ∧ ¬ 0 < i) ∨ (¬ 0 < a ∧ ¬ 0 < b ∧ 0 < i) ∨ (¬ 0 < a ∧ 0 < b ∧ ¬ 0 < i) ∨ (¬ 0 < a ∧ 0 < b ∧ 0 < i) ∨ (0 < a ∧ ¬ 0 < b ∧ ¬ 0 < i) ∨ (0 < a ∧ ¬ 0 < b ∧ 0 < i) ∨ (0 < a ∧ 0 < b ∧ ¬ 0 < i) ∨ (0 < a ∧ 0 < b ∧ 0 < i) := by omega
  rcases ways with ⟨pa, pb, pi⟩ | ⟨pa, pb, pi⟩ | ⟨pa, pb, pi⟩ | ⟨pa, pb, pi⟩ | ⟨pa, pb, pi⟩ | ⟨pa, pb, pi⟩ | ⟨pa, pb, pi⟩ | ⟨pa, pb, pi⟩
  · have hf : fitI 6 a b i = true := by simp [fitI, useA, useB, useI]
    rw [hf, if_pos rfl] at he
    rw [iW_ok he, he]
    clear he hf
    go_enter Try.func10, Try.ntmps10
    go_wp2_with (first | (go_at_call 32; refine (in_any _ _ _ _).mono ?_; rintro e w1 ⟨rfl, rfl⟩; first | rw [hk] | rw [ha] | rw [hb] | rw [hi]))
    go_ret2
    exact ⟨ret_two (by omega) rfl, bel_alloc (bel_alloc (bel_alloc (Below.refl _ _) _) _) _⟩
  · have hf : fitI 6 a b i = true := by simp [fitI, useA, useB, useI]
    rw [hf, if_pos rfl] at he
    rw [iW_ok he, he]
    clear he hf
    go_enter Try.func10, Try.ntmps10
    go_wp2_with (first | (go_at_call 32; refine (in_any _ _ _ _).mono ?_; rintro e w1 ⟨rfl, rfl⟩; first | rw [hk] | rw [ha] | rw [hb] | rw [hi]))
    refine (has_abi_i _ _ ?_).mono ?_
    · simp [go_sem]
    rintro e w1 ⟨rfl, rfl⟩
    go_wp2_with (first | (go_at_call 32; refine (in_any _ _ _ _).mono ?_; rintro e w1 ⟨rfl, rfl⟩; first | rw [hk] | rw [ha] | rw [hb] | rw [hi]))
    go_ret2
    exact ⟨ret_two (by omega) rfl, bel_alloc (bel_alloc (bel_alloc (Below.refl _ _) _) _) _⟩
  · have hf : fitI 6 a b i = true := by simp [fitI, useA, useB, useI]
    rw [hf, if_pos rfl] at he
    rw [iW_ok he, he]
    clear he hf
    go_enter Try.func10, Try.ntmps10
    go_wp2_with (first | (go_at_call 32; refine (in_any _ _ _ _).mono ?_; rintro e w1 ⟨rfl, rfl⟩; first | rw [hk] | rw [ha] | rw [hb] | rw [hi]))
    refine (has_abi_b _ _ ?_).mono ?_
    · simp [go_sem]
    rintro e w1 ⟨rfl, rfl⟩
    go_wp2_with (first | (go_at_call 32; refine (in_any _ _ _ _).mono ?_; rintro e w1 ⟨rfl, rfl⟩; first | rw [hk] | rw [ha] | rw [hb] | rw [hi]))
    go_ret2
    exact ⟨ret_two (by omega) rfl, bel_alloc (bel_alloc (bel_alloc (Below.refl _ _) _) _) _⟩
  · have hf : fitI 6 a b i = true := by simp [fitI, useA, useB, useI]
    rw [hf, if_pos rfl] at he
    rw [iW_ok he, he]
    clear he hf
    go_enter Try.func10, Try.ntmps10
    go_wp2_with (first | (go_at_call 32; refine (in_any _ _ _ _).mono ?_; rintro e w1 ⟨rfl, rfl⟩; first | rw [hk] | rw [ha] | rw [hb] | rw [hi]))
    refine (has_abi_b _ _ ?_).mono ?_
    · simp [go_sem]
    rintro e w1 ⟨rfl, rfl⟩
    go_wp2_with (first | (go_at_call 32; refine (in_any _ _ _ _).mono ?_; rintro e w1 ⟨rfl, rfl⟩; first | rw [hk] | rw [ha] | rw [hb] | rw [hi]))
    refine (has_abi_i _ _ ?_).mono ?_
    · simp [go_sem]
    rintro e w1 ⟨rfl, rfl⟩
    go_wp2_with (first | (go_at_call 32; refine (in_any _ _ _ _).mono ?_; rintro e w1 ⟨rfl, rfl⟩; first | rw [hk] | rw [ha] | rw [hb] | rw [hi]))
    go_ret2
    exact ⟨ret_two (by omega) rfl, bel_alloc (bel_alloc (bel_alloc (Below.refl _ _) _) _) _⟩
  · have hf : fitI 6 a b i = true := by simp [fitI, useA, useB, useI]
    rw [hf, if_pos rfl] at he
    rw [iW_ok he, he]
    clear he hf
    go_enter Try.func10, Try.ntmps10
    go_wp2_with (first | (go_at_call 32; refine (in_any _ _ _ _).mono ?_; rintro e w1 ⟨rfl, rfl⟩; first | rw [hk] | rw [ha] | rw [hb] | rw [hi]))
    refine (has_abi_a _ _ ?_).mono ?_
    · simp [go_sem]
    rintro e w1 ⟨rfl, rfl⟩
    go_wp2_with (first | (go_at_call 32; refine (in_any _ _ _ _).mono ?_; rintro e w1 ⟨rfl, rfl⟩; first | rw [hk] | rw [ha] | rw [hb] | rw [hi]))
    go_ret2
    exact ⟨ret_two (by omega) rfl, bel_alloc (bel_alloc (bel_alloc (Below.refl _ _) _) _) _⟩
  · have hf : fitI 6 a b i = true := by simp [fitI, useA, useB, useI]
    rw [hf, if_pos rfl] at he
    rw [iW_ok he, he]
    clear he hf
    go_enter Try.func10, Try.ntmps10
    go_wp2_with (first | (go_at_call 32; refine (in_any _ _ _ _).mono ?_; rintro e w1 ⟨rfl, rfl⟩; first | rw [hk] | rw [ha] | rw [hb] | rw [hi]))
    refine (has_abi_a _ _ ?_).mono ?_
    · simp [go_sem]
    rintro e w1 ⟨rfl, rfl⟩
    go_wp2_with (first | (go_at_call 32; refine (in_any _ _ _ _).mono ?_; rintro e w1 ⟨rfl, rfl⟩; first | rw [hk] | rw [ha] | rw [hb] | rw [hi]))
    refine (has_abi_i _ _ ?_).mono ?_
    · simp [go_sem]
    rintro e w1 ⟨rfl, rfl⟩
    go_wp2_with (first | (go_at_call 32; refine (in_any _ _ _ _).mono ?_; rintro e w1 ⟨rfl, rfl⟩; first | rw [hk] | rw [ha] | rw [hb] | rw [hi]))
    go_ret2
    exact ⟨ret_two (by omega) rfl, bel_alloc (bel_alloc (bel_alloc (Below.refl _ _) _) _) _⟩
  · have hf : fitI 6 a b i = true := by simp [fitI, useA, useB, useI]
    rw [hf, if_pos rfl] at he
    rw [iW_ok he, he]
    clear he hf
    go_enter Try.func10, Try.ntmps10
    go_wp2_with (first | (go_at_call 32; refine (in_any _ _ _ _).mono ?_; rintro e w1 ⟨rfl, rfl⟩; first | rw [hk] | rw [ha] | rw [hb] | rw [hi]))
    refine (has_abi_a _ _ ?_).mono ?_
    · simp [go_sem]
    rintro e w1 ⟨rfl, rfl⟩
    go_wp2_with (first | (go_at_call 32; refine (in_any _ _ _ _).mono ?_; rintro e w1 ⟨rfl, rfl⟩; first | rw [hk] | rw [ha] | rw [hb] | rw [hi]))
    refine (has_abi_b _ _ ?_).mono ?_
    · simp [go_sem]
    rintro e w1 ⟨rfl, rfl⟩
    go_wp2_with (first | (go_at_call 32; refine (in_any _ _ _ _).mono ?_; rintro e w1 ⟨rfl, rfl⟩; first | rw [hk] | rw [ha] | rw [hb] | rw [hi]))
    go_ret2
    exact ⟨ret_two (by omega) rfl, bel_alloc (bel_alloc (bel_alloc (Below.refl _ _) _) _) _⟩
  · have hf : fitI 6 a b i = true := by simp [fitI, useA, useB, useI]
    rw [hf, if_pos rfl] at he
    rw [iW_ok he, he]
    clear he hf
    go_enter Try.func10, Try.ntmps10
    go_wp2_with (first | (go_at_call 32; refine (in_any _ _ _ _).mono ?_; rintro e w1 ⟨rfl, rfl⟩; first | rw [hk] | rw [ha] | rw [hb] | rw [hi]))
    refine (has_abi_a _ _ ?_).mono ?_
    · simp [go_sem]
    rintro e w1 ⟨rfl, rfl⟩
    go_wp2_with (first | (go_at_call 32; refine (in_any _ _ _ _).mono ?_; rintro e w1 ⟨rfl, rfl⟩; first | rw [hk] | rw [ha] | rw [hb] | rw [hi]))
    refine (has_abi_b _ _ ?_).mono ?_
    · simp [go_sem]
    rintro e w1 ⟨rfl, rfl⟩
    go_wp2_with (first | (go_at_call 32; refine (in_any _ _ _ _).mono ?_; rintro e w1 ⟨rfl, rfl⟩; first | rw [hk] | rw [ha] | rw [hb] | rw [hi]))
    refine (has_abi_i _ _ ?_).mono ?_
    · simp [go_sem]
    rintro e w1 ⟨rfl, rfl⟩
    go_wp2_with (first | (go_at_call 32; refine (in_any _ _ _ _).mono ?_; rintro e w1 ⟨rfl, rfl⟩; first | rw [hk] | rw [ha] | rw [hb] | rw [hi]))
    go_ret2
    exact ⟨ret_two (by omega) rfl, bel_alloc (bel_alloc (bel_alloc (Below.refl _ _) _) _) _⟩
end Go.Proofs.Ytfbmmiikhkmpfac
/-
  What drawbridgeref's InsWord answers, by kind: the same as Put.
-/
namespace Go.Proofs.Ytfbmmiikhkmpfac
open Go.RowKit

set_option maxHeartbeats 2000000 in
theorem insWord_7 (a b i : Int) (w : World) (ha : betweenB 0 7 a = true) (hb : betweenB 0 7 b = true) (hi : betweenB 0 63 i = true) :
    Calls Try.prog 10 #[.agg #[.int .i64 7, .int .i64 a, .int .i64 b, .int .i64 i]] w fun e w' => e = .returned (.tuple #[.int .i64 (iW 7 a b i), .int .i64 (iE 7 a b i)]) ∧ Below w.heap.size w w' := by
  obtain ⟨a0, a1⟩ := of_between ha
  obtain ⟨b0, b1⟩ := of_between hb
  obtain ⟨i0, i1⟩ := of_between hi
  have hk : betweenB 0 8 7 = true := by decide
  have he : iE 7 a b i = if fitI 7 a b i = true then 0 else 3 := iE_in (k := 7) (by decide) ⟨a0, a1⟩ ⟨b0, b1⟩ ⟨i0, i1⟩
  have ways : (¬ 0 < a ∧ ¬ 0 < b ∧ ¬ 0 < i) ∨ (¬ 0 < a ∧ ¬ 0 < b ∧ 0 < i) ∨ (¬ 0 < a ∧ 0 < b) ∨ (0 < a ∧ ¬ 0 < b ∧ ¬ 0 < i) ∨ (0 < a ∧ ¬ 0 < b ∧ 0 < i) ∨ (0 < a ∧ 0 < b) := by omega
  rcases ways with ⟨pa, pb, pi⟩ | ⟨pa, pb, pi⟩ | ⟨pa, pb⟩ | ⟨pa, pb, pi⟩ | ⟨pa, pb, pi⟩ | ⟨pa, pb⟩
  · have hf : fitI 7 a b i = true := by simp [fitI, useA, useB, useI]; omega
    rw [hf, if_pos rfl] at he
    rw [iW_ok he, he]
    clear he hf
    go_enter Try.func10, Try.ntmps10
    go_wp2_with (first | (go_at_call 32; refine (in_any _ _ _ _).mono ?_; rintro e w1 ⟨rfl, rfl⟩; first | rw [hk] | rw [ha] | rw [hb] | rw [hi]))
    go_ret2
    exact ⟨ret_two (by omega) rfl, bel_alloc (bel_alloc (bel_alloc (Below.refl _ _) _) _) _⟩
  · have hf : fitI 7 a b i = true := by simp [fitI, useA, useB, useI]; omega
    rw [hf, if_pos rfl] at he
    rw [iW_ok he, he]
    clear he hf
    go_enter Try.func10, Try.ntmps10
    go_wp2_with (first | (go_at_call 32; refine (in_any _ _ _ _).mono ?_; rintro e w1 ⟨rfl, rfl⟩; first | rw [hk] | rw [ha] | rw [hb] | rw [hi]))
    refine (has_ai_i _ _ ?_).mono ?_
    · simp [go_sem]
    rintro e w1 ⟨rfl, rfl⟩
    go_wp2_with (first | (go_at_call 32; refine (in_any _ _ _ _).mono ?_; rintro e w1 ⟨rfl, rfl⟩; first | rw [hk] | rw [ha] | rw [hb] | rw [hi]))
    go_ret2
    exact ⟨ret_two (by omega) rfl, bel_alloc (bel_alloc (bel_alloc (Below.refl _ _) _) _) _⟩
  · have hf : ¬ fitI 7 a b i = true := by simp [fitI, useA, useB, useI]; omega
    rw [if_neg hf] at he
    rw [iW_bad he (by decide), he]
    clear he hf
    go_enter Try.func10, Try.ntmps10
    go_wp2_with (first | (go_at_call 32; refine (in_any _ _ _ _).mono ?_; rintro e w1 ⟨rfl, rfl⟩; first | rw [hk] | rw [ha] | rw [hb] | rw [hi]))
    refine (has_ai_b _ _ ?_).mono ?_
    · simp [go_sem]
    rintro e w1 ⟨rfl, rfl⟩
    go_wp2_with (first | (go_at_call 32; refine (in_any _ _ _ _).mono ?_; rintro e w1 ⟨rfl, rfl⟩; first | rw [hk] | rw [ha] | rw [hb] | rw [hi]))
    go_ret2
    exact ⟨ret_two (by omega) rfl, bel_alloc (bel_alloc (bel_alloc (Below.refl _ _) _) _) _⟩
  · have hf : fitI 7 a b i = true := by simp [fitI, useA, useB, useI]; omega
    rw [hf, if_pos rfl] at he
    rw [iW_ok he, he]
    clear he hf
    go_enter Try.func10, Try.ntmps10
    go_wp2_with (first | (go_at_call 32; refine (in_any _ _ _ _).mono ?_; rintro e w1 ⟨rfl, rfl⟩; first | rw [hk] | rw [ha] | rw [hb] | rw [hi]))
    refine (has_ai_a _ _ ?_).mono ?_
    · simp [go_sem]
    rintro e w1 ⟨rfl, rfl⟩
    go_wp2_with (first | (go_at_call 32; refine (in_any _ _ _ _).mono ?_; rintro e w1 ⟨rfl, rfl⟩; first | rw [hk] | rw [ha] | rw [hb] | rw [hi]))
    go_ret2
    exact ⟨ret_two (by omega) rfl, bel_alloc (bel_alloc (bel_alloc (Below.refl _ _) _) _) _⟩
  · have hf : fitI 7 a b i = true := by simp [fitI, useA, useB, useI]; omega
    rw [hf, if_pos rfl] at he
    rw [iW_ok he, he]
    clear he hf
    go_enter Try.func10, Try.ntmps10
    go_wp2_with (first | (go_at_call 32; refine (in_any _ _ _ _).mono ?_; rintro e w1 ⟨rfl, rfl⟩; first | rw [hk] | rw [ha] | rw [hb] | rw [hi]))
    refine (has_ai_a _ _ ?_).mono ?_
    · simp [go_sem]
    rintro e w1 ⟨rfl, rfl⟩
    go_wp2_with (first | (go_at_call 32; refine (in_any _ _ _ _).mono ?_; rintro e w1 ⟨rfl, rfl⟩; first | rw [hk] | rw [ha] | rw [hb] | rw [hi]))
    refine (has_ai_i _ _ ?_).mono ?_
    · simp [go_sem]
    rintro e w1 ⟨rfl, rfl⟩
    go_wp2_with (first | (go_at_call 32; refine (in_any _ _ _ _).mono ?_; rintro e w1 ⟨rfl, rfl⟩; first | rw [hk] | rw [ha] | rw [hb] | rw [hi]))
    go_ret2
    exact ⟨ret_two (by omega) rfl, bel_alloc (bel_alloc (bel_alloc (Below.refl _ _) _) _) _⟩
  · have hf : ¬ fitI 7 a b i = true := by simp [fitI, useA, useB, useI]; omega
    rw [if_neg hf] at he
    rw [iW_bad he (by decide), he]
    clear he hf
    go_enter Try.func10, Try.ntmps10
    go_wp2_with (first | (go_at_call 32; refine (in_any _ _ _ _).mono ?_; rintro e w1 ⟨rfl, rfl⟩; first | rw [hk] | rw [ha] | rw [hb] | rw [hi]))
    refine (has_ai_a _ _ ?_).mono ?_
    · simp [go_sem]
    rintro e w1 ⟨rfl, rfl⟩
    go_wp2_with (first | (go_at_call 32; refine (in_any _ _ _ _).mono ?_; rintro e w1 ⟨rfl, rfl⟩; first | rw [hk] | rw [ha] | rw [hb] | rw [hi]))
    refine (has_ai_b _ _ ?_).mono ?_
    · simp [go_sem]
    rintro e w1 ⟨rfl, rfl⟩
    go_wp2_with (first | (go_at_call 32; refine (in_any _ _ _ _).mono ?_; rintro e w1 ⟨rfl, rfl⟩; first | rw [hk] | rw [ha] | rw [hb] | rw [hi]))
    go_ret2
    exact ⟨ret_two (by omega) rfl, bel_alloc (bel_alloc (bel_alloc (Below.refl _ _) _) _) _⟩
set_option maxHeartbeats 2000000 in
theorem insWord_8 (a b i : Int) (w : World) (ha : betweenB 0 7 a = true) (hb : betweenB 0 7 b = true) (hi : betweenB 0 63 i = true) :
    Calls Try.prog 10 #[.agg #[.int .i64 8, .int .i64 a, .int .i64 b, .int .i64 i]] w fun e w' => e = .returned (.tuple #[.int .i64 (iW 8 a b i), .int .i64 (iE 8 a b i)]) ∧ Below w.heap.size w w' := by
  obtain ⟨a0, a1⟩ := of_between ha
  obtain ⟨b0, b1⟩ := of_between hb
  obtain ⟨i0, i1⟩ := of_between hi
  have hk : betweenB 0 8 8 = true := by decide
  have he : iE 8 a b i = if fitI 8 a b i = true then 0 else 3 := iE_in (k := 8) (by decide) ⟨a0, a1⟩ ⟨b0, b1⟩ ⟨i0, i1⟩
  have ways : (¬ 0 < a ∧ ¬ 0 < b ∧ ¬ 0 < i) ∨ (¬ 0 < a ∧ ¬ 0 < b ∧ 0 < i) ∨ (¬ 0 < a ∧ 0 < b) ∨ (0 < a ∧ ¬ 0 < b ∧ ¬ 0 < i) ∨ (0 < a ∧ ¬ 0 < b ∧ 0 < i) ∨ (0 < a ∧ 0 < b) := by omega
  rcases ways with ⟨pa, pb, pi⟩ | ⟨pa, pb, pi⟩ | ⟨pa, pb⟩ | ⟨pa, pb, pi⟩ | ⟨pa, pb, pi⟩ | ⟨pa, pb⟩
  · have hf : fitI 8 a b i = true := by simp [fitI, useA, useB, useI]; omega
    rw [hf, if_pos rfl] at he
    rw [iW_ok he, he]
    clear he hf
    go_enter Try.func10, Try.ntmps10
    go_wp2_with (first | (go_at_call 32; refine (in_any _ _ _ _).mono ?_; rintro e w1 ⟨rfl, rfl⟩; first | rw [hk] | rw [ha] | rw [hb] | rw [hi]))
    go_ret2
    exact ⟨ret_two (by omega) rfl, bel_alloc (bel_alloc (bel_alloc (Below.refl _ _) _) _) _⟩
  · have hf : fitI 8 a b i = true := by simp [fitI, useA, useB, useI]; omega
    rw [hf, if_pos rfl] at he
    rw [iW_ok he, he]
    clear he hf
    go_enter Try.func10, Try.ntmps10
    go_wp2_with (first | (go_at_call 32; refine (in_any _ _ _ _).mono ?_; rintro e w1 ⟨rfl, rfl⟩; first | rw [hk] | rw [ha] | rw [hb] | rw [hi]))
    refine (has_ai_i _ _ ?_).mono ?_
    · simp [go_sem]
    rintro e w1 ⟨rfl, rfl⟩
    go_wp2_with (first | (go_at_call 32; refine (in_any _ _ _ _).mono ?_; rintro e w1 ⟨rfl, rfl⟩; first | rw [hk] | rw [ha] | rw [hb] | rw [hi]))
    go_ret2
    exact ⟨ret_two (by omega) rfl, bel_alloc (bel_alloc (bel_alloc (Below.refl _ _) _) _) _⟩
  · have hf : ¬ fitI 8 a b i = true := by simp [fitI, useA, useB, useI]; omega
    rw [if_neg hf] at he
    rw [iW_bad he (by decide), he]
    clear he hf
    go_enter Try.func10, Try.ntmps10
    go_wp2_with (first | (go_at_call 32; refine (in_any _ _ _ _).mono ?_; rintro e w1 ⟨rfl, rfl⟩; first | rw [hk] | rw [ha] | rw [hb] | rw [hi]))
    refine (has_ai_b _ _ ?_).mono ?_
    · simp [go_sem]
    rintro e w1 ⟨rfl, rfl⟩
    go_wp2_with (first | (go_at_call 32; refine (in_any _ _ _ _).mono ?_; rintro e w1 ⟨rfl, rfl⟩; first | rw [hk] | rw [ha] | rw [hb] | rw [hi]))
    go_ret2
    exact ⟨ret_two (by omega) rfl, bel_alloc (bel_alloc (bel_alloc (Below.refl _ _) _) _) _⟩
  · have hf : fitI 8 a b i = true := by simp [fitI, useA, useB, useI]; omega
    rw [hf, if_pos rfl] at he
    rw [iW_ok he, he]
    clear he hf
    go_enter Try.func10, Try.ntmps10
    go_wp2_with (first | (go_at_call 32; refine (in_any _ _ _ _).mono ?_; rintro e w1 ⟨rfl, rfl⟩; first | rw [hk] | rw [ha] | rw [hb] | rw [hi]))
    refine (has_ai_a _ _ ?_).mono ?_
    · simp [go_sem]
    rintro e w1 ⟨rfl, rfl⟩
    go_wp2_with (first | (go_at_call 32; refine (in_any _ _ _ _).mono ?_; rintro e w1 ⟨rfl, rfl⟩; first | rw [hk] | rw [ha] | rw [hb] | rw [hi]))
    go_ret2
    exact ⟨ret_two (by omega) rfl, bel_alloc (bel_alloc (bel_alloc (Below.refl _ _) _) _) _⟩
  · have hf : fitI 8 a b i = true := by simp [fitI, useA, useB, useI]; omega
    rw [hf, if_pos rfl] at he
    rw [iW_ok he, he]
    clear he hf
    go_enter Try.func10, Try.ntmps10
    go_wp2_with (first | (go_at_call 32; refine (in_any _ _ _ _).mono ?_; rintro e w1 ⟨rfl, rfl⟩; first | rw [hk] | rw [ha] | rw [hb] | rw [hi]))
    refine (has_ai_a _ _ ?_).mono ?_
    · simp [go_sem]
    rintro e w1 ⟨rfl, rfl⟩
    go_wp2_with (first | (go_at_call 32; refine (in_any _ _ _ _).mono ?_; rintro e w1 ⟨rfl, rfl⟩; first | rw [hk] | rw [ha] | rw [hb] | rw [hi]))
    refine (has_ai_i _ _ ?_).mono ?_
    · simp [go_sem]
    rintro e w1 ⟨rfl, rfl⟩
    go_wp2_with (first | (go_at_call 32; refine (in_any _ _ _ _).mono ?_; rintro e w1 ⟨rfl, rfl⟩; first | rw [hk] | rw [ha] | rw [hb] | rw [hi]))
    go_ret2
    exact ⟨ret_two (by omega) rfl, bel_alloc (bel_alloc (bel_alloc (Below.refl _ _) _) _) _⟩
  · have hf : ¬ fitI 8 a b i = true := by simp [fitI, useA, useB, useI]; omega
    rw [if_neg hf] at he
    rw [iW_bad he (by decide), he]
    clear he hf
    go_enter Try.func10, Try.ntmps10
    go_wp2_with (first | (go_at_call 32; refine (in_any _ _ _ _).mono ?_; rintro e w1 ⟨rfl, rfl⟩; first | rw [hk] | rw [ha] | rw [hb] | rw [hi]))
    refine (has_ai_a _ _ ?_).mono ?_
    · simp [go_sem]
    rintro e w1 ⟨rfl, rfl⟩
    go_wp2_with (first | (go_at_call 32; refine (in_any _ _ _ _).mono ?_; rintro e w1 ⟨rfl, rfl⟩; first | rw [hk] | rw [ha] | rw [hb] | rw [hi]))
    refine (has_ai_b _ _ ?_).mono ?_
    · simp [go_sem]
    rintro e w1 ⟨rfl, rfl⟩
    go_wp2_with (first | (go_at_call 32; refine (in_any _ _ _ _).mono ?_; rintro e w1 ⟨rfl, rfl⟩; first | rw [hk] | rw [ha] | rw [hb] | rw [hi]))
    go_ret2
    exact ⟨ret_two (by omega) rfl, bel_alloc (bel_alloc (bel_alloc (Below.refl _ _) _) _) _⟩
end Go.Proofs.Ytfbmmiikhkmpfac
/-
  drawbridgeref's InsWord: whatever instruction: the same as Put.
-/
namespace Go.Proofs.Ytfbmmiikhkmpfac
open Go.RowKit

set_option maxHeartbeats 1000000 in
theorem insWord_any (k a b i : Int) (w : World) :
    Calls Try.prog 10 #[.agg #[.int .i64 k, .int .i64 a, .int .i64 b, .int .i64 i]] w fun e w' => e = .returned (.tuple #[.int .i64 (iW k a b i), .int .i64 (iE k a b i)]) ∧ Below w.heap.size w w' := by
  cases hk : betweenB 0 8 k
  · have hk' : ¬ (0 ≤ k ∧ k ≤ 8) := of_decide_eq_false hk
    have he : iE k a b i = 2 := iE_out (by omega)
    rw [iW_bad he (by decide), he]
    clear he hk'
    go_enter Try.func10, Try.ntmps10
    go_wp2_with (first | (go_at_call 32; refine (in_any _ _ _ _).mono ?_; rintro e w1 ⟨rfl, rfl⟩; first | rw [hk]))
    go_ret2
    exact ⟨rfl, bel_alloc (Below.refl _ _) _⟩
  cases ha : betweenB 0 7 a
  · have ha' : ¬ (0 ≤ a ∧ a ≤ 7) := of_decide_eq_false ha
    have he : iE k a b i = 2 := iE_out (by omega)
    rw [iW_bad he (by decide), he]
    clear he ha'
    go_enter Try.func10, Try.ntmps10
    go_wp2_with (first | (go_at_call 32; refine (in_any _ _ _ _).mono ?_; rintro e w1 ⟨rfl, rfl⟩; first | rw [hk] | rw [ha]))
    go_ret2
    exact ⟨rfl, bel_alloc (Below.refl _ _) _⟩
  cases hb : betweenB 0 7 b
  · have hb' : ¬ (0 ≤ b ∧ b ≤ 7) := of_decide_eq_false hb
    have he : iE k a b i = 2 := iE_out (by omega)
    rw [iW_bad he (by decide), he]
    clear he hb'
    go_enter Try.func10, Try.ntmps10
    go_wp2_with (first | (go_at_call 32; refine (in_any _ _ _ _).mono ?_; rintro e w1 ⟨rfl, rfl⟩; first | rw [hk] | rw [ha] | rw [hb]))
    go_ret2
    exact ⟨rfl, bel_alloc (Below.refl _ _) _⟩
  cases hi : betweenB 0 63 i
  · have hi' : ¬ (0 ≤ i ∧ i ≤ 63) := of_decide_eq_false hi
    have he : iE k a b i = 2 := iE_out (by omega)
    rw [iW_bad he (by decide), he]
    clear he hi'
    go_enter Try.func10, Try.ntmps10
    go_wp2_with (first | (go_at_call 32; refine (in_any _ _ _ _).mono ?_; rintro e w1 ⟨rfl, rfl⟩; first | rw [hk] | rw [ha] | rw [hb] | rw [hi]))
    go_ret2
    exact ⟨rfl, bel_alloc (Below.refl _ _) _⟩
  have hk' := of_between hk
  have parts : k = 0 ∨ k = 1 ∨ k = 2 ∨ k = 3 ∨ k = 4 ∨ k = 5 ∨ k = 6 ∨ k = 7 ∨ k = 8 := by omega
  rcases parts with rfl | rfl | rfl | rfl | rfl | rfl | rfl | rfl | rfl
  · exact insWord_0 a b i w ha hb hi
  · exact insWord_1 a b i w ha hb hi
  · exact insWord_2 a b i w ha hb hi
  · exact insWord_3 a b i w ha hb hi
  · exact insWord_4 a b i w ha hb hi
  · exact insWord_5 a b i w ha hb hi
  · exact insWord_6 a b i w ha hb hi
  · exact insWord_7 a b i w ha hb hi
  · exact insWord_8 a b i w ha hb hi
end Go.Proofs.Ytfbmmiikhkmpfac
/-
  What package code's Read answers, and drawbridgeref's InsOf: the same; none turns memory that was there.
-/
namespace Go.Proofs.Ytfbmmiikhkmpfac
open Go.RowKit

theorem riE_out {z : Int} (h : ¬ (0 ≤ z ∧ z ≤ 65535)) : riE z = 2 := if_neg h
theorem riE_bad {z : Int} (h : 0 ≤ z ∧ z ≤ 65535) (k : ¬ iE (z / 4096) (z / 512 % 8) (z / 64 % 8) (z % 64) = 0) : riE z = 3 := by rw [riE, if_pos h, if_neg k]
theorem riX_bad {z e : Int} (h : riE z = e) (hn : ¬ e = 0) : riX z = (0, 0, 0, 0) := if_neg (fun x => hn (h.symm.trans x))
theorem riX_ok {z : Int} (h : riE z = 0) : riX z = (z / 4096, z / 512 % 8, z / 64 % 8, z % 64) := if_pos h
theorem ri_way {z : Int} (h : 0 ≤ z ∧ z ≤ 65535) :
    (riE z = 3 ∧ riX z = (0, 0, 0, 0) ∧ ¬ iE (z / 4096) (z / 512 % 8) (z / 64 % 8) (z % 64) = 0) ∨
    (riE z = 0 ∧ riX z = (z / 4096, z / 512 % 8, z / 64 % 8, z % 64) ∧ iE (z / 4096) (z / 512 % 8) (z / 64 % 8) (z % 64) = 0) := by
  by_cases hk : iE (z / 4096) (z / 512 % 8) (z / 64 % 8) (z % 64) = 0
  · have hr := riE_mk h hk
    exact .inr ⟨hr, riX_ok hr, hk⟩
  · have hr := riE_bad h hk
    exact .inl ⟨hr, riX_bad hr (by decide), hk⟩

set_option maxHeartbeats 2000000 in
theorem cRead_any (z : Int) (w : World) :
    Calls Try.prog 9 #[.int .i64 z] w fun e w' => (∃ k a b i, e = .returned (.tuple #[.agg #[.int .i64 k, .int .i64 a, .int .i64 b, .int .i64 i], .int .i64 (riE z)]) ∧ riX z = (k, a, b, i)) ∧ Below w.heap.size w w' := by
  by_cases z0 : z < 0
  · have hr : riE z = 2 := riE_out (by omega)
    have HO : Hid (riX z = (0, 0, 0, 0)) := riX_bad hr (by decide)
    rw [hr]
    clear hr
    go_enter Try.func9, Try.ntmps9
    go_wp2
    refine bodyPost_ret (v := .tuple #[.agg #[.int .i64 0, .int .i64 0, .int .i64 0, .int .i64 0], .int .i64 2]) (by simp [results, Try.results9, go_sem]) rfl ⟨⟨_, _, _, _, rfl, HO.out⟩, ?_⟩
    exact bel_alloc (Below.refl _ _) _
  by_cases z1 : 65535 < z
  · have hr : riE z = 2 := riE_out (by omega)
    have HO : Hid (riX z = (0, 0, 0, 0)) := riX_bad hr (by decide)
    rw [hr]
    clear hr
    go_enter Try.func9, Try.ntmps9
    go_wp2
    refine bodyPost_ret (v := .tuple #[.agg #[.int .i64 0, .int .i64 0, .int .i64 0, .int .i64 0], .int .i64 2]) (by simp [results, Try.results9, go_sem]) rfl ⟨⟨_, _, _, _, rfl, HO.out⟩, ?_⟩
    exact bel_alloc (Below.refl _ _) _
  have hz : 0 ≤ z ∧ z ≤ 65535 := by omega
  have hway := ri_way hz
  obtain ⟨h0, h1⟩ := hz
  obtain ⟨eo, heo⟩ : ∃ eo, iE (z / 4096) (z / 512 % 8) (z / 64 % 8) (z % 64) = eo := ⟨_, rfl⟩
  rw [heo] at hway
  have HW : Hid _ := hway
  have HE : Hid _ := heo
  clear hway heo
  go_enter Try.func9, Try.ntmps9
  go_wp2_with fail
  refine (cPut_any _ _ _ _ _).mono ?_
  rintro e w1 ⟨rfl, b1⟩
  rw [HE.out]
  have X0 := (Box.newAt (n := w.heap.size) (by simp) 23 #[.int .i64 0, .int .i64 0, .int .i64 0, .int .i64 0]).past (.cells #[.int .i64 (z / 4096), .int .i64 (z / 512 % 8), .int .i64 (z / 64 % 8), .int .i64 (z % 64)] 23) |>.keep b1
  have X1 := (Box.newAt (w := w.alloc (.cells #[.int .i64 0, .int .i64 0, .int .i64 0, .int .i64 0] 23)) (n := w.heap.size + 1) (by simp) 23 #[.int .i64 (z / 4096), .int .i64 (z / 512 % 8), .int .i64 (z / 64 % 8), .int .i64 (z % 64)]).keep b1
  have B1 : Hid (Below w.heap.size w w1) := bel_trans (bel_alloc (bel_alloc (Below.refl _ _) _) _) b1
  clear b1
  obtain ⟨u0, u1, u2, u3, g0, g1, g2, g3, s0⟩ := X0.four
  obtain ⟨q0, q1, q2, q3, -, -, -, -, s1⟩ := X1.four
  clear X0 X1
  rcases HW.out with ⟨hr, ho, hk⟩ | ⟨hr, ho, hk⟩
  · have HR : Hid _ := hr
    have HO : Hid _ := ho
    have hq : (eo != 0) = true := by simpa using hk
    clear hr ho HW HE hk
    go_wp2
    refine bodyPost_ret (v := .tuple #[.agg #[.int .i64 0, .int .i64 0, .int .i64 0, .int .i64 0], .int .i64 3]) (by simp [results, Try.results9, go_sem, *]) rfl ⟨⟨_, _, _, _, by rw [HR.out], HO.out⟩, ?_⟩
    exact bel_set4 (by omega) B1.out _ _ _ _
  · have HR : Hid _ := hr
    have HO : Hid _ := ho
    clear hr ho HW HE
    subst hk
    go_wp2
    refine bodyPost_ret (v := .tuple #[.agg #[.int .i64 (z / 4096), .int .i64 (z / 512 % 8), .int .i64 (z / 64 % 8), .int .i64 (z % 64)], .int .i64 0]) (by simp [results, Try.results9, go_sem, *]) rfl ⟨⟨_, _, _, _, by rw [HR.out], HO.out⟩, ?_⟩
    exact bel_set4 (by omega) B1.out _ _ _ _
set_option maxHeartbeats 2000000 in
theorem insOf_any (z : Int) (w : World) :
    Calls Try.prog 11 #[.int .i64 z] w fun e w' => (∃ k a b i, e = .returned (.tuple #[.agg #[.int .i64 k, .int .i64 a, .int .i64 b, .int .i64 i], .int .i64 (riE z)]) ∧ riX z = (k, a, b, i)) ∧ Below w.heap.size w w' := by
  cases hw : betweenB 0 65535 z
  · have hr : riE z = 2 := riE_out (of_decide_eq_false hw)
    have HO : Hid (riX z = (0, 0, 0, 0)) := riX_bad hr (by decide)
    rw [hr]
    clear hr
    go_enter Try.func11, Try.ntmps11
    go_wp2_with (first | (go_at_call 32; refine (in_any _ _ _ _).mono ?_; rintro e w1 ⟨rfl, rfl⟩; rw [hw]))
    refine bodyPost_ret (v := .tuple #[.agg #[.int .i64 0, .int .i64 0, .int .i64 0, .int .i64 0], .int .i64 2]) (by simp [results, Try.results11, go_sem]) rfl ⟨⟨_, _, _, _, rfl, HO.out⟩, ?_⟩
    exact bel_alloc (Below.refl _ _) _
  have hz := of_between hw
  have hway := ri_way hz
  obtain ⟨h0, h1⟩ := hz
  obtain ⟨eo, heo⟩ : ∃ eo, iE (z / 4096) (z / 512 % 8) (z / 64 % 8) (z % 64) = eo := ⟨_, rfl⟩
  rw [heo] at hway
  have HW : Hid _ := hway
  have HE : Hid _ := heo
  clear hway heo
  go_enter Try.func11, Try.ntmps11
  go_wp2_with (first | (go_at_call 32; refine (in_any _ _ _ _).mono ?_; rintro e w1 ⟨rfl, rfl⟩; rw [hw]))
  refine (insWord_any _ _ _ _ _).mono ?_
  rintro e w1 ⟨rfl, b1⟩
  rw [HE.out]
  have X0 := (Box.newAt (n := w.heap.size) (by simp) 23 #[.int .i64 0, .int .i64 0, .int .i64 0, .int .i64 0]).past (.cells #[.int .i64 (z / 4096), .int .i64 (z / 512 % 8), .int .i64 (z / 64 % 8), .int .i64 (z % 64)] 23) |>.keep b1
  have X1 := (Box.newAt (w := w.alloc (.cells #[.int .i64 0, .int .i64 0, .int .i64 0, .int .i64 0] 23)) (n := w.heap.size + 1) (by simp) 23 #[.int .i64 (z / 4096), .int .i64 (z / 512 % 8), .int .i64 (z / 64 % 8), .int .i64 (z % 64)]).keep b1
  have B1 : Hid (Below w.heap.size w w1) := bel_trans (bel_alloc (bel_alloc (Below.refl _ _) _) _) b1
  clear b1
  obtain ⟨u0, u1, u2, u3, g0, g1, g2, g3, s0⟩ := X0.four
  obtain ⟨q0, q1, q2, q3, -, -, -, -, s1⟩ := X1.four
  clear X0 X1
  rcases HW.out with ⟨hr, ho, hk⟩ | ⟨hr, ho, hk⟩
  · have HR : Hid _ := hr
    have HO : Hid _ := ho
    have hq : (eo != 0) = true := by simpa using hk
    clear hr ho HW HE hk
    go_wp2
    refine bodyPost_ret (v := .tuple #[.agg #[.int .i64 0, .int .i64 0, .int .i64 0, .int .i64 0], .int .i64 3]) (by simp [results, Try.results11, go_sem, *]) rfl ⟨⟨_, _, _, _, by rw [HR.out], HO.out⟩, ?_⟩
    exact bel_set4 (by omega) B1.out _ _ _ _
  · have HR : Hid _ := hr
    have HO : Hid _ := ho
    clear hr ho HW HE
    subst hk
    go_wp2
    refine bodyPost_ret (v := .tuple #[.agg #[.int .i64 (z / 4096), .int .i64 (z / 512 % 8), .int .i64 (z / 64 % 8), .int .i64 (z % 64)], .int .i64 0]) (by simp [results, Try.results11, go_sem, *]) rfl ⟨⟨_, _, _, _, by rw [HR.out], HO.out⟩, ?_⟩
    exact bel_set4 (by omega) B1.out _ _ _ _
end Go.Proofs.Ytfbmmiikhkmpfac
/-
  The closed fact drawbridgelaw.coded; the answers where they are known.
-/
namespace Go.Proofs.Ytfbmmiikhkmpfac
open Go.RowKit

theorem cRead_at {z k a b i e1 : Int} {w : World} (hE : riE z = e1) (hO : riX z = (k, a, b, i)) :
    Calls Try.prog 9 #[.int .i64 z] w fun e w' => e = .returned (.tuple #[.agg #[.int .i64 k, .int .i64 a, .int .i64 b, .int .i64 i], .int .i64 e1]) ∧ Below w.heap.size w w' := by
  refine (cRead_any z w).mono ?_
  rintro e w' ⟨⟨k', a', b', i', rfl, h⟩, hb⟩
  rw [hO] at h
  simp only [Prod.mk.injEq] at h
  obtain ⟨rfl, rfl, rfl, rfl⟩ := h
  rw [hE]
  exact ⟨rfl, hb⟩
theorem insOf_at {z k a b i e1 : Int} {w : World} (hE : riE z = e1) (hO : riX z = (k, a, b, i)) :
    Calls Try.prog 11 #[.int .i64 z] w fun e w' => e = .returned (.tuple #[.agg #[.int .i64 k, .int .i64 a, .int .i64 b, .int .i64 i], .int .i64 e1]) ∧ Below w.heap.size w w' := by
  refine (insOf_any z w).mono ?_
  rintro e w' ⟨⟨k', a', b', i', rfl, h⟩, hb⟩
  rw [hO] at h
  simp only [Prod.mk.injEq] at h
  obtain ⟨rfl, rfl, rfl, rfl⟩ := h
  rw [hE]
  exact ⟨rfl, hb⟩
theorem cPut_at {k a b i e1 z : Int} {w : World} (hE : iE k a b i = e1) (hW : iW k a b i = z) :
    Calls Try.prog 8 #[.agg #[.int .i64 k, .int .i64 a, .int .i64 b, .int .i64 i]] w fun e w' => e = .returned (.tuple #[.int .i64 z, .int .i64 e1]) ∧ Below w.heap.size w w' := by
  refine (cPut_any k a b i w).mono ?_
  rintro e w' ⟨rfl, hb⟩
  rw [hE, hW]
  exact ⟨rfl, hb⟩
theorem insWord_at {k a b i e1 z : Int} {w : World} (hE : iE k a b i = e1) (hW : iW k a b i = z) :
    Calls Try.prog 10 #[.agg #[.int .i64 k, .int .i64 a, .int .i64 b, .int .i64 i]] w fun e w' => e = .returned (.tuple #[.int .i64 z, .int .i64 e1]) ∧ Below w.heap.size w w' := by
  refine (insWord_any k a b i w).mono ?_
  rintro e w' ⟨rfl, hb⟩
  rw [hE, hW]
  exact ⟨rfl, hb⟩

set_option maxHeartbeats 2000000 in
theorem coded_true (w : World) : Calls Try.prog 12 #[] w fun e w' => e = .returned (.bool true) ∧ Below w.heap.size w w' := by
  go_enter Try.func12, Try.ntmps12
  go_wp2_with fail
  refine (cPut_at (k := 5) (a := 1) (b := 2) (i := 5) (e1 := 0) (z := 21125) (by decide) (by decide)).mono ?_
  rintro e w1 ⟨rfl, b1⟩
  have X0 := (Box.newAt (w := w) (n := w.heap.size) rfl 23 #[.int .i64 5, .int .i64 1, .int .i64 2, .int .i64 5]).keep b1
  have B1 : Hid (Below w.heap.size w w1) := bel_trans (bel_alloc (Below.refl _ _) _) b1
  clear b1
  go_wp2_with fail
  refine (cRead_at (z := 21125) (k := 5) (a := 1) (b := 2) (i := 5) (e1 := 0) (by decide) (by decide)).mono ?_
  rintro e w2 ⟨rfl, b2⟩
  have X0 := X0.keep b2
  have B2 : Hid (Below w.heap.size w w2) := bel_trans B1.out b2
  clear b2 B1
  go_wp2_with fail
  refine (cRead_at (z := 1) (k := 0) (a := 0) (b := 0) (i := 0) (e1 := 3) (by decide) (by decide)).mono ?_
  rintro e w3 ⟨rfl, b3⟩
  have X0 := (X0.past _).keep b3
  have X1 := (Box.newAt (w := w2) (n := w2.heap.size) rfl 23 #[.int .i64 5, .int .i64 1, .int .i64 2, .int .i64 5]).keep b3
  have B3 : Hid (Below w.heap.size w w3) := bel_trans (bel_alloc B2.out _) b3
  clear b3 B2
  obtain ⟨q0, q1, q2, q3, -, -, -, -, l0⟩ := X0.four
  obtain ⟨p0, p1, p2, p3, -, -, -, -, l1⟩ := X1.four
  clear X0 X1
  go_wp2
  go_ret
  exact ⟨rfl, bel_alloc B3.out _⟩
end Go.Proofs.Ytfbmmiikhkmpfac
/-
  Package hart: do at every instruction; next: the state behind the instruction at which it is, or not; nothing that was there turns.
-/
namespace Go.Proofs.Ytfbmmiikhkmpfac
open Go.RowKit

theorem nextP_wrap {p : Int} (h0 : 0 ≤ p) (h1 : p < 512) : (IntKind.i64.wrap (p + 1)).tmod 512 = nextP p := by
  rw [wraps_i64 _ (by omega) (by omega), Int.tmod_eq_emod_of_nonneg (by omega)]; rfl

theorem hDo_any (am : Option Addr) (nm cm : Nat) (zs : List Int) (p : Int) (rs : List Int) (mo ba op oh ot fe fp fh ft : Int) (st lo : Bool) (ca : Option Addr) (ck cc : Nat) (l : List Ln) (k x y i : Int) (w : World) (hs : Sl w (.slice am nm cm) zs) (hL : Ls w (.slice ca ck cc) l) (hb : chkB ⟨mo, ba, l, op, oh, ot, st, fe, fp, fh, ft, lo⟩ = 0) (hz : chk zs = 0) (h8 : rs.length = 8) (hw : ∀ j, j < 8 → 0 ≤ nth rs j ∧ nth rs j ≤ 65535) (hi : iE k x y i = 0) :
    Calls Try.prog 49 #[.agg #[.slice am nm cm, .int .i64 (nextP p), .int .i64 (nth rs 0), .int .i64 (nth rs 1), .int .i64 (nth rs 2), .int .i64 (nth rs 3), .int .i64 (nth rs 4), .int .i64 (nth rs 5), .int .i64 (nth rs 6), .int .i64 (nth rs 7), .int .i64 mo, .int .i64 ba, .slice ca ck cc, .int .i64 op, .int .i64 oh, .int .i64 ot, .bool st, .int .i64 fe, .int .i64 fp, .int .i64 fh, .int .i64 ft, .bool lo], .agg #[.int .i64 k, .int .i64 x, .int .i64 y, .int .i64 i]] w fun e w' => DoH am nm cm zs p rs mo ba op oh ot fe fp fh ft st lo ca ck cc l k x y i w e w' := by
  obtain ⟨hk, hx, hy, hii, -⟩ := iE_ok hi
  have parts : k = 0 ∨ k = 1 ∨ k = 2 ∨ k = 3 ∨ k = 4 ∨ k = 5 ∨ k = 6 ∨ k = 7 ∨ k = 8 := by omega
  rcases parts with rfl | rfl | rfl | rfl | rfl | rfl | rfl | rfl | rfl
  · exact do_0 am nm cm zs p rs mo ba op oh ot fe fp fh ft st lo ca ck cc l x y i w hs hL hb hz h8 hw hx hy hii
  · exact do_1 am nm cm zs p rs mo ba op oh ot fe fp fh ft st lo ca ck cc l x y i w hs hL hb hz h8 hw hx hy hii
  · exact do_2 am nm cm zs p rs mo ba op oh ot fe fp fh ft st lo ca ck cc l x y i w hs hL hb hz h8 hw hx hy hii
  · exact do_3 am nm cm zs p rs mo ba op oh ot fe fp fh ft st lo ca ck cc l x y i w hs hL hb hz h8 hw hx hy hii
  · exact do_4 am nm cm zs p rs mo ba op oh ot fe fp fh ft st lo ca ck cc l x y i w hs hL hb hz h8 hw hx hy hii
  · exact do_5 am nm cm zs p rs mo ba op oh ot fe fp fh ft st lo ca ck cc l x y i w hs hL hb hz h8 hw hx hy hii
  · exact do_6 am nm cm zs p rs mo ba op oh ot fe fp fh ft st lo ca ck cc l x y i w hs hL hb hz h8 hw hx hy hii
  · exact do_7 am nm cm zs p rs mo ba op oh ot fe fp fh ft st lo ca ck cc l x y i w hs hL hb hz h8 hw hx hy hii
  · exact do_8 am nm cm zs p rs mo ba op oh ot fe fp fh ft st lo ca ck cc l x y i w hs hL hb hz h8 hw hx hy hii

/-- What next answers. -/
abbrev NextH (am : Option Addr) (nm cm : Nat) (zs : List Int) (p : Int) (rs : List Int) (mo ba op oh ot fe fp fh ft : Int) (st lo : Bool) (ca : Option Addr) (ck cc : Nat) (l : List Ln) (w : World) (e : Ending) (w' : World) : Prop :=
  ∃ ok a1 n1 c1 pc1 rs1 mo1 ba1 op1 oh1 ot1 fe1 fp1 fh1 ft1 st1 lo1 ca1 ck1 cc1, e = .returned (.tuple #[.agg #[.slice a1 n1 c1, .int .i64 pc1, .int .i64 (nth rs1 0), .int .i64 (nth rs1 1), .int .i64 (nth rs1 2), .int .i64 (nth rs1 3), .int .i64 (nth rs1 4), .int .i64 (nth rs1 5), .int .i64 (nth rs1 6), .int .i64 (nth rs1 7), .int .i64 mo1, .int .i64 ba1, .slice ca1 ck1 cc1, .int .i64 op1, .int .i64 oh1, .int .i64 ot1, .bool st1, .int .i64 fe1, .int .i64 fp1, .int .i64 fh1, .int .i64 ft1, .bool lo1], .bool ok]) ∧
    (ok = false → goS zs ⟨p, rs, false⟩ ⟨mo, ba, l, op, oh, ot, st, fe, fp, fh, ft, lo⟩ = stand zs ⟨p, rs, false⟩ ⟨mo, ba, l, op, oh, ot, st, fe, fp, fh, ft, lo⟩) ∧
    (ok = true → ∃ zs1, goS zs ⟨p, rs, false⟩ ⟨mo, ba, l, op, oh, ot, st, fe, fp, fh, ft, lo⟩ = (zs1, ⟨pc1, rs1, false⟩, ⟨mo1, ba1, l, op1, oh1, ot1, st1, fe1, fp1, fh1, ft1, lo1⟩) ∧ rs1.length = 8 ∧ Value.slice ca ck cc = .slice ca1 ck1 cc1 ∧
      ((Value.slice am nm cm = .slice a1 n1 c1 ∧ zs1 = zs) ∨ (Sl w' (.slice a1 n1 c1) zs1 ∧ Fresh w.heap.size (.slice a1 n1 c1)))) ∧ Below w.heap.size w w'

set_option maxRecDepth 10000 in
set_option maxHeartbeats 4000000 in
theorem hNext_any (am : Option Addr) (nm cm : Nat) (zs : List Int) (p : Int) (rs : List Int) (mo ba op oh ot fe fp fh ft : Int) (st lo : Bool) (ca : Option Addr) (ck cc : Nat) (l : List Ln) (w : World) (hs : Sl w (.slice am nm cm) zs) (hL : Ls w (.slice ca ck cc) l) (hb : chkB ⟨mo, ba, l, op, oh, ot, st, fe, fp, fh, ft, lo⟩ = 0) (hz : chk zs = 0) (h8 : rs.length = 8) (hw : ∀ j, j < 8 → 0 ≤ nth rs j ∧ nth rs j ≤ 65535) (hp : 0 ≤ p ∧ p < 512) :
    Calls Try.prog 36 #[.agg #[.slice am nm cm, .int .i64 p, .int .i64 (nth rs 0), .int .i64 (nth rs 1), .int .i64 (nth rs 2), .int .i64 (nth rs 3), .int .i64 (nth rs 4), .int .i64 (nth rs 5), .int .i64 (nth rs 6), .int .i64 (nth rs 7), .int .i64 mo, .int .i64 ba, .slice ca ck cc, .int .i64 op, .int .i64 oh, .int .i64 ot, .bool st, .int .i64 fe, .int .i64 fp, .int .i64 fh, .int .i64 ft, .bool lo]] w fun e w' => NextH am nm cm zs p rs mo ba op oh ot fe fp fh ft st lo ca ck cc l w e w' := by
  have HL : Hid (Ls w (.slice ca ck cc) l) := hL
  have HB : Hid (chkB ⟨mo, ba, l, op, oh, ot, st, fe, fp, fh, ft, lo⟩ = 0) := hb
  have HZ : Hid (chk zs = 0) := hz
  have H8 : Hid (rs.length = 8) := h8
  have HW : Hid (∀ j, j < 8 → 0 ≤ nth rs j ∧ nth rs j ≤ 65535) := hw
  have HM : Hid (Sl w (.slice am nm cm) zs) := hs
  obtain ⟨b, o, cap, hv, hbb, hcs⟩ := hs.open512 (chk_ok hz).1
  simp only [Value.slice.injEq] at hv
  obtain ⟨rfl, rfl, rfl⟩ := hv
  obtain ⟨hp0, hp1⟩ := hp
  have gz := hcs p.toNat (by omega)
  obtain ⟨z, hzz⟩ : ∃ z, nth zs p.toNat = z := ⟨_, rfl⟩
  rw [hzz] at gz
  have HI : Hid (insW zs ⟨p, rs, false⟩ = z) := hzz
  obtain ⟨e2, hE2⟩ : ∃ e2, riE z = e2 := ⟨_, rfl⟩
  obtain ⟨k, x, y, i, hX2⟩ : ∃ k x y i, riX z = (k, x, y, i) := ⟨_, _, _, _, rfl⟩
  have HE2 : Hid _ := hE2
  have HX2 : Hid _ := hX2
  have HPN : Hid ((IntKind.i64.wrap (p + 1)).tmod 512 = nextP p) := nextP_wrap hp0 hp1
  clear hE2 hX2 hcs hzz hs hL hb hz h8 hw
  have X0 := (Box.newAt (w := w) (n := w.heap.size) rfl 66 #[.slice (some ⟨b, o, none⟩) 512 cm, .int .i64 p, .int .i64 (nth rs 0), .int .i64 (nth rs 1), .int .i64 (nth rs 2), .int .i64 (nth rs 3), .int .i64 (nth rs 4), .int .i64 (nth rs 5), .int .i64 (nth rs 6), .int .i64 (nth rs 7), .int .i64 mo, .int .i64 ba, .slice ca ck cc, .int .i64 op, .int .i64 oh, .int .i64 ot, .bool st, .int .i64 fe, .int .i64 fp, .int .i64 fh, .int .i64 ft, .bool lo]).past (.cells #[.slice none 0 0, .int .i64 0, .int .i64 0, .int .i64 0, .int .i64 0, .int .i64 0, .int .i64 0, .int .i64 0, .int .i64 0, .int .i64 0, .int .i64 0, .int .i64 0, .slice none 0 0, .int .i64 0, .int .i64 0, .int .i64 0, .bool false, .int .i64 0, .int .i64 0, .int .i64 0, .int .i64 0, .bool false] 66)
  have X1 := Box.newAt (w := w.alloc (.cells #[.slice (some ⟨b, o, none⟩) 512 cm, .int .i64 p, .int .i64 (nth rs 0), .int .i64 (nth rs 1), .int .i64 (nth rs 2), .int .i64 (nth rs 3), .int .i64 (nth rs 4), .int .i64 (nth rs 5), .int .i64 (nth rs 6), .int .i64 (nth rs 7), .int .i64 mo, .int .i64 ba, .slice ca ck cc, .int .i64 op, .int .i64 oh, .int .i64 ot, .bool st, .int .i64 fe, .int .i64 fp, .int .i64 fh, .int .i64 ft, .bool lo] 66)) (n := w.heap.size + 1) (by simp) 66 #[.slice none 0 0, .int .i64 0, .int .i64 0, .int .i64 0, .int .i64 0, .int .i64 0, .int .i64 0, .int .i64 0, .int .i64 0, .int .i64 0, .int .i64 0, .int .i64 0, .slice none 0 0, .int .i64 0, .int .i64 0, .int .i64 0, .bool false, .int .i64 0, .int .i64 0, .int .i64 0, .int .i64 0, .bool false]
  have B0 : Hid (Below w.heap.size w _) := bel_alloc (bel_alloc (Below.refl w.heap.size w) (.cells #[.slice (some ⟨b, o, none⟩) 512 cm, .int .i64 p, .int .i64 (nth rs 0), .int .i64 (nth rs 1), .int .i64 (nth rs 2), .int .i64 (nth rs 3), .int .i64 (nth rs 4), .int .i64 (nth rs 5), .int .i64 (nth rs 6), .int .i64 (nth rs 7), .int .i64 mo, .int .i64 ba, .slice ca ck cc, .int .i64 op, .int .i64 oh, .int .i64 ot, .bool st, .int .i64 fe, .int .i64 fp, .int .i64 fh, .int .i64 ft, .bool lo] 66)) (.cells #[.slice none 0 0, .int .i64 0, .int .i64 0, .int .i64 0, .int .i64 0, .int .i64 0, .int .i64 0, .int .i64 0, .int .i64 0, .int .i64 0, .int .i64 0, .int .i64 0, .slice none 0 0, .int .i64 0, .int .i64 0, .int .i64 0, .bool false, .int .i64 0, .int .i64 0, .int .i64 0, .int .i64 0, .bool false] 66)
  have W2 : Hid (((w.alloc (.cells #[.slice (some ⟨b, o, none⟩) 512 cm, .int .i64 p, .int .i64 (nth rs 0), .int .i64 (nth rs 1), .int .i64 (nth rs 2), .int .i64 (nth rs 3), .int .i64 (nth rs 4), .int .i64 (nth rs 5), .int .i64 (nth rs 6), .int .i64 (nth rs 7), .int .i64 mo, .int .i64 ba, .slice ca ck cc, .int .i64 op, .int .i64 oh, .int .i64 ot, .bool st, .int .i64 fe, .int .i64 fp, .int .i64 fh, .int .i64 ft, .bool lo] 66)).alloc (.cells #[.slice none 0 0, .int .i64 0, .int .i64 0, .int .i64 0, .int .i64 0, .int .i64 0, .int .i64 0, .int .i64 0, .int .i64 0, .int .i64 0, .int .i64 0, .int .i64 0, .slice none 0 0, .int .i64 0, .int .i64 0, .int .i64 0, .bool false, .int .i64 0, .int .i64 0, .int .i64 0, .int .i64 0, .bool false] 66)).heap.size = w.heap.size + 1 + 1) := by show _ = _; simp
  go_enter Try.func36, Try.ntmps36
  go_upto_region 1 with fail
  generalize ((w.alloc (.cells #[.slice (some ⟨b, o, none⟩) 512 cm, .int .i64 p, .int .i64 (nth rs 0), .int .i64 (nth rs 1), .int .i64 (nth rs 2), .int .i64 (nth rs 3), .int .i64 (nth rs 4), .int .i64 (nth rs 5), .int .i64 (nth rs 6), .int .i64 (nth rs 7), .int .i64 mo, .int .i64 ba, .slice ca ck cc, .int .i64 op, .int .i64 oh, .int .i64 ot, .bool st, .int .i64 fe, .int .i64 fp, .int .i64 fh, .int .i64 ft, .bool lo] 66)).alloc (.cells #[.slice none 0 0, .int .i64 0, .int .i64 0, .int .i64 0, .int .i64 0, .int .i64 0, .int .i64 0, .int .i64 0, .int .i64 0, .int .i64 0, .int .i64 0, .int .i64 0, .slice none 0 0, .int .i64 0, .int .i64 0, .int .i64 0, .bool false, .int .i64 0, .int .i64 0, .int .i64 0, .int .i64 0, .bool false] 66)) = W at *
  obtain ⟨⟨q0, q1, -⟩, -, s0⟩ := X0.state0
  rw [← B0.out.cell (p := ⟨b, o + p.toNat, none⟩) hbb] at gz
  have hbW : b < W.heap.size := Nat.lt_of_lt_of_le hbb B0.out.size
  go_wp2_with fail
  refine (cRead_at HE2.out HX2.out).mono ?_
  rintro e w1 ⟨rfl, b1⟩
  have X0 := (X0.keep b1).past (.cells #[.int .i64 k, .int .i64 x, .int .i64 y, .int .i64 i] 23)
  have X1 := (X1.keep b1).past (.cells #[.int .i64 k, .int .i64 x, .int .i64 y, .int .i64 i] 23)
  have XI := Box.newAt (w := w1) (n := w1.heap.size) rfl 23 #[.int .i64 k, .int .i64 x, .int .i64 y, .int .i64 i]
  have B1 : Hid (Below w.heap.size w (w1.alloc (.cells #[.int .i64 k, .int .i64 x, .int .i64 y, .int .i64 i] 23))) := bel_alloc (bel_trans B0.out b1) _
  have z1 : w.heap.size + 1 + 1 ≤ w1.heap.size := by have := b1.size; have := W2.out; omega
  clear gz q0 q1 s0 b1 B0 hbW
  by_cases h2 : e2 = 0
  rotate_left
  · have hq : (e2 != 0) = true := by simpa using h2
    have HT : Hid (goS zs ⟨p, rs, false⟩ ⟨mo, ba, l, op, oh, ot, st, fe, fp, fh, ft, lo⟩ = stand zs ⟨p, rs, false⟩ ⟨mo, ba, l, op, oh, ot, st, fe, fp, fh, ft, lo⟩) := by
      show _ = _
      rw [goS, HI.out, if_neg (by rw [HE2.out]; exact h2)]
    clear h2 HE2 HX2 X0 XI
    go_upto_region 3 with fail
    generalize (w1.alloc (.cells #[.int .i64 k, .int .i64 x, .int .i64 y, .int .i64 i] 23)) = W1 at *
    go_wp2_with (first
      | (refine wpList_store_row rfl 66 (.tmp 2) (.tmp 19) rfl (w.heap.size + 1) _ rfl rfl _ _ X1 infoState rfl (stateOne _ _ _ _ _ _ _ _ _ _ _ _ _ _ _ _ _ _ _ _ _ _ _ _ _ _) ?_))
    have hl := Box.loadState (X1.setRow #[.slice none 0 0, .int .i64 0, .int .i64 0, .int .i64 0, .int .i64 0, .int .i64 0, .int .i64 0, .int .i64 0, .int .i64 0, .int .i64 0, .int .i64 0, .int .i64 0, .slice none 0 0, .int .i64 0, .int .i64 0, .int .i64 0, .bool false, .int .i64 0, .int .i64 0, .int .i64 0, .int .i64 0, .bool false]) rfl
    refine bodyPost_ret (v := .tuple #[.agg #[.slice none 0 0, .int .i64 0, .int .i64 0, .int .i64 0, .int .i64 0, .int .i64 0, .int .i64 0, .int .i64 0, .int .i64 0, .int .i64 0, .int .i64 0, .int .i64 0, .slice none 0 0, .int .i64 0, .int .i64 0, .int .i64 0, .bool false, .int .i64 0, .int .i64 0, .int .i64 0, .int .i64 0, .bool false], .bool false]) (by simp [results, Try.results36, asAddr, hl]) rfl ⟨false, none, 0, 0, 0, List.replicate 8 0, _, _, _, _, _, _, _, _, _, _, _, none, 0, 0, rfl, fun _ => HT.out, fun h => (by cases h), bel_setRow (by omega) B1.out _⟩
  subst h2
  have HIE : Hid (iE k x y i = 0) := (i_read HE2.out HX2.out).1
  have HT : Hid (goS zs ⟨p, rs, false⟩ ⟨mo, ba, l, op, oh, ot, st, fe, fp, fh, ft, lo⟩ = exeI zs ⟨p, rs, false⟩ ⟨mo, ba, l, op, oh, ot, st, fe, fp, fh, ft, lo⟩ k x y i) := by
    show _ = _
    rw [goS, HI.out, if_pos HE2.out, HX2.out]
  obtain ⟨pc, hpc⟩ : ∃ pc, nextP p = pc := ⟨_, rfl⟩
  have HPC : Hid (nextP p = pc) := hpc
  have hPN : (IntKind.i64.wrap (p + 1)).tmod 512 = pc := by rw [HPN.out, hpc]
  have Y0 := Box.set X0 1 (.int .i64 pc)
  have Y0 : Box ((w1.alloc (.cells #[.int .i64 k, .int .i64 x, .int .i64 y, .int .i64 i] 23)).setCell ⟨w.heap.size, 1, none⟩ (.int .i64 pc)) w.heap.size 66 #[.slice (some ⟨b, o, none⟩) 512 cm, .int .i64 pc, .int .i64 (nth rs 0), .int .i64 (nth rs 1), .int .i64 (nth rs 2), .int .i64 (nth rs 3), .int .i64 (nth rs 4), .int .i64 (nth rs 5), .int .i64 (nth rs 6), .int .i64 (nth rs 7), .int .i64 mo, .int .i64 ba, .slice ca ck cc, .int .i64 op, .int .i64 oh, .int .i64 ot, .bool st, .int .i64 fe, .int .i64 fp, .int .i64 fh, .int .i64 ft, .bool lo] := Y0
  have Y1 := X1.other (p := ⟨w.heap.size, 1, none⟩) (by show w.heap.size + 1 ≠ w.heap.size; omega) (.int .i64 pc)
  have YI := XI.other (p := ⟨w.heap.size, 1, none⟩) (by show w1.heap.size ≠ w.heap.size; omega) (.int .i64 pc)
  have B2 : Hid (Below w.heap.size w ((w1.alloc (.cells #[.int .i64 k, .int .i64 x, .int .i64 y, .int .i64 i] 23)).setCell ⟨w.heap.size, 1, none⟩ (.int .i64 pc))) := bel_set (by show w.heap.size ≤ w.heap.size; omega) B1.out _
  have Z2 : Hid (w.heap.size + 1 + 1 ≤ ((w1.alloc (.cells #[.int .i64 k, .int .i64 x, .int .i64 y, .int .i64 i] 23)).setCell ⟨w.heap.size, 1, none⟩ (.int .i64 pc)).heap.size) := by show _ ≤ _; have := Y1.lt; omega
  have hwr : IntKind.i64.wrap (p + 1) = p + 1 := wraps_i64 _ (by omega) (by omega)
  have hpm : (p + 1) % 512 = pc := hpc
  obtain ⟨⟨q0, q1, -⟩, -, s0⟩ := X0.state0
  have fx := X0.marksAll
  clear HE2 HX2 hpc hPN
  go_upto_region 5 with fail
  clear q0 q1 s0 fx X0 X1 XI B1
  generalize w1.heap.size = N1 at *
  generalize ((w1.alloc (.cells #[.int .i64 k, .int .i64 x, .int .i64 y, .int .i64 i] 23)).setCell ⟨w.heap.size, 1, none⟩ (.int .i64 pc)) = W2 at *
  obtain ⟨i0, i1, i2, i3, -, -, -, -, s1⟩ := YI.four
  have hDo := hDo_any (some ⟨b, o, none⟩) 512 cm zs p rs mo ba op oh ot fe fp fh ft st lo ca ck cc l k x y i W2 (HM.out.keep B2.out) (HL.out.keep B2.out) HB.out HZ.out H8.out HW.out HIE.out
  rw [HPC.out] at hDo
  go_wp2_with (first
    | (refine wpList_load_row rfl 66 (.tmp 1) rfl w.heap.size rfl _ _ _ _ Y0 Try.underlying66 rfl infoState ?_))
  refine hDo.mono ?_
  rintro e w5 ⟨ok, a1, n1, c1, pc1, rs1, mo1, ba1, op1, oh1, ot1, fe1, fp1, fh1, ft1, st1, lo1, ca1, ck1, cc1, rfl, hno, hyes, b5⟩
  have HNO : Hid _ := hno
  have HYES : Hid _ := hyes
  have Y1 := Y1.keep b5
  have B6 : Hid (Below w.heap.size w w5) := bel_trans B2.out b5
  clear hno hyes b5 Y0 YI i0 i1 i2 i3 s1 hDo hpm hwr
  go_wp2_with (first
    | (refine wpList_store_row rfl 66 (.tmp 2) (.tmp 28) rfl (w.heap.size + 1) _ rfl rfl _ _ Y1 infoState rfl (stateOne _ _ _ _ _ _ _ _ _ _ _ _ _ _ _ _ _ _ _ _ _ _ _ _ _ _) ?_))
  have hl := Box.loadState (Y1.setRow #[.slice a1 n1 c1, .int .i64 pc1, .int .i64 (nth rs1 0), .int .i64 (nth rs1 1), .int .i64 (nth rs1 2), .int .i64 (nth rs1 3), .int .i64 (nth rs1 4), .int .i64 (nth rs1 5), .int .i64 (nth rs1 6), .int .i64 (nth rs1 7), .int .i64 mo1, .int .i64 ba1, .slice ca1 ck1 cc1, .int .i64 op1, .int .i64 oh1, .int .i64 ot1, .bool st1, .int .i64 fe1, .int .i64 fp1, .int .i64 fh1, .int .i64 ft1, .bool lo1]) rfl
  refine bodyPost_ret (v := .tuple #[.agg #[.slice a1 n1 c1, .int .i64 pc1, .int .i64 (nth rs1 0), .int .i64 (nth rs1 1), .int .i64 (nth rs1 2), .int .i64 (nth rs1 3), .int .i64 (nth rs1 4), .int .i64 (nth rs1 5), .int .i64 (nth rs1 6), .int .i64 (nth rs1 7), .int .i64 mo1, .int .i64 ba1, .slice ca1 ck1 cc1, .int .i64 op1, .int .i64 oh1, .int .i64 ot1, .bool st1, .int .i64 fe1, .int .i64 fp1, .int .i64 fh1, .int .i64 ft1, .bool lo1], .bool ok]) (by simp [results, Try.results36, asAddr, hl]) rfl ⟨ok, a1, n1, c1, pc1, rs1, mo1, ba1, op1, oh1, ot1, fe1, fp1, fh1, ft1, st1, lo1, ca1, ck1, cc1, rfl, fun h => by rw [HT.out]; exact HNO.out h, fun h => ?_, bel_setRow (by omega) B6.out _⟩
  obtain ⟨zs1, g1, g2, g3, g4⟩ := HYES.out h
  refine ⟨zs1, by rw [HT.out]; exact g1, g2, g3, ?_⟩
  rcases g4 with g4 | ⟨g4, g5⟩
  · exact .inl g4
  · exact .inr ⟨g4.otherRow (g5.ne (by have := Z2.out; omega)) _, g5.mono (by have := Z2.out; omega)⟩
end Go.Proofs.Ytfbmmiikhkmpfac
/-
  append of numbers to a row of its own: what it gives, as an operation of a region, drawn or not.
-/
namespace Go.Proofs.Ytfbmmiikhkmpfac
open Go.RowKit

/-- A slice with its room. -/
def Slc (w : World) (v : Value) (l : List Int) : Prop := Sl w v l ∧ ∃ a c, v = .slice a l.length c ∧ l.length ≤ c ∧ c ≤ maxLen

/-- A row of its own that holds these numbers. -/
def OwnI (w : World) (base : Nat) (v : Value) (l : List Int) : Prop := w.ownsRow base 3 1 v l.length (l.map (fun z => Value.int .i64 z))

theorem OwnI.nothing (w : World) (base : Nat) : OwnI w base (.slice none 0 0) [] := World.ownsRow_nil w base _ _
theorem OwnI.alloc {w : World} {base : Nat} {v : Value} {l : List Int} (h : OwnI w base v l) (o : Obj) : OwnI (w.alloc o) base v l := World.ownsRow.alloc h o
theorem OwnI.drew {w : World} {base : Nat} {v : Value} {l : List Int} (h : OwnI w base v l) : OwnI w.drew base v l := h
/-- A row's block lies where the base is, or behind; and it is there. -/
theorem OwnI.base {w : World} {base : Nat} {v : Value} {l : List Int} (h : OwnI w base v l) : ∀ k, v.ownBlock = some k → base ≤ k := fun k hk => (World.ownsRow.lt h k hk).1
theorem OwnI.lt {w : World} {base : Nat} {v : Value} {l : List Int} (h : OwnI w base v l) : ∀ k, v.ownBlock = some k → k < w.heap.size := fun k hk => (World.ownsRow.lt h k hk).2
theorem OwnI.sl {w : World} {base : Nat} {v : Value} {l : List Int} (h : OwnI w base v l) (hm : l.length ≤ maxLen) : Sl w v l := by
  have h' := h
  rcases h.2 with ⟨rfl, h0⟩ | ⟨g, cap, cur, rfl, hb, hg, hnc, hcm, hcs, htake⟩
  · obtain rfl : l = [] := List.eq_nil_of_length_eq_zero h0
    exact Sl.nil w _ _
  · exact sl_owned h' hm
theorem OwnI.shape {w : World} {base : Nat} {v : Value} {l : List Int} (h : OwnI w base v l) : ∃ a c, v = .slice a l.length c := by
  rcases h.2 with ⟨rfl, h0⟩ | ⟨g, cap, cur, rfl, hb, hg, hnc, hcm, hcs, htake⟩
  · obtain rfl : l = [] := List.eq_nil_of_length_eq_zero h0
    exact ⟨_, _, rfl⟩
  · exact ⟨_, _, rfl⟩
/-- A world in which the row's block stands as it was. -/
theorem OwnI.keep {w w' : World} {base : Nat} {v : Value} {l : List Int} (h : OwnI w base v l) (hb : ∀ k, v.ownBlock = some k → w'.heap[k]? = w.heap[k]?) : OwnI w' base v l := by
  obtain ⟨h1, h2⟩ := h
  refine ⟨h1, ?_⟩
  rcases h2 with h2 | ⟨g, cap, cur, rfl, hb0, hg, r⟩
  · exact .inl h2
  · exact .inr ⟨g, cap, cur, rfl, hb0, by rw [hb g (by simp [Value.ownBlock])]; exact hg, r⟩

theorem run_append_I (w : World) (ty : TypeId) (base : Nat) (v x : Value) (l1 l2 : List Int) (hown : OwnI w base v l1) (hx : Sl w x l2) (hn : l1.length + l2.length ≤ 1000) (hbase : base ≤ w.heap.size) (hne : l2 ≠ []) :
    ∃ g cap w', (Builtin.append_ #[31, 31] ty #[v, x]).run Try.prog w = .ok (.slice (some ⟨g, 0, none⟩) (l1 ++ l2).length cap) w' ∧ OwnI w' base (.slice (some ⟨g, 0, none⟩) (l1 ++ l2).length cap) (l1 ++ l2) ∧ w.grownBy w' v.ownBlock ∧ (v.ownBlock = some g ∨ g = w.heap.size) := by
  obtain ⟨i, hi, hz, hsz, hby⟩ := infoInt
  obtain ⟨a, cap, rfl, hl, h⟩ := hx
  rcases h with rfl | ⟨b, o, rfl, hb, hc⟩
  · exact absurd rfl hne
  · have hpos : 0 < l2.length := List.length_pos_iff.2 hne
    obtain ⟨g, c, w', hr, ho, hgr, hat, _⟩ := run_append_lies (P := Try.prog) w 31 ty base 3 i _ 1 8 Try.underlying31 hi hz hsz hby rfl (by omega) v l1.length (l1.map (fun z => Value.int .i64 z)) hown ⟨b, o, none⟩ l2.length cap (l2.map (fun z => Value.int .i64 z)) (by simp)
      (fun j u hu => by
        rw [List.getElem?_map] at hu
        by_cases hj : j < l2.length
        · rw [List.getElem?_eq_getElem hj] at hu
          simp only [Option.map_some, Option.some.injEq] at hu
          have ha : Addr.add ⟨b, o, none⟩ j = ⟨b, o + j, none⟩ := by unfold Addr.add; split <;> simp_all
          rw [ha, hc j hj, ← hu]
          simp [nth, hj]
        · rw [List.getElem?_eq_none (by omega)] at hu
          simp at hu)
      (fun u hu => by
        obtain ⟨z, _, rfl⟩ := List.mem_map.1 hu
        rfl) hpos (by unfold maxLen; omega) (by omega) hbase w.heap.size rfl
    refine ⟨g, c, w', ?_, ?_, hgr, hat⟩
    · rw [List.length_append]; exact hr
    · unfold OwnI; rw [List.length_append, List.map_append]; exact ho

theorem wp_append_I {w : World} {o : Oper} {a : Act} {K : Act → World → Prop} {Q : Exit → Act → World → Prop} (s x : Operand)
    (ho : o.op = .call { callee := .builtin .append, args := #[s, x], argTypes := #[31, 31] })
    (base : Nat) (v u : Value) (l1 l2 : List Int) (hs : a.eval s = v) (hu : a.eval x = u) (hown : OwnI w base v l1) (hx : Sl w u l2) (hn : l1.length + l2.length ≤ 1000) (hbase : base ≤ w.heap.size) (hne : l2 ≠ [])
    (h : ∀ g cap w', OwnI w' base (.slice (some ⟨g, 0, none⟩) (l1 ++ l2).length cap) (l1 ++ l2) → w.grownBy w' v.ownBlock → Below base w w' → (v.ownBlock = some g ∨ g = w.heap.size) → K (a.put o.dst (.slice (some ⟨g, 0, none⟩) (l1 ++ l2).length cap)) w') : o.wp Try.prog a w K Q := by
  obtain ⟨g, cap, w', hr, h2, h3, h4⟩ := run_append_I w o.type base v u l1 l2 hown hx hn hbase hne
  unfold Oper.wp execOp
  simp only [ho, resolve, invoke, builtin, Sem.run_bind, Sem.run_pure, Result.andThen_ok, List.map_toArray, List.map_cons, List.map_nil, hs, hu, hr]
  exact h g cap w' h2 h3 ((Below.refl base w).grown h3 hbase hown.base) h4

theorem wpList_append_I {w : World} {ops : Array Oper} {rest : List Oper} {o : Oper} {a : Act} {Q : Exit → Act → World → Prop} (hgd : o.guard = none) (s x : Operand)
    (ho : o.op = .call { callee := .builtin .append, args := #[s, x], argTypes := #[31, 31] })
    (base : Nat) (v u : Value) (l1 l2 : List Int) (hs : a.eval s = v) (hu : a.eval x = u) (hown : OwnI w base v l1) (hx : Sl w u l2) (hn : l1.length + l2.length ≤ 1000) (hbase : base ≤ w.heap.size) (hne : l2 ≠ [])
    (h : ∀ g cap w', OwnI w' base (.slice (some ⟨g, 0, none⟩) (l1 ++ l2).length cap) (l1 ++ l2) → w.grownBy w' v.ownBlock → Below base w w' → (v.ownBlock = some g ∨ g = w.heap.size) → wpList Try.prog ops Q rest (a.put o.dst (.slice (some ⟨g, 0, none⟩) (l1 ++ l2).length cap)) w') :
    wpList Try.prog ops Q (o :: rest) a w :=
  wpList_plain hgd fun _ hK => wp_append_I s x ho base v u l1 l2 hs hu hown hx hn hbase hne fun g cap w' h2 h3 hb h4 => hK _ _ (h g cap w' h2 h3 hb h4)

theorem step_append_I {w : World} {ops : Array Oper} {o : Oper} {a : Act} {K : Act → World → Prop} {Q : Exit → Act → World → Prop} {E : Prop} (hgd : o.guard = none) (s x : Operand)
    (ho : o.op = .call { callee := .builtin .append, args := #[s, x], argTypes := #[31, 31] })
    (base : Nat) (v u : Value) (l1 l2 : List Int) (hs : a.eval s = v) (hu : a.eval x = u) (hown : OwnI w base v l1) (hx : Sl w u l2) (hn : l1.length + l2.length ≤ 1000) (hbase : base ≤ w.heap.size) (hne : l2 ≠ [])
    (h : ∀ g cap w', OwnI w' base (.slice (some ⟨g, 0, none⟩) (l1 ++ l2).length cap) (l1 ++ l2) → w.grownBy w' v.ownBlock → Below base w w' → (v.ownBlock = some g ∨ g = w.heap.size) → K (a.put o.dst (.slice (some ⟨g, 0, none⟩) (l1 ++ l2).length cap)) w') :
    if Region.wanted o (yielded ops a.tmps) = true then Oper.wp Try.prog o a w K Q else E := by
  have hw : Region.wanted o (yielded ops a.tmps) = true := by simp [Region.wanted, hgd]
  rw [if_pos hw]
  exact wp_append_I s x ho base v u l1 l2 hs hu hown hx hn hbase hne h

/-- A number in a block of its own, as a slice. -/
theorem sl_oneAt {w : World} {n : Nat} (h : n = w.heap.size) (z : Int) (fr : Nat × Nat) : Sl (w.alloc (.cells #[.int .i64 z] 3 fr)) (.slice (some ⟨n, 0, none⟩) 1 1) [z] :=
  sl_block (heap_at h) rfl rfl (by simp [maxLen])
/-- What an append leaves of other slices. -/
theorem Sl.grown {w w' : World} {v : Value} {l : List Int} {row : Option Nat} (h : Sl w v l) (hg : w.grownBy w' row) (hne : ∀ k, v.ownBlock = some k → row ≠ some k) : Sl w' v l := by
  obtain ⟨a', cap', rfl, hl, h⟩ := h
  refine ⟨a', cap', rfl, hl, ?_⟩
  rcases h with h | ⟨b, o, rfl, hb, hc⟩
  · exact .inl h
  · have hblk := hg.block b hb (fun e => hne b (by simp [Value.ownBlock]) e.symm)
    refine .inr ⟨b, o, rfl, Nat.lt_of_lt_of_le hb hg.size, fun i hi => ?_⟩
    rw [World.cell?_of_block (a := ⟨b, o + i, none⟩) hblk]
    exact hc i hi
end Go.Proofs.Ytfbmmiikhkmpfac
