/-
  Laid together: InsW2, InsW3, InsW4, InsWord, Code2, Coded, CodeBackWalk, Open0.
-/
import Derived.Test.YtjgopihlakehcacT1
import Derived.Deep.CutRange
import Derived.ProofKit
import Derived.OpenShut
import Derived.ShutString
import Derived.ChangeOld
/-
  What drawbridgeref's InsWord answers, by kind: the same as Put.
-/
namespace Go.Proofs.Ytjgopihlakehcac
open Go.RowKit

set_option maxHeartbeats 2000000 in
theorem insWord_3 (a b i : Int) (w : World) (ha : betweenB 0 7 a = true) (hb : betweenB 0 7 b = true) (hi : betweenB 0 63 i = true) :
    Calls Try.prog 7 #[.agg #[.int .i64 3, .int .i64 a, .int .i64 b, .int .i64 i]] w fun e w' => e = .returned (.tuple #[.int .i64 (iW 3 a b i), .int .i64 (iE 3 a b i)]) ∧ Below w.heap.size w w' := by
  obtain ⟨a0, a1⟩ := of_between ha
  obtain ⟨b0, b1⟩ := of_between hb
  obtain ⟨i0, i1⟩ := of_between hi
  have hk : betweenB 0 8 3 = true := by decide
  have he : iE 3 a b i = if fitI 3 a b i = true then 0 else 3 := iE_in (k := 3) (by decide) ⟨a0, a1⟩ ⟨b0, b1⟩ ⟨i0, i1⟩
  have ways : (¬ 0 < a ∧ ¬ 0 < b ∧ ¬ 0 < i) ∨ (¬ 0 < a ∧ ¬ 0 < b ∧ 0 < i) ∨ (¬ 0 < a ∧ 0 < b) ∨ (0 < a ∧ ¬ 0 < b ∧ ¬ 0 < i) ∨ (0 < a ∧ ¬ 0 < b ∧ 0 < i) ∨ (0 < a ∧ 0 < b) := by omega
  rcases ways with ⟨pa, pb, pi⟩ | ⟨pa, pb, pi⟩ | ⟨pa, pb⟩ | ⟨pa, pb, pi⟩ | ⟨pa, pb, pi⟩ | ⟨pa, pb⟩
  · have hf : fitI 3 a b i = true := by simp [fitI, useA, useB, useI]; omega
    rw [hf, if_pos rfl] at he
    rw [iW_ok he, he]
    clear he hf
    go_enter Try.func7, Try.ntmps7
    go_wp2_with (first | (go_at_call 13; refine (in_any _ _ _ _).mono ?_; rintro e w1 ⟨rfl, rfl⟩; first | rw [hk] | rw [ha] | rw [hb] | rw [hi]))
    go_ret2
    exact ⟨ret_two (by omega) rfl, bel_alloc (bel_alloc (bel_alloc (Below.refl _ _) _) _) _⟩
  · have hf : fitI 3 a b i = true := by simp [fitI, useA, useB, useI]; omega
    rw [hf, if_pos rfl] at he
    rw [iW_ok he, he]
    clear he hf
    go_enter Try.func7, Try.ntmps7
    go_wp2_with (first | (go_at_call 13; refine (in_any _ _ _ _).mono ?_; rintro e w1 ⟨rfl, rfl⟩; first | rw [hk] | rw [ha] | rw [hb] | rw [hi]))
    refine (has_ai_i _ _ ?_).mono ?_
    · simp [go_sem]
    rintro e w1 ⟨rfl, rfl⟩
    go_wp2_with (first | (go_at_call 13; refine (in_any _ _ _ _).mono ?_; rintro e w1 ⟨rfl, rfl⟩; first | rw [hk] | rw [ha] | rw [hb] | rw [hi]))
    go_ret2
    exact ⟨ret_two (by omega) rfl, bel_alloc (bel_alloc (bel_alloc (Below.refl _ _) _) _) _⟩
  · have hf : ¬ fitI 3 a b i = true := by simp [fitI, useA, useB, useI]; omega
    rw [if_neg hf] at he
    rw [iW_bad he (by decide), he]
    clear he hf
    go_enter Try.func7, Try.ntmps7
    go_wp2_with (first | (go_at_call 13; refine (in_any _ _ _ _).mono ?_; rintro e w1 ⟨rfl, rfl⟩; first | rw [hk] | rw [ha] | rw [hb] | rw [hi]))
    refine (has_ai_b _ _ ?_).mono ?_
    · simp [go_sem]
    rintro e w1 ⟨rfl, rfl⟩
    go_wp2_with (first | (go_at_call 13; refine (in_any _ _ _ _).mono ?_; rintro e w1 ⟨rfl, rfl⟩; first | rw [hk] | rw [ha] | rw [hb] | rw [hi]))
    go_ret2
    exact ⟨ret_two (by omega) rfl, bel_alloc (bel_alloc (bel_alloc (Below.refl _ _) _) _) _⟩
  · have hf : fitI 3 a b i = true := by simp [fitI, useA, useB, useI]; omega
    rw [hf, if_pos rfl] at he
    rw [iW_ok he, he]
    clear he hf
    go_enter Try.func7, Try.ntmps7
    go_wp2_with (first | (go_at_call 13; refine (in_any _ _ _ _).mono ?_; rintro e w1 ⟨rfl, rfl⟩; first | rw [hk] | rw [ha] | rw [hb] | rw [hi]))
    refine (has_ai_a _ _ ?_).mono ?_
    · simp [go_sem]
    rintro e w1 ⟨rfl, rfl⟩
    go_wp2_with (first | (go_at_call 13; refine (in_any _ _ _ _).mono ?_; rintro e w1 ⟨rfl, rfl⟩; first | rw [hk] | rw [ha] | rw [hb] | rw [hi]))
    go_ret2
    exact ⟨ret_two (by omega) rfl, bel_alloc (bel_alloc (bel_alloc (Below.refl _ _) _) _) _⟩
  · have hf : fitI 3 a b i = true := by simp [fitI, useA, useB, useI]; omega
    rw [hf, if_pos rfl] at he
    rw [iW_ok he, he]
    clear he hf
    go_enter Try.func7, Try.ntmps7
    go_wp2_with (first | (go_at_call 13; refine (in_any _ _ _ _).mono ?_; rintro e w1 ⟨rfl, rfl⟩; first | rw [hk] | rw [ha] | rw [hb] | rw [hi]))
    refine (has_ai_a _ _ ?_).mono ?_
    · simp [go_sem]
    rintro e w1 ⟨rfl, rfl⟩
    go_wp2_with (first | (go_at_call 13; refine (in_any _ _ _ _).mono ?_; rintro e w1 ⟨rfl, rfl⟩; first | rw [hk] | rw [ha] | rw [hb] | rw [hi]))
    refine (has_ai_i _ _ ?_).mono ?_
    · simp [go_sem]
    rintro e w1 ⟨rfl, rfl⟩
    go_wp2_with (first | (go_at_call 13; refine (in_any _ _ _ _).mono ?_; rintro e w1 ⟨rfl, rfl⟩; first | rw [hk] | rw [ha] | rw [hb] | rw [hi]))
    go_ret2
    exact ⟨ret_two (by omega) rfl, bel_alloc (bel_alloc (bel_alloc (Below.refl _ _) _) _) _⟩
  · have hf : ¬ fitI 3 a b i = true := by simp [fitI, useA, useB, useI]; omega
    rw [if_neg hf] at he
    rw [iW_bad he (by decide), he]
    clear he hf
    go_enter Try.func7, Try.ntmps7
    go_wp2_with (first | (go_at_call 13; refine (in_any _ _ _ _).mono ?_; rintro e w1 ⟨rfl, rfl⟩; first | rw [hk] | rw [ha] | rw [hb] | rw [hi]))
    refine (has_ai_a _ _ ?_).mono ?_
    · simp [go_sem]
    rintro e w1 ⟨rfl, rfl⟩
    go_wp2_with (first | (go_at_call 13; refine (in_any _ _ _ _).mono ?_; rintro e w1 ⟨rfl, rfl⟩; first | rw [hk] | rw [ha] | rw [hb] | rw [hi]))
    refine (has_ai_b _ _ ?_).mono ?_
    · simp [go_sem]
    rintro e w1 ⟨rfl, rfl⟩
    go_wp2_with (first | (go_at_call 13; refine (in_any _ _ _ _).mono ?_; rintro e w1 ⟨rfl, rfl⟩; first | rw [hk] | rw [ha] | rw [hb] | rw [hi]))
    go_ret2
    exact ⟨ret_two (by omega) rfl, bel_alloc (bel_alloc (bel_alloc (Below.refl _ _) _) _) _⟩
set_option maxHeartbeats 2000000 in
theorem insWord_4 (a b i : Int) (w : World) (ha : betweenB 0 7 a = true) (hb : betweenB 0 7 b = true) (hi : betweenB 0 63 i = true) :
    Calls Try.prog 7 #[.agg #[.int .i64 4, .int .i64 a, .int .i64 b, .int .i64 i]] w fun e w' => e = .returned (.tuple #[.int .i64 (iW 4 a b i), .int .i64 (iE 4 a b i)]) ∧ Below w.heap.size w w' := by
  obtain ⟨a0, a1⟩ := of_between ha
  obtain ⟨b0, b1⟩ := of_between hb
  obtain ⟨i0, i1⟩ := of_between hi
  have hk : betweenB 0 8 4 = true := by decide
  have he : iE 4 a b i = if fitI 4 a b i = true then 0 else 3 := iE_in (k := 4) (by decide) ⟨a0, a1⟩ ⟨b0, b1⟩ ⟨i0, i1⟩
  have ways : (¬ 0 < a ∧ ¬ 0 < b ∧ ¬ 0 < i) ∨ (¬ 0 < a ∧ ¬ 0 < b ∧ 0 < i) ∨ (¬ 0 < a ∧ 0 < b ∧ ¬ 0 < i) ∨ (¬ 0 < a ∧ 0 < b ∧ 0 < i) ∨ (0 < a ∧ ¬ 0 < b ∧ ¬ 0 < i) ∨ (0 < a ∧ ¬ 0 < b ∧ 0 < i) ∨ (0 < a ∧ 0 < b ∧ ¬ 0 < i) ∨ (0 < a ∧ 0 < b ∧ 0 < i) := by omega
  rcases ways with ⟨pa, pb, pi⟩ | ⟨pa, pb, pi⟩ | ⟨pa, pb, pi⟩ | ⟨pa, pb, pi⟩ | ⟨pa, pb, pi⟩ | ⟨pa, pb, pi⟩ | ⟨pa, pb, pi⟩ | ⟨pa, pb, pi⟩
  · have hf : fitI 4 a b i = true := by simp [fitI, useA, useB, useI]
    rw [hf, if_pos rfl] at he
    rw [iW_ok he, he]
    clear he hf
    go_enter Try.func7, Try.ntmps7
    go_wp2_with (first | (go_at_call 13; refine (in_any _ _ _ _).mono ?_; rintro e w1 ⟨rfl, rfl⟩; first | rw [hk] | rw [ha] | rw [hb] | rw [hi]))
    go_ret2
    exact ⟨ret_two (by omega) rfl, bel_alloc (bel_alloc (bel_alloc (Below.refl _ _) _) _) _⟩
  · have hf : fitI 4 a b i = true := by simp [fitI, useA, useB, useI]
    rw [hf, if_pos rfl] at he
    rw [iW_ok he, he]
    clear he hf
    go_enter Try.func7, Try.ntmps7
    go_wp2_with (first | (go_at_call 13; refine (in_any _ _ _ _).mono ?_; rintro e w1 ⟨rfl, rfl⟩; first | rw [hk] | rw [ha] | rw [hb] | rw [hi]))
    refine (has_abi_i _ _ ?_).mono ?_
    · simp [go_sem]
    rintro e w1 ⟨rfl, rfl⟩
    go_wp2_with (first | (go_at_call 13; refine (in_any _ _ _ _).mono ?_; rintro e w1 ⟨rfl, rfl⟩; first | rw [hk] | rw [ha] | rw [hb] | rw [hi]))
    go_ret2
    exact ⟨ret_two (by omega) rfl, bel_alloc (bel_alloc (bel_alloc (Below.refl _ _) _) _) _⟩
  · have hf : fitI 4 a b i = true := by simp [fitI, useA, useB, useI]
    rw [hf, if_pos rfl] at he
    rw [iW_ok he, he]
    clear he hf
    go_enter Try.func7, Try.ntmps7
    go_wp2_with (first | (go_at_call 13; refine (in_any _ _ _ _).mono ?_; rintro e w1 ⟨rfl, rfl⟩; first | rw [hk] | rw [ha] | rw [hb] | rw [hi]))
    refine (has_abi_b _ _ ?_).mono ?_
    · simp [go_sem]
    rintro e w1 ⟨rfl, rfl⟩
    go_wp2_with (first | (go_at_call 13; refine (in_any _ _ _ _).mono ?_; rintro e w1 ⟨rfl, rfl⟩; first | rw [hk] | rw [ha] | rw [hb] | rw [hi]))
    go_ret2
    exact ⟨ret_two (by omega) rfl, bel_alloc (bel_alloc (bel_alloc (Below.refl _ _) _) _) _⟩
  · have hf : fitI 4 a b i = true := by simp [fitI, useA, useB, useI]
    rw [hf, if_pos rfl] at he
    rw [iW_ok he, he]
    clear he hf
    go_enter Try.func7, Try.ntmps7
    go_wp2_with (first | (go_at_call 13; refine (in_any _ _ _ _).mono ?_; rintro e w1 ⟨rfl, rfl⟩; first | rw [hk] | rw [ha] | rw [hb] | rw [hi]))
    refine (has_abi_b _ _ ?_).mono ?_
    · simp [go_sem]
    rintro e w1 ⟨rfl, rfl⟩
    go_wp2_with (first | (go_at_call 13; refine (in_any _ _ _ _).mono ?_; rintro e w1 ⟨rfl, rfl⟩; first | rw [hk] | rw [ha] | rw [hb] | rw [hi]))
    refine (has_abi_i _ _ ?_).mono ?_
    · simp [go_sem]
    rintro e w1 ⟨rfl, rfl⟩
    go_wp2_with (first | (go_at_call 13; refine (in_any _ _ _ _).mono ?_; rintro e w1 ⟨rfl, rfl⟩; first | rw [hk] | rw [ha] | rw [hb] | rw [hi]))
    go_ret2
    exact ⟨ret_two (by omega) rfl, bel_alloc (bel_alloc (bel_alloc (Below.refl _ _) _) _) _⟩
  · have hf : fitI 4 a b i = true := by simp [fitI, useA, useB, useI]
    rw [hf, if_pos rfl] at he
    rw [iW_ok he, he]
    clear he hf
    go_enter Try.func7, Try.ntmps7
    go_wp2_with (first | (go_at_call 13; refine (in_any _ _ _ _).mono ?_; rintro e w1 ⟨rfl, rfl⟩; first | rw [hk] | rw [ha] | rw [hb] | rw [hi]))
    refine (has_abi_a _ _ ?_).mono ?_
    · simp [go_sem]
    rintro e w1 ⟨rfl, rfl⟩
    go_wp2_with (first | (go_at_call 13; refine (in_any _ _ _ _).mono ?_; rintro e w1 ⟨rfl, rfl⟩; first | rw [hk] | rw [ha] | rw [hb] | rw [hi]))
    go_ret2
    exact ⟨ret_two (by omega) rfl, bel_alloc (bel_alloc (bel_alloc (Below.refl _ _) _) _) _⟩
  · have hf : fitI 4 a b i = true := by simp [fitI, useA, useB, useI]
    rw [hf, if_pos rfl] at he
    rw [iW_ok he, he]
    clear he hf
    go_enter Try.func7, Try.ntmps7
    go_wp2_with (first | (go_at_call 13; refine (in_any _ _ _ _).mono ?_; rintro e w1 ⟨rfl, rfl⟩; first | rw [hk] | rw [ha] | rw [hb] | rw [hi]))
    refine (has_abi_a _ _ ?_).mono ?_
    · simp [go_sem]
    rintro e w1 ⟨rfl, rfl⟩
    go_wp2_with (first | (go_at_call 13; refine (in_any _ _ _ _).mono ?_; rintro e w1 ⟨rfl, rfl⟩; first | rw [hk] | rw [ha] | rw [hb] | rw [hi]))
    refine (has_abi_i _ _ ?_).mono ?_
    · simp [go_sem]
    rintro e w1 ⟨rfl, rfl⟩
    go_wp2_with (first | (go_at_call 13; refine (in_any _ _ _ _).mono ?_; rintro e w1 ⟨rfl, rfl⟩; first | rw [hk] | rw [ha] | rw [hb] | rw [hi]))
    go_ret2
    exact ⟨ret_two (by omega) rfl, bel_alloc (bel_alloc (bel_alloc (Below.refl _ _) _) _) _⟩
  · have hf : fitI 4 a b i = true := by simp [fitI, useA, useB, useI]
    rw [hf, if_pos rfl] at he
    rw [iW_ok he, he]
    clear he hf
    go_enter Try.func7, Try.ntmps7
    go_wp2_with (first | (go_at_call 13; refine (in_any _ _ _ _).mono ?_; rintro e w1 ⟨rfl, rfl⟩; first | rw [hk] | rw [ha] | rw [hb] | rw [hi]))
    refine (has_abi_a _ _ ?_).mono ?_
    · simp [go_sem]
    rintro e w1 ⟨rfl, rfl⟩
    go_wp2_with (first | (go_at_call 13; refine (in_any _ _ _ _).mono ?_; rintro e w1 ⟨rfl, rfl⟩; first | rw [hk] | rw [ha] | rw [hb] | rw [hi]))
    refine (has_abi_b _ _ ?_).mono ?_
    · simp [go_sem]
    rintro e w1 ⟨rfl, rfl⟩
    go_wp2_with (first | (go_at_call 13; refine (in_any _ _ _ _).mono ?_; rintro e w1 ⟨rfl, rfl⟩; first | rw [hk] | rw [ha] | rw [hb] | rw [hi]))
    go_ret2
    exact ⟨ret_two (by omega) rfl, bel_alloc (bel_alloc (bel_alloc (Below.refl _ _) _) _) _⟩
  · have hf : fitI 4 a b i = true := by simp [fitI, useA, useB, useI]
    rw [hf, if_pos rfl] at he
    rw [iW_ok he, he]
    clear he hf
    go_enter Try.func7, Try.ntmps7
    go_wp2_with (first | (go_at_call 13; refine (in_any _ _ _ _).mono ?_; rintro e w1 ⟨rfl, rfl⟩; first | rw [hk] | rw [ha] | rw [hb] | rw [hi]))
    refine (has_abi_a _ _ ?_).mono ?_
    · simp [go_sem]
    rintro e w1 ⟨rfl, rfl⟩
    go_wp2_with (first | (go_at_call 13; refine (in_any _ _ _ _).mono ?_; rintro e w1 ⟨rfl, rfl⟩; first | rw [hk] | rw [ha] | rw [hb] | rw [hi]))
    refine (has_abi_b _ _ ?_).mono ?_
    · simp [go_sem]
    rintro e w1 ⟨rfl, rfl⟩
    go_wp2_with (first | (go_at_call 13; refine (in_any _ _ _ _).mono ?_; rintro e w1 ⟨rfl, rfl⟩; first | rw [hk] | rw [ha] | rw [hb] | rw [hi]))
    refine (has_abi_i _ _ ?_).mono ?_
    · simp [go_sem]
    rintro e w1 ⟨rfl, rfl⟩
    go_wp2_with (first | (go_at_call 13; refine (in_any _ _ _ _).mono ?_; rintro e w1 ⟨rfl, rfl⟩; first | rw [hk] | rw [ha] | rw [hb] | rw [hi]))
    go_ret2
    exact ⟨ret_two (by omega) rfl, bel_alloc (bel_alloc (bel_alloc (Below.refl _ _) _) _) _⟩
end Go.Proofs.Ytjgopihlakehcac
/-
  What drawbridgeref's InsWord answers, by kind: the same as Put.
-/
namespace Go.Proofs.Ytjgopihlakehcac
open Go.RowKit

set_option maxHeartbeats 2000000 in
theorem insWord_5 (a b i : Int) (w : World) (ha : betweenB 0 7 a = true) (hb : betweenB 0 7 b = true) (hi : betweenB 0 63 i = true) :
    Calls Try.prog 7 #[.agg #[.int .i64 5, .int .i64 a, .int .i64 b, .int .i64 i]] w fun e w' => e = .returned (.tuple #[.int .i64 (iW 5 a b i), .int .i64 (iE 5 a b i)]) ∧ Below w.heap.size w w' := by
  obtain ⟨a0, a1⟩ := of_between ha
  obtain ⟨b0, b1⟩ := of_between hb
  obtain ⟨i0, i1⟩ := of_between hi
  have hk : betweenB 0 8 5 = true := by decide
  have he : iE 5 a b i = if fitI 5 a b i = true then 0 else 3 := iE_in (k := 5) (by decide) ⟨a0, a1⟩ ⟨b0, b1⟩ ⟨i0, i1⟩
  have ways : (¬ 0 < a ∧ ¬ 0 < b ∧ ¬ 0 < i) ∨ (¬ 0 < a ∧ ¬ 0 < b ∧ 0 < i) ∨ (¬ 0 < a ∧ 0 < b ∧ ¬ 0 < i) ∨ (¬ 0 < a ∧ 0 < b ∧ 0 < i) ∨ (0 < a ∧ ¬ 0 < b ∧ ¬ 0 < i) ∨ (0 < a ∧ ¬ 0 < b ∧ 0 < i) ∨ (0 < a ∧ 0 < b ∧ ¬ 0 < i) ∨ (0 < a ∧ 0 < b ∧ 0 < i) := by omega
  rcases ways with ⟨pa, pb, pi⟩ | ⟨pa, pb, pi⟩ | ⟨pa, pb, pi⟩ | ⟨pa, pb, pi⟩ | ⟨pa, pb, pi⟩ | ⟨pa, pb, pi⟩ | ⟨pa, pb, pi⟩ | ⟨pa, pb, pi⟩
  · have hf : fitI 5 a b i = true := by simp [fitI, useA, useB, useI]
    rw [hf, if_pos rfl] at he
    rw [iW_ok he, he]
    clear he hf
    go_enter Try.func7, Try.ntmps7
    go_wp2_with (first | (go_at_call 13; refine (in_any _ _ _ _).mono ?_; rintro e w1 ⟨rfl, rfl⟩; first | rw [hk] | rw [ha] | rw [hb] | rw [hi]))
    go_ret2
    exact ⟨ret_two (by omega) rfl, bel_alloc (bel_alloc (bel_alloc (Below.refl _ _) _) _) _⟩
  · have hf : fitI 5 a b i = true := by simp [fitI, useA, useB, useI]
    rw [hf, if_pos rfl] at he
    rw [iW_ok he, he]
    clear he hf
    go_enter Try.func7, Try.ntmps7
    go_wp2_with (first | (go_at_call 13; refine (in_any _ _ _ _).mono ?_; rintro e w1 ⟨rfl, rfl⟩; first | rw [hk] | rw [ha] | rw [hb] | rw [hi]))
    refine (has_abi_i _ _ ?_).mono ?_
    · simp [go_sem]
    rintro e w1 ⟨rfl, rfl⟩
    go_wp2_with (first | (go_at_call 13; refine (in_any _ _ _ _).mono ?_; rintro e w1 ⟨rfl, rfl⟩; first | rw [hk] | rw [ha] | rw [hb] | rw [hi]))
    go_ret2
    exact ⟨ret_two (by omega) rfl, bel_alloc (bel_alloc (bel_alloc (Below.refl _ _) _) _) _⟩
  · have hf : fitI 5 a b i = true := by simp [fitI, useA, useB, useI]
    rw [hf, if_pos rfl] at he
    rw [iW_ok he, he]
    clear he hf
    go_enter Try.func7, Try.ntmps7
    go_wp2_with (first | (go_at_call 13; refine (in_any _ _ _ _).mono ?_; rintro e w1 ⟨rfl, rfl⟩; first | rw [hk] | rw [ha] | rw [hb] | rw [hi]))
    refine (has_abi_b _ _ ?_).mono ?_
    · simp [go_sem]
    rintro e w1 ⟨rfl, rfl⟩
    go_wp2_with (first | (go_at_call 13; refine (in_any _ _ _ _).mono ?_; rintro e w1 ⟨rfl, rfl⟩; first | rw [hk] | rw [ha] | rw [hb] | rw [hi]))
    go_ret2
    exact ⟨ret_two (by omega) rfl, bel_alloc (bel_alloc (bel_alloc (Below.refl _ _) _) _) _⟩
  · have hf : fitI 5 a b i = true := by simp [fitI, useA, useB, useI]
    rw [hf, if_pos rfl] at he
    rw [iW_ok he, he]
    clear he hf
    go_enter Try.func7, Try.ntmps7
    go_wp2_with (first | (go_at_call 13; refine (in_any _ _ _ _).mono ?_; rintro e w1 ⟨rfl, rfl⟩; first | rw [hk] | rw [ha] | rw [hb] | rw [hi]))
    refine (has_abi_b _ _ ?_).mono ?_
    · simp [go_sem]
    rintro e w1 ⟨rfl, rfl⟩
    go_wp2_with (first | (go_at_call 13; refine (in_any _ _ _ _).mono ?_; rintro e w1 ⟨rfl, rfl⟩; first | rw [hk] | rw [ha] | rw [hb] | rw [hi]))
    refine (has_abi_i _ _ ?_).mono ?_
    · simp [go_sem]
    rintro e w1 ⟨rfl, rfl⟩
    go_wp2_with (first | (go_at_call 13; refine (in_any _ _ _ _).mono ?_; rintro e w1 ⟨rfl, rfl⟩; first | rw [hk] | rw [ha] | rw [hb] | rw [hi]))
    go_ret2
    exact ⟨ret_two (by omega) rfl, bel_alloc (bel_alloc (bel_alloc (Below.refl _ _) _) _) _⟩
  · have hf : fitI 5 a b i = true := by simp [fitI, useA, useB, useI]
    rw [hf, if_pos rfl] at he
    rw [iW_ok he, he]
    clear he hf
    go_enter Try.func7, Try.ntmps7
    go_wp2_with (first | (go_at_call 13; refine (in_any _ _ _ _).mono ?_; rintro e w1 ⟨rfl, rfl⟩; first | rw [hk] | rw [ha] | rw [hb] | rw [hi]))
    refine (has_abi_a _ _ ?_).mono ?_
    · simp [go_sem]
    rintro e w1 ⟨rfl, rfl⟩
    go_wp2_with (first | (go_at_call 13; refine (in_any _ _ _ _).mono ?_; rintro e w1 ⟨rfl, rfl⟩; first | rw [hk] | rw [ha] | rw [hb] | rw [hi]))
    go_ret2
    exact ⟨ret_two (by omega) rfl, bel_alloc (bel_alloc (bel_alloc (Below.refl _ _) _) _) _⟩
  · have hf : fitI 5 a b i = true := by simp [fitI, useA, useB, useI]
    rw [hf, if_pos rfl] at he
    rw [iW_ok he, he]
    clear he hf
    go_enter Try.func7, Try.ntmps7
    go_wp2_with (first | (go_at_call 13; refine (in_any _ _ _ _).mono ?_; rintro e w1 ⟨rfl, rfl⟩; first | rw [hk] | rw [ha] | rw [hb] | rw [hi]))
    refine (has_abi_a _ _ ?_).mono ?_
    · simp [go_sem]
    rintro e w1 ⟨rfl, rfl⟩
    go_wp2_with (first | (go_at_call 13; refine (in_any _ _ _ _).mono ?_; rintro e w1 ⟨rfl, rfl⟩; first | rw [hk] | rw [ha] | rw [hb] | rw [hi]))
    refine (has_abi_i _ _ ?_).mono ?_
    · simp [go_sem]
    rintro e w1 ⟨rfl, rfl⟩
    go_wp2_with (first | (go_at_call 13; refine (in_any _ _ _ _).mono ?_; rintro e w1 ⟨rfl, rfl⟩; first | rw [hk] | rw [ha] | rw [hb] | rw [hi]))
    go_ret2
    exact ⟨ret_two (by omega) rfl, bel_alloc (bel_alloc (bel_alloc (Below.refl _ _) _) _) _⟩
  · have hf : fitI 5 a b i = true := by simp [fitI, useA, useB, useI]
    rw [hf, if_pos rfl] at he
    rw [iW_ok he, he]
    clear he hf
    go_enter Try.func7, Try.ntmps7
    go_wp2_with (first | (go_at_call 13; refine (in_any _ _ _ _).mono ?_; rintro e w1 ⟨rfl, rfl⟩; first | rw [hk] | rw [ha] | rw [hb] | rw [hi]))
    refine (has_abi_a _ _ ?_).mono ?_
    · simp [go_sem]
    rintro e w1 ⟨rfl, rfl⟩
    go_wp2_with (first | (go_at_call 13; refine (in_any _ _ _ _).mono ?_; rintro e w1 ⟨rfl, rfl⟩; first | rw [hk] | rw [ha] | rw [hb] | rw [hi]))
    refine (has_abi_b _ _ ?_).mono ?_
    · simp [go_sem]
    rintro e w1 ⟨rfl, rfl⟩
    go_wp2_with (first | (go_at_call 13; refine (in_any _ _ _ _).mono ?_; rintro e w1 ⟨rfl, rfl⟩; first | rw [hk] | rw [ha] | rw [hb] | rw [hi]))
    go_ret2
    exact ⟨ret_two (by omega) rfl, bel_alloc (bel_alloc (bel_alloc (Below.refl _ _) _) _) _⟩
  · have hf : fitI 5 a b i = true := by simp [fitI, useA, useB, useI]
    rw [hf, if_pos rfl] at he
    rw [iW_ok he, he]
    clear he hf
    go_enter Try.func7, Try.ntmps7
    go_wp2_with (first | (go_at_call 13; refine (in_any _ _ _ _).mono ?_; rintro e w1 ⟨rfl, rfl⟩; first | rw [hk] | rw [ha] | rw [hb] | rw [hi]))
    refine (has_abi_a _ _ ?_).mono ?_
    · simp [go_sem]
    rintro e w1 ⟨rfl, rfl⟩
    go_wp2_with (first | (go_at_call 13; refine (in_any _ _ _ _).mono ?_; rintro e w1 ⟨rfl, rfl⟩; first | rw [hk] | rw [ha] | rw [hb] | rw [hi]))
    refine (has_abi_b _ _ ?_).mono ?_
    · simp [go_sem]
    rintro e w1 ⟨rfl, rfl⟩
    go_wp2_with (first | (go_at_call 13; refine (in_any _ _ _ _).mono ?_; rintro e w1 ⟨rfl, rfl⟩; first | rw [hk] | rw [ha] | rw [hb] | rw [hi]))
    refine (has_abi_i _ _ ?_).mono ?_
    · simp [go_sem]
    rintro e w1 ⟨rfl, rfl⟩
    go_wp2_with (first | (go_at_call 13; refine (in_any _ _ _ _).mono ?_; rintro e w1 ⟨rfl, rfl⟩; first | rw [hk] | rw [ha] | rw [hb] | rw [hi]))
    go_ret2
    exact ⟨ret_two (by omega) rfl, bel_alloc (bel_alloc (bel_alloc (Below.refl _ _) _) _) _⟩
set_option maxHeartbeats 2000000 in
theorem insWord_6 (a b i : Int) (w : World) (ha : betweenB 0 7 a = true) (hb : betweenB 0 7 b = true) (hi : betweenB 0 63 i = true) :
    Calls Try.prog 7 #[.agg #[.int .i64 6, .int .i64 a, .int .i64 b, .int .i64 i]] w fun e w' => e = .returned (.tuple #[.int .i64 (iW 6 a b i), .int .i64 (iE 6 a b i)]) ∧ Below w.heap.size w w' := by
  obtain ⟨a0, a1⟩ := of_between ha
  obtain ⟨b0, b1⟩ := of_between hb
  obtain ⟨i0, i1⟩ := of_between hi
  have hk : betweenB 0 8 6 = true := by decide
  have he : iE 6 a b i = if fitI 6 a b i = true then 0 else 3 := iE_in (k := 6) (by decide) ⟨a0, a1⟩ ⟨b0, b1⟩ ⟨i0, i1⟩
  have ways : (¬ 0 < a ∧ ¬ 0 < b ∧ ¬ 0 < i) ∨ (¬ 0 < a ∧ ¬ 0 < b ∧ 0 < i) ∨ (¬ 0 < a ∧ 0 < b ∧ ¬ 0 < i) ∨ (¬ 0 < a ∧ 0 < b ∧ 0 < i) ∨ (0 < a ∧ ¬ 0 < b ∧ ¬ 0 < i) ∨ (0 < a ∧ ¬ 0 < b ∧ 0 < i) ∨ (0 < a ∧ 0 < b ∧ ¬ 0 < i) ∨ (0 < a ∧ 0 < b ∧ 0 < i) := by omega
  rcases ways with ⟨pa, pb, pi⟩ | ⟨pa, pb, pi⟩ | ⟨pa, pb, pi⟩ | ⟨pa, pb, pi⟩ | ⟨pa, pb, pi⟩ | ⟨pa, pb, pi⟩ | ⟨pa, pb, pi⟩ | ⟨pa, pb, pi⟩
  · have hf : fitI 6 a b i = true := by simp [fitI, useA, useB, useI]
    rw [hf, if_pos rfl] at he
    rw [iW_ok he, he]
    clear he hf
    go_enter Try.func7, Try.ntmps7
    go_wp2_with (first | (go_at_call 13; refine (in_any _ _ _ _).mono ?_; rintro e w1 ⟨rfl, rfl⟩; first | rw [hk] | rw [ha] | rw [hb] | rw [hi]))
    go_ret2
    exact ⟨ret_two (by omega) rfl, bel_alloc (bel_alloc (bel_alloc (Below.refl _ _) _) _) _⟩
  · have hf : fitI 6 a b i = true := by simp [fitI, useA, useB, useI]
    rw [hf, if_pos rfl] at he
    rw [iW_ok he, he]
    clear he hf
    go_enter Try.func7, Try.ntmps7
    go_wp2_with (first | (go_at_call 13; refine (in_any _ _ _ _).mono ?_; rintro e w1 ⟨rfl, rfl⟩; first | rw [hk] | rw [ha] | rw [hb] | rw [hi]))
    refine (has_abi_i _ _ ?_).mono ?_
    · simp [go_sem]
    rintro e w1 ⟨rfl, rfl⟩
    go_wp2_with (first | (go_at_call 13; refine (in_any _ _ _ _).mono ?_; rintro e w1 ⟨rfl, rfl⟩; first | rw [hk] | rw [ha] | rw [hb] | rw [hi]))
    go_ret2
    exact ⟨ret_two (by omega) rfl, bel_alloc (bel_alloc (bel_alloc (Below.refl _ _) _) _) _⟩
  · have hf : fitI 6 a b i = true := by simp [fitI, useA, useB, useI]
    rw [hf, if_pos rfl] at he
    rw [iW_ok he, he]
    clear he hf
    go_enter Try.func7, Try.ntmps7
    go_wp2_with (first | (go_at_call 13; refine (in_any _ _ _ _).mono ?_; rintro e w1 ⟨rfl, rfl⟩; first | rw [hk] | rw [ha] | rw [hb] | rw [hi]))
    refine (has_abi_b _ _ ?_).mono ?_
    · simp [go_sem]
    rintro e w1 ⟨rfl, rfl⟩
    go_wp2_with (first | (go_at_call 13; refine (in_any _ _ _ _).mono ?_; rintro e w1 ⟨rfl, rfl⟩; first | rw [hk] | rw [ha] | rw [hb] | rw [hi]))
    go_ret2
    exact ⟨ret_two (by omega) rfl, bel_alloc (bel_alloc (bel_alloc (Below.refl _ _) _) _) _⟩
  · have hf : fitI 6 a b i = true := by simp [fitI, useA, useB, useI]
    rw [hf, if_pos rfl] at he
    rw [iW_ok he, he]
    clear he hf
    go_enter Try.func7, Try.ntmps7
    go_wp2_with (first | (go_at_call 13; refine (in_any _ _ _ _).mono ?_; rintro e w1 ⟨rfl, rfl⟩; first | rw [hk] | rw [ha] | rw [hb] | rw [hi]))
    refine (has_abi_b _ _ ?_).mono ?_
    · simp [go_sem]
    rintro e w1 ⟨rfl, rfl⟩
    go_wp2_with (first | (go_at_call 13; refine (in_any _ _ _ _).mono ?_; rintro e w1 ⟨rfl, rfl⟩; first | rw [hk] | rw [ha] | rw [hb] | rw [hi]))
    refine (has_abi_i _ _ ?_).mono ?_
    · simp [go_sem]
    rintro e w1 ⟨rfl, rfl⟩
    go_wp2_with (first | (go_at_call 13; refine (in_any _ _ _ _).mono ?_; rintro e w1 ⟨rfl, rfl⟩; first | rw [hk] | rw [ha] | rw [hb] | rw [hi]))
    go_ret2
    exact ⟨ret_two (by omega) rfl, bel_alloc (bel_alloc (bel_alloc (Below.refl _ _) _) _) _⟩
  · have hf : fitI 6 a b i = true := by simp [fitI, useA, useB, useI]
    rw [hf, if_pos rfl] at he
    rw [iW_ok he, he]
    clear he hf
    go_enter Try.func7, Try.ntmps7
    go_wp2_with (first | (go_at_call 13; refine (in_any _ _ _ _).mono ?_; rintro e w1 ⟨rfl, rfl⟩; first | rw [hk] | rw [ha] | rw [hb] | rw [hi]))
    refine (has_abi_a _ _ ?_).mono ?_
    · simp [go_sem]
    rintro e w1 ⟨rfl, rfl⟩
    go_wp2_with (first | (go_at_call 13; refine (in_any _ _ _ _).mono ?_; rintro e w1 ⟨rfl, rfl⟩; first | rw [hk] | rw [ha] | rw [hb] | rw [hi]))
    go_ret2
    exact ⟨ret_two (by omega) rfl, bel_alloc (bel_alloc (bel_alloc (Below.refl _ _) _) _) _⟩
  · have hf : fitI 6 a b i = true := by simp [fitI, useA, useB, useI]
    rw [hf, if_pos rfl] at he
    rw [iW_ok he, he]
    clear he hf
    go_enter Try.func7, Try.ntmps7
    go_wp2_with (first | (go_at_call 13; refine (in_any _ _ _ _).mono ?_; rintro e w1 ⟨rfl, rfl⟩; first | rw [hk] | rw [ha] | rw [hb] | rw [hi]))
    refine (has_abi_a _ _ ?_).mono ?_
    · simp [go_sem]
    rintro e w1 ⟨rfl, rfl⟩
    go_wp2_with (first | (go_at_call 13; refine (in_any _ _ _ _).mono ?_; rintro e w1 ⟨rfl, rfl⟩; first | rw [hk] | rw [ha] | rw [hb] | rw [hi]))
    refine (has_abi_i _ _ ?_).mono ?_
    · simp [go_sem]
    rintro e w1 ⟨rfl, rfl⟩
    go_wp2_with (first | (go_at_call 13; refine (in_any _ _ _ _).mono ?_; rintro e w1 ⟨rfl, rfl⟩; first | rw [hk] | rw [ha] | rw [hb] | rw [hi]))
    go_ret2
    exact ⟨ret_two (by omega) rfl, bel_alloc (bel_alloc (bel_alloc (Below.refl _ _) _) _) _⟩
  · have hf : fitI 6 a b i = true := by simp [fitI, useA, useB, useI]
    rw [hf, if_pos rfl] at he
    rw [iW_ok he, he]
    clear he hf
    go_enter Try.func7, Try.ntmps7
    go_wp2_with (first | (go_at_call 13; refine (in_any _ _ _ _).mono ?_; rintro e w1 ⟨rfl, rfl⟩; first | rw [hk] | rw [ha] | rw [hb] | rw [hi]))
    refine (has_abi_a _ _ ?_).mono ?_
    · simp [go_sem]
    rintro e w1 ⟨rfl, rfl⟩
    go_wp2_with (first | (go_at_call 13; refine (in_any _ _ _ _).mono ?_; rintro e w1 ⟨rfl, rfl⟩; first | rw [hk] | rw [ha] | rw [hb] | rw [hi]))
    refine (has_abi_b _ _ ?_).mono ?_
    · simp [go_sem]
    rintro e w1 ⟨rfl, rfl⟩
    go_wp2_with (first | (go_at_call 13; refine (in_any _ _ _ _).mono ?_; rintro e w1 ⟨rfl, rfl⟩; first | rw [hk] | rw [ha] | rw [hb] | rw [hi]))
    go_ret2
    exact ⟨ret_two (by omega) rfl, bel_alloc (bel_alloc (bel_alloc (Below.refl _ _) _) _) _⟩
  · have hf : fitI 6 a b i = true := by simp [fitI, useA, useB, useI]
    rw [hf, if_pos rfl] at he
    rw [iW_ok he, he]
    clear he hf
    go_enter Try.func7, Try.ntmps7
    go_wp2_with (first | (go_at_call 13; refine (in_any _ _ _ _).mono ?_; rintro e w1 ⟨rfl, rfl⟩; first | rw [hk] | rw [ha] | rw [hb] | rw [hi]))
    refine (has_abi_a _ _ ?_).mono ?_
    · simp [go_sem]
    rintro e w1 ⟨rfl, rfl⟩
    go_wp2_with (first | (go_at_call 13; refine (in_any _ _ _ _).mono ?_; rintro e w1 ⟨rfl, rfl⟩; first | rw [hk] | rw [ha] | rw [hb] | rw [hi]))
    refine (has_abi_b _ _ ?_).mono ?_
    · simp [go_sem]
    rintro e w1 ⟨rfl, rfl⟩
    go_wp2_with (first | (go_at_call 13; refine (in_any _ _ _ _).mono ?_; rintro e w1 ⟨rfl, rfl⟩; first | rw [hk] | rw [ha] | rw [hb] | rw [hi]))
    refine (has_abi_i _ _ ?_).mono ?_
    · simp [go_sem]
    rintro e w1 ⟨rfl, rfl⟩
    go_wp2_with (first | (go_at_call 13; refine (in_any _ _ _ _).mono ?_; rintro e w1 ⟨rfl, rfl⟩; first | rw [hk] | rw [ha] | rw [hb] | rw [hi]))
    go_ret2
    exact ⟨ret_two (by omega) rfl, bel_alloc (bel_alloc (bel_alloc (Below.refl _ _) _) _) _⟩
end Go.Proofs.Ytjgopihlakehcac
/-
  What drawbridgeref's InsWord answers, by kind: the same as Put.
-/
namespace Go.Proofs.Ytjgopihlakehcac
open Go.RowKit

set_option maxHeartbeats 2000000 in
theorem insWord_7 (a b i : Int) (w : World) (ha : betweenB 0 7 a = true) (hb : betweenB 0 7 b = true) (hi : betweenB 0 63 i = true) :
    Calls Try.prog 7 #[.agg #[.int .i64 7, .int .i64 a, .int .i64 b, .int .i64 i]] w fun e w' => e = .returned (.tuple #[.int .i64 (iW 7 a b i), .int .i64 (iE 7 a b i)]) ∧ Below w.heap.size w w' := by
  obtain ⟨a0, a1⟩ := of_between ha
  obtain ⟨b0, b1⟩ := of_between hb
  obtain ⟨i0, i1⟩ := of_between hi
  have hk : betweenB 0 8 7 = true := by decide
  have he : iE 7 a b i = if fitI 7 a b i = true then 0 else 3 := iE_in (k := 7) (by decide) ⟨a0, a1⟩ ⟨b0, b1⟩ ⟨i0, i1⟩
  have ways : (¬ 0 < a ∧ ¬ 0 < b ∧ ¬ 0 < i) ∨ (¬ 0 < a ∧ ¬ 0 < b ∧ 0 < i) ∨ (¬ 0 < a ∧ 0 < b) ∨ (0 < a ∧ ¬ 0 < b ∧ ¬ 0 < i) ∨ (0 < a ∧ ¬ 0 < b ∧ 0 < i) ∨ (0 < a ∧ 0 < b) := by omega
  rcases ways with ⟨pa, pb, pi⟩ | ⟨pa, pb, pi⟩ | ⟨pa, pb⟩ | ⟨pa, pb, pi⟩ | ⟨pa, pb, pi⟩ | ⟨pa, pb⟩
  · have hf : fitI 7 a b i = true := by simp [fitI, useA, useB, useI]; omega
    rw [hf, if_pos rfl] at he
    rw [iW_ok he, he]
    clear he hf
    go_enter Try.func7, Try.ntmps7
    go_wp2_with (first | (go_at_call 13; refine (in_any _ _ _ _).mono ?_; rintro e w1 ⟨rfl, rfl⟩; first | rw [hk] | rw [ha] | rw [hb] | rw [hi]))
    go_ret2
    exact ⟨ret_two (by omega) rfl, bel_alloc (bel_alloc (bel_alloc (Below.refl _ _) _) _) _⟩
  · have hf : fitI 7 a b i = true := by simp [fitI, useA, useB, useI]; omega
    rw [hf, if_pos rfl] at he
    rw [iW_ok he, he]
    clear he hf
    go_enter Try.func7, Try.ntmps7
    go_wp2_with (first | (go_at_call 13; refine (in_any _ _ _ _).mono ?_; rintro e w1 ⟨rfl, rfl⟩; first | rw [hk] | rw [ha] | rw [hb] | rw [hi]))
    refine (has_ai_i _ _ ?_).mono ?_
    · simp [go_sem]
    rintro e w1 ⟨rfl, rfl⟩
    go_wp2_with (first | (go_at_call 13; refine (in_any _ _ _ _).mono ?_; rintro e w1 ⟨rfl, rfl⟩; first | rw [hk] | rw [ha] | rw [hb] | rw [hi]))
    go_ret2
    exact ⟨ret_two (by omega) rfl, bel_alloc (bel_alloc (bel_alloc (Below.refl _ _) _) _) _⟩
  · have hf : ¬ fitI 7 a b i = true := by simp [fitI, useA, useB, useI]; omega
    rw [if_neg hf] at he
    rw [iW_bad he (by decide), he]
    clear he hf
    go_enter Try.func7, Try.ntmps7
    go_wp2_with (first | (go_at_call 13; refine (in_any _ _ _ _).mono ?_; rintro e w1 ⟨rfl, rfl⟩; first | rw [hk] | rw [ha] | rw [hb] | rw [hi]))
    refine (has_ai_b _ _ ?_).mono ?_
    · simp [go_sem]
    rintro e w1 ⟨rfl, rfl⟩
    go_wp2_with (first | (go_at_call 13; refine (in_any _ _ _ _).mono ?_; rintro e w1 ⟨rfl, rfl⟩; first | rw [hk] | rw [ha] | rw [hb] | rw [hi]))
    go_ret2
    exact ⟨ret_two (by omega) rfl, bel_alloc (bel_alloc (bel_alloc (Below.refl _ _) _) _) _⟩
  · have hf : fitI 7 a b i = true := by simp [fitI, useA, useB, useI]; omega
    rw [hf, if_pos rfl] at he
    rw [iW_ok he, he]
    clear he hf
    go_enter Try.func7, Try.ntmps7
    go_wp2_with (first | (go_at_call 13; refine (in_any _ _ _ _).mono ?_; rintro e w1 ⟨rfl, rfl⟩; first | rw [hk] | rw [ha] | rw [hb] | rw [hi]))
    refine (has_ai_a _ _ ?_).mono ?_
    · simp [go_sem]
    rintro e w1 ⟨rfl, rfl⟩
    go_wp2_with (first | (go_at_call 13; refine (in_any _ _ _ _).mono ?_; rintro e w1 ⟨rfl, rfl⟩; first | rw [hk] | rw [ha] | rw [hb] | rw [hi]))
    go_ret2
    exact ⟨ret_two (by omega) rfl, bel_alloc (bel_alloc (bel_alloc (Below.refl _ _) _) _) _⟩
  · have hf : fitI 7 a b i = true := by simp [fitI, useA, useB, useI]; omega
    rw [hf, if_pos rfl] at he
    rw [iW_ok he, he]
    clear he hf
    go_enter Try.func7, Try.ntmps7
    go_wp2_with (first | (go_at_call 13; refine (in_any _ _ _ _).mono ?_; rintro e w1 ⟨rfl, rfl⟩; first | rw [hk] | rw [ha] | rw [hb] | rw [hi]))
    refine (has_ai_a _ _ ?_).mono ?_
    · simp [go_sem]
    rintro e w1 ⟨rfl, rfl⟩
    go_wp2_with (first | (go_at_call 13; refine (in_any _ _ _ _).mono ?_; rintro e w1 ⟨rfl, rfl⟩; first | rw [hk] | rw [ha] | rw [hb] | rw [hi]))
    refine (has_ai_i _ _ ?_).mono ?_
    · simp [go_sem]
    rintro e w1 ⟨rfl, rfl⟩
    go_wp2_with (first | (go_at_call 13; refine (in_any _ _ _ _).mono ?_; rintro e w1 ⟨rfl, rfl⟩; first | rw [hk] | rw [ha] | rw [hb] | rw [hi]))
    go_ret2
    exact ⟨ret_two (by omega) rfl, bel_alloc (bel_alloc (bel_alloc (Below.refl _ _) _) _) _⟩
  · have hf : ¬ fitI 7 a b i = true := by simp [fitI, useA, useB, useI]; omega
    rw [if_neg hf] at he
    rw [iW_bad he (by decide), he]
    clear he hf
    go_enter Try.func7, Try.ntmps7
    go_wp2_with (first | (go_at_call 13; refine (in_any _ _ _ _).mono ?_; rintro e w1 ⟨rfl, rfl⟩; first | rw [hk] | rw [ha] | rw [hb] | rw [hi]))
    refine (has_ai_a _ _ ?_).mono ?_
    · simp [go_sem]
    rintro e w1 ⟨rfl, rfl⟩
    go_wp2_with (first | (go_at_call 13; refine (in_any _ _ _ _).mono ?_; rintro e w1 ⟨rfl, rfl⟩; first | rw [hk] | rw [ha] | rw [hb] | rw [hi]))
    refine (has_ai_b _ _ ?_).mono ?_
    · simp [go_sem]
    rintro e w1 ⟨rfl, rfl⟩
    go_wp2_with (first | (go_at_call 13; refine (in_any _ _ _ _).mono ?_; rintro e w1 ⟨rfl, rfl⟩; first | rw [hk] | rw [ha] | rw [hb] | rw [hi]))
    go_ret2
    exact ⟨ret_two (by omega) rfl, bel_alloc (bel_alloc (bel_alloc (Below.refl _ _) _) _) _⟩
set_option maxHeartbeats 2000000 in
theorem insWord_8 (a b i : Int) (w : World) (ha : betweenB 0 7 a = true) (hb : betweenB 0 7 b = true) (hi : betweenB 0 63 i = true) :
    Calls Try.prog 7 #[.agg #[.int .i64 8, .int .i64 a, .int .i64 b, .int .i64 i]] w fun e w' => e = .returned (.tuple #[.int .i64 (iW 8 a b i), .int .i64 (iE 8 a b i)]) ∧ Below w.heap.size w w' := by
  obtain ⟨a0, a1⟩ := of_between ha
  obtain ⟨b0, b1⟩ := of_between hb
  obtain ⟨i0, i1⟩ := of_between hi
  have hk : betweenB 0 8 8 = true := by decide
  have he : iE 8 a b i = if fitI 8 a b i = true then 0 else 3 := iE_in (k := 8) (by decide) ⟨a0, a1⟩ ⟨b0, b1⟩ ⟨i0, i1⟩
  have ways : (¬ 0 < a ∧ ¬ 0 < b ∧ ¬ 0 < i) ∨ (¬ 0 < a ∧ ¬ 0 < b ∧ 0 < i) ∨ (¬ 0 < a ∧ 0 < b) ∨ (0 < a ∧ ¬ 0 < b ∧ ¬ 0 < i) ∨ (0 < a ∧ ¬ 0 < b ∧ 0 < i) ∨ (0 < a ∧ 0 < b) := by omega
  rcases ways with ⟨pa, pb, pi⟩ | ⟨pa, pb, pi⟩ | ⟨pa, pb⟩ | ⟨pa, pb, pi⟩ | ⟨pa, pb, pi⟩ | ⟨pa, pb⟩
  · have hf : fitI 8 a b i = true := by simp [fitI, useA, useB, useI]; omega
    rw [hf, if_pos rfl] at he
    rw [iW_ok he, he]
    clear he hf
    go_enter Try.func7, Try.ntmps7
    go_wp2_with (first | (go_at_call 13; refine (in_any _ _ _ _).mono ?_; rintro e w1 ⟨rfl, rfl⟩; first | rw [hk] | rw [ha] | rw [hb] | rw [hi]))
    go_ret2
    exact ⟨ret_two (by omega) rfl, bel_alloc (bel_alloc (bel_alloc (Below.refl _ _) _) _) _⟩
  · have hf : fitI 8 a b i = true := by simp [fitI, useA, useB, useI]; omega
    rw [hf, if_pos rfl] at he
    rw [iW_ok he, he]
    clear he hf
    go_enter Try.func7, Try.ntmps7
    go_wp2_with (first | (go_at_call 13; refine (in_any _ _ _ _).mono ?_; rintro e w1 ⟨rfl, rfl⟩; first | rw [hk] | rw [ha] | rw [hb] | rw [hi]))
    refine (has_ai_i _ _ ?_).mono ?_
    · simp [go_sem]
    rintro e w1 ⟨rfl, rfl⟩
    go_wp2_with (first | (go_at_call 13; refine (in_any _ _ _ _).mono ?_; rintro e w1 ⟨rfl, rfl⟩; first | rw [hk] | rw [ha] | rw [hb] | rw [hi]))
    go_ret2
    exact ⟨ret_two (by omega) rfl, bel_alloc (bel_alloc (bel_alloc (Below.refl _ _) _) _) _⟩
  · have hf : ¬ fitI 8 a b i = true := by simp [fitI, useA, useB, useI]; omega
    rw [if_neg hf] at he
    rw [iW_bad he (by decide), he]
    clear he hf
    go_enter Try.func7, Try.ntmps7
    go_wp2_with (first | (go_at_call 13; refine (in_any _ _ _ _).mono ?_; rintro e w1 ⟨rfl, rfl⟩; first | rw [hk] | rw [ha] | rw [hb] | rw [hi]))
    refine (has_ai_b _ _ ?_).mono ?_
    · simp [go_sem]
    rintro e w1 ⟨rfl, rfl⟩
    go_wp2_with (first | (go_at_call 13; refine (in_any _ _ _ _).mono ?_; rintro e w1 ⟨rfl, rfl⟩; first | rw [hk] | rw [ha] | rw [hb] | rw [hi]))
    go_ret2
    exact ⟨ret_two (by omega) rfl, bel_alloc (bel_alloc (bel_alloc (Below.refl _ _) _) _) _⟩
  · have hf : fitI 8 a b i = true := by simp [fitI, useA, useB, useI]; omega
    rw [hf, if_pos rfl] at he
    rw [iW_ok he, he]
    clear he hf
    go_enter Try.func7, Try.ntmps7
    go_wp2_with (first | (go_at_call 13; refine (in_any _ _ _ _).mono ?_; rintro e w1 ⟨rfl, rfl⟩; first | rw [hk] | rw [ha] | rw [hb] | rw [hi]))
    refine (has_ai_a _ _ ?_).mono ?_
    · simp [go_sem]
    rintro e w1 ⟨rfl, rfl⟩
    go_wp2_with (first | (go_at_call 13; refine (in_any _ _ _ _).mono ?_; rintro e w1 ⟨rfl, rfl⟩; first | rw [hk] | rw [ha] | rw [hb] | rw [hi]))
    go_ret2
    exact ⟨ret_two (by omega) rfl, bel_alloc (bel_alloc (bel_alloc (Below.refl _ _) _) _) _⟩
  · have hf : fitI 8 a b i = true := by simp [fitI, useA, useB, useI]; omega
    rw [hf, if_pos rfl] at he
    rw [iW_ok he, he]
    clear he hf
    go_enter Try.func7, Try.ntmps7
    go_wp2_with (first | (go_at_call 13; refine (in_any _ _ _ _).mono ?_; rintro e w1 ⟨rfl, rfl⟩; first | rw [hk] | rw [ha] | rw [hb] | rw [hi]))
    refine (has_ai_a _ _ ?_).mono ?_
    · simp [go_sem]
    rintro e w1 ⟨rfl, rfl⟩
    go_wp2_with (first | (go_at_call 13; refine (in_any _ _ _ _).mono ?_; rintro e w1 ⟨rfl, rfl⟩; first | rw [hk] | rw [ha] | rw [hb] | rw [hi]))
    refine (has_ai_i _ _ ?_).mono ?_
    · simp [go_sem]
    rintro e w1 ⟨rfl, rfl⟩
    go_wp2_with (first | (go_at_call 13; refine (in_any _ _ _ _).mono ?_; rintro e w1 ⟨rfl, rfl⟩; first | rw [hk] | rw [ha] | rw [hb] | rw [hi]))
    go_ret2
    exact ⟨ret_two (by omega) rfl, bel_alloc (bel_alloc (bel_alloc (Below.refl _ _) _) _) _⟩
  · have hf : ¬ fitI 8 a b i = true := by simp [fitI, useA, useB, useI]; omega
    rw [if_neg hf] at he
    rw [iW_bad he (by decide), he]
    clear he hf
    go_enter Try.func7, Try.ntmps7
    go_wp2_with (first | (go_at_call 13; refine (in_any _ _ _ _).mono ?_; rintro e w1 ⟨rfl, rfl⟩; first | rw [hk] | rw [ha] | rw [hb] | rw [hi]))
    refine (has_ai_a _ _ ?_).mono ?_
    · simp [go_sem]
    rintro e w1 ⟨rfl, rfl⟩
    go_wp2_with (first | (go_at_call 13; refine (in_any _ _ _ _).mono ?_; rintro e w1 ⟨rfl, rfl⟩; first | rw [hk] | rw [ha] | rw [hb] | rw [hi]))
    refine (has_ai_b _ _ ?_).mono ?_
    · simp [go_sem]
    rintro e w1 ⟨rfl, rfl⟩
    go_wp2_with (first | (go_at_call 13; refine (in_any _ _ _ _).mono ?_; rintro e w1 ⟨rfl, rfl⟩; first | rw [hk] | rw [ha] | rw [hb] | rw [hi]))
    go_ret2
    exact ⟨ret_two (by omega) rfl, bel_alloc (bel_alloc (bel_alloc (Below.refl _ _) _) _) _⟩
end Go.Proofs.Ytjgopihlakehcac
/-
  drawbridgeref's InsWord: whatever instruction: the same as Put.
-/
namespace Go.Proofs.Ytjgopihlakehcac
open Go.RowKit

set_option maxHeartbeats 1000000 in
theorem insWord_any (k a b i : Int) (w : World) :
    Calls Try.prog 7 #[.agg #[.int .i64 k, .int .i64 a, .int .i64 b, .int .i64 i]] w fun e w' => e = .returned (.tuple #[.int .i64 (iW k a b i), .int .i64 (iE k a b i)]) ∧ Below w.heap.size w w' := by
  cases hk : betweenB 0 8 k
  · have hk' : ¬ (0 ≤ k ∧ k ≤ 8) := of_decide_eq_false hk
    have he : iE k a b i = 2 := iE_out (by omega)
    rw [iW_bad he (by decide), he]
    clear he hk'
    go_enter Try.func7, Try.ntmps7
    go_wp2_with (first | (go_at_call 13; refine (in_any _ _ _ _).mono ?_; rintro e w1 ⟨rfl, rfl⟩; first | rw [hk]))
    go_ret2
    exact ⟨rfl, bel_alloc (Below.refl _ _) _⟩
  cases ha : betweenB 0 7 a
  · have ha' : ¬ (0 ≤ a ∧ a ≤ 7) := of_decide_eq_false ha
    have he : iE k a b i = 2 := iE_out (by omega)
    rw [iW_bad he (by decide), he]
    clear he ha'
    go_enter Try.func7, Try.ntmps7
    go_wp2_with (first | (go_at_call 13; refine (in_any _ _ _ _).mono ?_; rintro e w1 ⟨rfl, rfl⟩; first | rw [hk] | rw [ha]))
    go_ret2
    exact ⟨rfl, bel_alloc (Below.refl _ _) _⟩
  cases hb : betweenB 0 7 b
  · have hb' : ¬ (0 ≤ b ∧ b ≤ 7) := of_decide_eq_false hb
    have he : iE k a b i = 2 := iE_out (by omega)
    rw [iW_bad he (by decide), he]
    clear he hb'
    go_enter Try.func7, Try.ntmps7
    go_wp2_with (first | (go_at_call 13; refine (in_any _ _ _ _).mono ?_; rintro e w1 ⟨rfl, rfl⟩; first | rw [hk] | rw [ha] | rw [hb]))
    go_ret2
    exact ⟨rfl, bel_alloc (Below.refl _ _) _⟩
  cases hi : betweenB 0 63 i
  · have hi' : ¬ (0 ≤ i ∧ i ≤ 63) := of_decide_eq_false hi
    have he : iE k a b i = 2 := iE_out (by omega)
    rw [iW_bad he (by decide), he]
    clear he hi'
    go_enter Try.func7, Try.ntmps7
    go_wp2_with (first | (go_at_call 13; refine (in_any _ _ _ _).mono ?_; rintro e w1 ⟨rfl, rfl⟩; first | rw [hk] | rw [ha] | rw [hb] | rw [hi]))
    go_ret2
    exact ⟨rfl, bel_alloc (Below.refl _ _) _⟩
  have hk' := of_between hk
  have parts : k = 0 ∨ k = 1 ∨ k = 2 ∨ k = 3 ∨ k = 4 ∨ k = 5 ∨ k = 6 ∨ k = 7 ∨ k = 8 := by omega
  rcases parts with rfl | rfl | rfl | rfl | rfl | rfl | rfl | rfl | rfl
  · exact insWord_0 a b i w ha hb hi
  · exact insWord_1 a b i w ha hb hi
  · exact insWord_2 a b i w ha hb hi
  · exact insWord_3 a b i w ha hb hi
  · exact insWord_4 a b i w ha hb hi
  · exact insWord_5 a b i w ha hb hi
  · exact insWord_6 a b i w ha hb hi
  · exact insWord_7 a b i w ha hb hi
  · exact insWord_8 a b i w ha hb hi
end Go.Proofs.Ytjgopihlakehcac
/-
  What package code's Read answers, and drawbridgeref's InsOf: the same; none turns memory that was there.
-/
namespace Go.Proofs.Ytjgopihlakehcac
open Go.RowKit

theorem riE_out {z : Int} (h : ¬ (0 ≤ z ∧ z ≤ 65535)) : riE z = 2 := if_neg h
theorem riE_bad {z : Int} (h : 0 ≤ z ∧ z ≤ 65535) (k : ¬ iE (z / 4096) (z / 512 % 8) (z / 64 % 8) (z % 64) = 0) : riE z = 3 := by rw [riE, if_pos h, if_neg k]
theorem riX_bad {z e : Int} (h : riE z = e) (hn : ¬ e = 0) : riX z = (0, 0, 0, 0) := if_neg (fun x => hn (h.symm.trans x))
theorem riX_ok {z : Int} (h : riE z = 0) : riX z = (z / 4096, z / 512 % 8, z / 64 % 8, z % 64) := if_pos h
theorem ri_way {z : Int} (h : 0 ≤ z ∧ z ≤ 65535) :
    (riE z = 3 ∧ riX z = (0, 0, 0, 0) ∧ ¬ iE (z / 4096) (z / 512 % 8) (z / 64 % 8) (z % 64) = 0) ∨
    (riE z = 0 ∧ riX z = (z / 4096, z / 512 % 8, z / 64 % 8, z % 64) ∧ iE (z / 4096) (z / 512 % 8) (z / 64 % 8) (z % 64) = 0) := by
  by_cases hk : iE (z / 4096) (z / 512 % 8) (z / 64 % 8) (z % 64) = 0
  · have hr := riE_mk h hk
    exact .inr ⟨hr, riX_ok hr, hk⟩
  · have hr := riE_bad h hk
    exact .inl ⟨hr, riX_bad hr (by decide), hk⟩

set_option maxHeartbeats 2000000 in
theorem cRead_any (z : Int) (w : World) :
    Calls Try.prog 6 #[.int .i64 z] w fun e w' => (∃ k a b i, e = .returned (.tuple #[.agg #[.int .i64 k, .int .i64 a, .int .i64 b, .int .i64 i], .int .i64 (riE z)]) ∧ riX z = (k, a, b, i)) ∧ Below w.heap.size w w' := by
  by_cases z0 : z < 0
  · have hr : riE z = 2 := riE_out (by omega)
    have HO : Hid (riX z = (0, 0, 0, 0)) := riX_bad hr (by decide)
    rw [hr]
    clear hr
    go_enter Try.func6, Try.ntmps6
    go_wp2
    refine bodyPost_ret (v := .tuple #[.agg #[.int .i64 0, .int .i64 0, .int .i64 0, .int .i64 0], .int .i64 2]) (by simp [results, Try.results6, go_sem]) rfl ⟨⟨_, _, _, _, rfl, HO.out⟩, ?_⟩
    exact bel_alloc (Below.refl _ _) _
  by_cases z1 : 65535 < z
  · have hr : riE z = 2 := riE_out (by omega)
    have HO : Hid (riX z = (0, 0, 0, 0)) := riX_bad hr (by decide)
    rw [hr]
    clear hr
    go_enter Try.func6, Try.ntmps6
    go_wp2
    refine bodyPost_ret (v := .tuple #[.agg #[.int .i64 0, .int .i64 0, .int .i64 0, .int .i64 0], .int .i64 2]) (by simp [results, Try.results6, go_sem]) rfl ⟨⟨_, _, _, _, rfl, HO.out⟩, ?_⟩
    exact bel_alloc (Below.refl _ _) _
  have hz : 0 ≤ z ∧ z ≤ 65535 := by omega
  have hway := ri_way hz
  obtain ⟨h0, h1⟩ := hz
  obtain ⟨eo, heo⟩ : ∃ eo, iE (z / 4096) (z / 512 % 8) (z / 64 % 8) (z % 64) = eo := ⟨_, rfl⟩
  rw [heo] at hway
  have HW : Hid _ := hway
  have HE : Hid _ := heo
  clear hway heo
  go_enter Try.func6, Try.ntmps6
  go_wp2_with fail
  refine (cPut_any _ _ _ _ _).mono ?_
  rintro e w1 ⟨rfl, b1⟩
  rw [HE.out]
  have X0 := (Box.newAt (n := w.heap.size) (by simp) 23 #[.int .i64 0, .int .i64 0, .int .i64 0, .int .i64 0]).past (.cells #[.int .i64 (z / 4096), .int .i64 (z / 512 % 8), .int .i64 (z / 64 % 8), .int .i64 (z % 64)] 23) |>.keep b1
  have X1 := (Box.newAt (w := w.alloc (.cells #[.int .i64 0, .int .i64 0, .int .i64 0, .int .i64 0] 23)) (n := w.heap.size + 1) (by simp) 23 #[.int .i64 (z / 4096), .int .i64 (z / 512 % 8), .int .i64 (z / 64 % 8), .int .i64 (z % 64)]).keep b1
  have B1 : Hid (Below w.heap.size w w1) := bel_trans (bel_alloc (bel_alloc (Below.refl _ _) _) _) b1
  clear b1
  obtain ⟨u0, u1, u2, u3, g0, g1, g2, g3, s0⟩ := X0.four
  obtain ⟨q0, q1, q2, q3, -, -, -, -, s1⟩ := X1.four
  clear X0 X1
  rcases HW.out with ⟨hr, ho, hk⟩ | ⟨hr, ho, hk⟩
  · have HR : Hid _ := hr
    have HO : Hid _ := ho
    have hq : (eo != 0) = true := by simpa using hk
    clear hr ho HW HE hk
    go_wp2
    refine bodyPost_ret (v := .tuple #[.agg #[.int .i64 0, .int .i64 0, .int .i64 0, .int .i64 0], .int .i64 3]) (by simp [results, Try.results6, go_sem, *]) rfl ⟨⟨_, _, _, _, by rw [HR.out], HO.out⟩, ?_⟩
    exact bel_set4 (by omega) B1.out _ _ _ _
  · have HR : Hid _ := hr
    have HO : Hid _ := ho
    clear hr ho HW HE
    subst hk
    go_wp2
    refine bodyPost_ret (v := .tuple #[.agg #[.int .i64 (z / 4096), .int .i64 (z / 512 % 8), .int .i64 (z / 64 % 8), .int .i64 (z % 64)], .int .i64 0]) (by simp [results, Try.results6, go_sem, *]) rfl ⟨⟨_, _, _, _, by rw [HR.out], HO.out⟩, ?_⟩
    exact bel_set4 (by omega) B1.out _ _ _ _
set_option maxHeartbeats 2000000 in
theorem insOf_any (z : Int) (w : World) :
    Calls Try.prog 8 #[.int .i64 z] w fun e w' => (∃ k a b i, e = .returned (.tuple #[.agg #[.int .i64 k, .int .i64 a, .int .i64 b, .int .i64 i], .int .i64 (riE z)]) ∧ riX z = (k, a, b, i)) ∧ Below w.heap.size w w' := by
  cases hw : betweenB 0 65535 z
  · have hr : riE z = 2 := riE_out (of_decide_eq_false hw)
    have HO : Hid (riX z = (0, 0, 0, 0)) := riX_bad hr (by decide)
    rw [hr]
    clear hr
    go_enter Try.func8, Try.ntmps8
    go_wp2_with (first | (go_at_call 13; refine (in_any _ _ _ _).mono ?_; rintro e w1 ⟨rfl, rfl⟩; rw [hw]))
    refine bodyPost_ret (v := .tuple #[.agg #[.int .i64 0, .int .i64 0, .int .i64 0, .int .i64 0], .int .i64 2]) (by simp [results, Try.results8, go_sem]) rfl ⟨⟨_, _, _, _, rfl, HO.out⟩, ?_⟩
    exact bel_alloc (Below.refl _ _) _
  have hz := of_between hw
  have hway := ri_way hz
  obtain ⟨h0, h1⟩ := hz
  obtain ⟨eo, heo⟩ : ∃ eo, iE (z / 4096) (z / 512 % 8) (z / 64 % 8) (z % 64) = eo := ⟨_, rfl⟩
  rw [heo] at hway
  have HW : Hid _ := hway
  have HE : Hid _ := heo
  clear hway heo
  go_enter Try.func8, Try.ntmps8
  go_wp2_with (first | (go_at_call 13; refine (in_any _ _ _ _).mono ?_; rintro e w1 ⟨rfl, rfl⟩; rw [hw]))
  refine (insWord_any _ _ _ _ _).mono ?_
  rintro e w1 ⟨rfl, b1⟩
  rw [HE.out]
  have X0 := (Box.newAt (n := w.heap.size) (by simp) 23 #[.int .i64 0, .int .i64 0, .int .i64 0, .int .i64 0]).past (.cells #[.int .i64 (z / 4096), .int .i64 (z / 512 % 8), .int .i64 (z / 64 % 8), .int .i64 (z % 64)] 23) |>.keep b1
  have X1 := (Box.newAt (w := w.alloc (.cells #[.int .i64 0, .int .i64 0, .int .i64 0, .int .i64 0] 23)) (n := w.heap.size + 1) (by simp) 23 #[.int .i64 (z / 4096), .int .i64 (z / 512 % 8), .int .i64 (z / 64 % 8), .int .i64 (z % 64)]).keep b1
  have B1 : Hid (Below w.heap.size w w1) := bel_trans (bel_alloc (bel_alloc (Below.refl _ _) _) _) b1
  clear b1
  obtain ⟨u0, u1, u2, u3, g0, g1, g2, g3, s0⟩ := X0.four
  obtain ⟨q0, q1, q2, q3, -, -, -, -, s1⟩ := X1.four
  clear X0 X1
  rcases HW.out with ⟨hr, ho, hk⟩ | ⟨hr, ho, hk⟩
  · have HR : Hid _ := hr
    have HO : Hid _ := ho
    have hq : (eo != 0) = true := by simpa using hk
    clear hr ho HW HE hk
    go_wp2
    refine bodyPost_ret (v := .tuple #[.agg #[.int .i64 0, .int .i64 0, .int .i64 0, .int .i64 0], .int .i64 3]) (by simp [results, Try.results8, go_sem, *]) rfl ⟨⟨_, _, _, _, by rw [HR.out], HO.out⟩, ?_⟩
    exact bel_set4 (by omega) B1.out _ _ _ _
  · have HR : Hid _ := hr
    have HO : Hid _ := ho
    clear hr ho HW HE
    subst hk
    go_wp2
    refine bodyPost_ret (v := .tuple #[.agg #[.int .i64 (z / 4096), .int .i64 (z / 512 % 8), .int .i64 (z / 64 % 8), .int .i64 (z % 64)], .int .i64 0]) (by simp [results, Try.results8, go_sem, *]) rfl ⟨⟨_, _, _, _, by rw [HR.out], HO.out⟩, ?_⟩
    exact bel_set4 (by omega) B1.out _ _ _ _
end Go.Proofs.Ytjgopihlakehcac
/-
  The closed fact drawbridgelaw.coded; the answers where they are known.
-/
namespace Go.Proofs.Ytjgopihlakehcac
open Go.RowKit

theorem cRead_at {z k a b i e1 : Int} {w : World} (hE : riE z = e1) (hO : riX z = (k, a, b, i)) :
    Calls Try.prog 6 #[.int .i64 z] w fun e w' => e = .returned (.tuple #[.agg #[.int .i64 k, .int .i64 a, .int .i64 b, .int .i64 i], .int .i64 e1]) ∧ Below w.heap.size w w' := by
  refine (cRead_any z w).mono ?_
  rintro e w' ⟨⟨k', a', b', i', rfl, h⟩, hb⟩
  rw [hO] at h
  simp only [Prod.mk.injEq] at h
  obtain ⟨rfl, rfl, rfl, rfl⟩ := h
  rw [hE]
  exact ⟨rfl, hb⟩
theorem insOf_at {z k a b i e1 : Int} {w : World} (hE : riE z = e1) (hO : riX z = (k, a, b, i)) :
    Calls Try.prog 8 #[.int .i64 z] w fun e w' => e = .returned (.tuple #[.agg #[.int .i64 k, .int .i64 a, .int .i64 b, .int .i64 i], .int .i64 e1]) ∧ Below w.heap.size w w' := by
  refine (insOf_any z w).mono ?_
  rintro e w' ⟨⟨k', a', b', i', rfl, h⟩, hb⟩
  rw [hO] at h
  simp only [Prod.mk.injEq] at h
  obtain ⟨rfl, rfl, rfl, rfl⟩ := h
  rw [hE]
  exact ⟨rfl, hb⟩
theorem cPut_at {k a b i e1 z : Int} {w : World} (hE : iE k a b i = e1) (hW : iW k a b i = z) :
    Calls Try.prog 5 #[.agg #[.int .i64 k, .int .i64 a, .int .i64 b, .int .i64 i]] w fun e w' => e = .returned (.tuple #[.int .i64 z, .int .i64 e1]) ∧ Below w.heap.size w w' := by
  refine (cPut_any k a b i w).mono ?_
  rintro e w' ⟨rfl, hb⟩
  rw [hE, hW]
  exact ⟨rfl, hb⟩
theorem insWord_at {k a b i e1 z : Int} {w : World} (hE : iE k a b i = e1) (hW : iW k a b i = z) :
    Calls Try.prog 7 #[.agg #[.int .i64 k, .int .i64 a, .int .i64 b, .int .i64 i]] w fun e w' => e = .returned (.tuple #[.int .i64 z, .int .i64 e1]) ∧ Below w.heap.size w w' := by
  refine (insWord_any k a b i w).mono ?_
  rintro e w' ⟨rfl, hb⟩
  rw [hE, hW]
  exact ⟨rfl, hb⟩

set_option maxHeartbeats 2000000 in
theorem coded_true (w : World) : Calls Try.prog 9 #[] w fun e w' => e = .returned (.bool true) ∧ Below w.heap.size w w' := by
  go_enter Try.func9, Try.ntmps9
  go_wp2_with fail
  refine (cPut_at (k := 5) (a := 1) (b := 2) (i := 5) (e1 := 0) (z := 21125) (by decide) (by decide)).mono ?_
  rintro e w1 ⟨rfl, b1⟩
  have X0 := (Box.newAt (w := w) (n := w.heap.size) rfl 23 #[.int .i64 5, .int .i64 1, .int .i64 2, .int .i64 5]).keep b1
  have B1 : Hid (Below w.heap.size w w1) := bel_trans (bel_alloc (Below.refl _ _) _) b1
  clear b1
  go_wp2_with fail
  refine (cRead_at (z := 21125) (k := 5) (a := 1) (b := 2) (i := 5) (e1 := 0) (by decide) (by decide)).mono ?_
  rintro e w2 ⟨rfl, b2⟩
  have X0 := X0.keep b2
  have B2 : Hid (Below w.heap.size w w2) := bel_trans B1.out b2
  clear b2 B1
  go_wp2_with fail
  refine (cRead_at (z := 1) (k := 0) (a := 0) (b := 0) (i := 0) (e1 := 3) (by decide) (by decide)).mono ?_
  rintro e w3 ⟨rfl, b3⟩
  have X0 := (X0.past _).keep b3
  have X1 := (Box.newAt (w := w2) (n := w2.heap.size) rfl 23 #[.int .i64 5, .int .i64 1, .int .i64 2, .int .i64 5]).keep b3
  have B3 : Hid (Below w.heap.size w w3) := bel_trans (bel_alloc B2.out _) b3
  clear b3 B2
  obtain ⟨q0, q1, q2, q3, -, -, -, -, l0⟩ := X0.four
  obtain ⟨p0, p1, p2, p3, -, -, -, -, l1⟩ := X1.four
  clear X0 X1
  go_wp2
  go_ret
  exact ⟨rfl, bel_alloc B3.out _⟩
end Go.Proofs.Ytjgopihlakehcac
/-
  The walk of drawbridgelaw.CodeBack: it answers true, whatever instruction and word it is given; nothing that was there turns.
-/
namespace Go.Proofs.Ytjgopihlakehcac
open Go.RowKit

set_option maxHeartbeats 4000000 in
theorem codeBack_walk (k a b i : Int) (z : Int) (w : World) :
    Calls Try.prog 4 #[.agg #[.int .i64 k, .int .i64 a, .int .i64 b, .int .i64 i], .int .i64 z] w fun e w' => e = .returned (.bool true) ∧ Below w.heap.size w w' := by
  obtain ⟨e1, hE1⟩ : ∃ e1, iE k a b i = e1 := ⟨_, rfl⟩
  obtain ⟨x1, hX1⟩ : ∃ x1, iW k a b i = x1 := ⟨_, rfl⟩
  have HE1 : Hid _ := hE1
  have HX1 : Hid _ := hX1
  clear hE1 hX1
  go_enter Try.func4, Try.ntmps4
  go_wp2_with fail
  refine (cPut_at HE1.out HX1.out).mono ?_
  rintro e w1 ⟨rfl, c1⟩
  have X0 := (Box.newAt (w := w) (n := w.heap.size) rfl 23 #[.int .i64 k, .int .i64 a, .int .i64 b, .int .i64 i]).keep c1
  have B1 : Hid (Below w.heap.size w w1) := bel_trans (bel_alloc (Below.refl _ _) _) c1
  clear c1
  go_upto_if 18 with fail
  go_cut [7, 8] from 17 to 30 (fun a b wx => Below w1.heap.size w1 wx)
  case first =>
    by_cases h1 : e1 = 0
    rotate_left
    · have hq : (e1 == 0) = false := by simpa using h1
      clear h1
      go_wp2
      go_meet
      exact Below.refl _ _
    · subst h1
      have hb := i_back HE1.out
      rw [HX1.out] at hb
      have HB : Hid _ := hb
      clear hb HE1 HX1
      go_wp2_with fail
      refine (cRead_at HB.out.1 HB.out.2).mono ?_
      rintro e w4 ⟨rfl, b4⟩
      have X0 := X0.keep b4
      have B4 : Hid (Below w1.heap.size w1 w4) := b4
      clear b4 B1 HB
      obtain ⟨i0, i1, i2, i3, -, -, -, -, l0⟩ := X0.four
      go_wp2
      go_meet
      exact bel_alloc B4.out _
  case rest =>
    have B2 : Hid (Below w.heap.size w wc) := bel_trans B1.out hcut
    obtain ⟨wA, rfl⟩ : ∃ wA, wA = wc := ⟨wc, rfl⟩
    clear hcut B1 X0 HE1 HX1
    obtain ⟨e2, hE2⟩ : ∃ e2, riE z = e2 := ⟨_, rfl⟩
    obtain ⟨k2, a2, b2, i2, hX2⟩ : ∃ k2 a2 b2 i2, riX z = (k2, a2, b2, i2) := ⟨_, _, _, _, rfl⟩
    have HE2 : Hid _ := hE2
    have HX2 : Hid _ := hX2
    clear hE2 hX2
    go_wp2_with fail
    refine (cRead_at HE2.out HX2.out).mono ?_
    rintro e w3 ⟨rfl, c3⟩
    have B3 : Hid (Below w.heap.size w w3) := bel_trans B2.out c3
    clear c3 B2
    go_wp2_with fail
    refine (coded_true _).mono ?_
    rintro e w4 ⟨rfl, c4⟩
    have X1 := (Box.newAt (w := w3) (n := w3.heap.size) rfl 23 #[.int .i64 k2, .int .i64 a2, .int .i64 b2, .int .i64 i2]).keep c4
    have B4 : Hid (Below w.heap.size w w4) := bel_trans (bel_alloc B3.out _) c4
    clear c4 B3
    by_cases h2 : e2 = 0
    rotate_left
    · have hq : (e2 != 0) = true := by simpa using h2
      clear h2 HE2 HX2 X1
      go_wp2_with fail
      refine (coded_true _).mono ?_
      rintro e w5 ⟨rfl, c5⟩
      have B5 : Hid (Below w.heap.size w w5) := bel_trans B4.out c5
      clear c5 B4
      go_wp2
      go_ret
      exact ⟨rfl, B5.out⟩
    · subst h2
      have hb := i_read HE2.out HX2.out
      have HB : Hid _ := hb
      clear hb HE2 HX2
      obtain ⟨q0, q1, q2, q3, -, -, -, -, l0⟩ := X1.four
      clear X1
      go_wp2_with fail
      refine (cPut_at HB.out.1 HB.out.2).mono ?_
      rintro e w5 ⟨rfl, c5⟩
      have B5 : Hid (Below w.heap.size w w5) := bel_trans B4.out c5
      clear c5 B4 HB q0 q1 q2 q3 l0
      go_wp2
      go_ret
      exact ⟨rfl, B5.out⟩
end Go.Proofs.Ytjgopihlakehcac
/-
  What the openers share.
-/
namespace Go.Proofs.Ytjgopihlakehcac
open Go.ChangeShapes Go.WideShapes Go.ChangeAt Go.RowKit

theorem law_own : ownKnob Try.prog.godebug = none := by kernel_rfl
theorem law_laidOut : laidOutB Try.prog = true := by kernel_rfl
theorem int_cells : Try.prog.cellsOf 3 = 1 := by kernel_rfl
theorem bool_cells : Try.prog.cellsOf 4 = 1 := by kernel_rfl

theorem array5 {cs : List Value} (h : cs.length = 5) : ∃ c0 c1 c2 c3 c4, cs = [c0, c1, c2, c3, c4] := by
  match cs, h with
  | [c0, c1, c2, c3, c4], _ => exact ⟨c0, c1, c2, c3, c4, rfl⟩
theorem array3 {cs : List Value} (h : cs.length = 3) : ∃ c0 c1 c2, cs = [c0, c1, c2] := by
  match cs, h with
  | [c0, c1, c2], _ => exact ⟨c0, c1, c2, rfl⟩
theorem array4 {cs : List Value} (h : cs.length = 4) : ∃ c0 c1 c2 c3, cs = [c0, c1, c2, c3] := by
  match cs, h with
  | [c0, c1, c2, c3], _ => exact ⟨c0, c1, c2, c3, rfl⟩

section
variable {H : Type} {enc : TypeId × Value → H} {W : World}

theorem cell_int {n : Nat} {c : Value} {y : Option (DataW H × List MemPlace)} (h : DataW.trod enc Try.prog W 0 (fun _ => true) true n 3 [c] = y) (hy : y ≠ none) : ∃ a, c = .int .i64 a := by
  cases y with
  | none => exact absurd rfl hy
  | some y =>
    obtain ⟨a, e, _⟩ := DataW.trod_int Try.underlying3 h
    exact ⟨a, by simpa using e⟩
theorem cell_bool {n : Nat} {c : Value} {y : Option (DataW H × List MemPlace)} (h : DataW.trod enc Try.prog W 0 (fun _ => true) true n 4 [c] = y) (hy : y ≠ none) : ∃ a, c = .bool a := by
  cases y with
  | none => exact absurd rfl hy
  | some y =>
    obtain ⟨a, e, _⟩ := DataW.trod_bool Try.underlying4 h
    exact ⟨a, by simpa using e⟩

set_option maxRecDepth 100000 in
theorem cell_intw {n : Nat} {c : Value} {y : Option (DataW H × List MemPlace)} (h : DataW.trod enc Try.prog W 0 (fun _ => true) true n 3 [c] = y) (hy : y ≠ none) : ∃ a, c = .int .i64 a ∧ -9223372036854775808 ≤ a ∧ a ≤ 9223372036854775807 := by
  cases y with
  | none => exact absurd rfl hy
  | some y =>
    obtain ⟨a, e, _, hw⟩ := DataW.trod_int Try.underlying3 h
    refine ⟨a, by simpa using e, ?_⟩
    simp only [Lit.wf, Bool.and_eq_true, decide_eq_true_eq] at hw
    exact hw

end
end Go.Proofs.Ytjgopihlakehcac
