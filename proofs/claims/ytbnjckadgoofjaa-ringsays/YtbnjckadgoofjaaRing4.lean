/-
  drawbridgeref's CheckRing, LengthOf, Pushed, Popped: what they answer; nothing that was there turns.
-/
import Derived.Test.YtbnjckadgoofjaaRing3
namespace Go.Proofs.Ytbnjckadgoofjaa
open Go.RowKit

theorem between_page (z : Int) : betweenB 0 63 z = pageR z := by unfold betweenB pageR; exact decide_eq_decide.2 (by omega)
theorem between_step (z : Int) : betweenB 0 7 z = stepR z := by unfold betweenB stepR; exact decide_eq_decide.2 (by omega)

set_option maxHeartbeats 1000000 in
theorem checkRing_any (p h t : Int) (w : World) :
    Calls Try.prog 53 #[.agg #[.int .i64 p, .int .i64 h, .int .i64 t]] w fun e w' => e = .returned (.int .i64 (chkR p h t)) ∧ w' = w.alloc (ringB p h t) := by
  cases a : pageR p
  · have : chkR p h t = 2 := by simp [chkR, a]
    rw [this]
    go_enter Try.func53, Try.ntmps53
    go_wp2_with (go_at_call 58; refine (in_any _ _ _ _).mono ?_; rintro e w' ⟨rfl, rfl⟩; first | rw [between_page] | rw [between_step])
    go_ret
    exact ⟨rfl, rfl⟩
  cases b : stepR h
  · have : chkR p h t = 2 := by simp [chkR, a, b]
    rw [this]
    go_enter Try.func53, Try.ntmps53
    go_wp2_with (go_at_call 58; refine (in_any _ _ _ _).mono ?_; rintro e w' ⟨rfl, rfl⟩; first | rw [between_page] | rw [between_step])
    go_ret
    exact ⟨rfl, rfl⟩
  cases c : stepR t
  · have : chkR p h t = 2 := by simp [chkR, a, b, c]
    rw [this]
    go_enter Try.func53, Try.ntmps53
    go_wp2_with (go_at_call 58; refine (in_any _ _ _ _).mono ?_; rintro e w' ⟨rfl, rfl⟩; first | rw [between_page] | rw [between_step])
    go_ret
    exact ⟨rfl, rfl⟩
  have : chkR p h t = 0 := by simp [chkR, a, b, c]
  rw [this]
  go_enter Try.func53, Try.ntmps53
  go_wp2_with (go_at_call 58; refine (in_any _ _ _ _).mono ?_; rintro e w' ⟨rfl, rfl⟩; first | rw [between_page] | rw [between_step])
  go_ret
  exact ⟨rfl, rfl⟩

set_option maxHeartbeats 1000000 in
/-- LengthOf a right ring. -/
theorem lengthOf_any (p h t : Int) (w : World) (hh : 0 ≤ h ∧ h < 8) (ht : 0 ≤ t ∧ t < 8) :
    Calls Try.prog 55 #[.agg #[.int .i64 p, .int .i64 h, .int .i64 t]] w fun e w' => e = .returned (.int .i64 (lenR h t)) ∧ w' = w.alloc (ringB p h t) := by
  have HH : Hid (0 ≤ h ∧ h < 8) := hh
  have HT : Hid (0 ≤ t ∧ t < 8) := ht
  have HL : Hid (lenR h t = (t - h + 8) % 8) := rfl
  clear hh ht
  go_enter Try.func55, Try.ntmps55
  go_wp2
  go_loop [3, 4] (fun a b => ∃ i : Nat, a = .int .i64 i ∧ b = .int .i64 ((h + i) % 8) ∧ (i : Int) ≤ lenR h t) (fun a _ => 8 - (intOf a).toNat)
  case atStart =>
    obtain ⟨h0, h1⟩ := HH.out
    refine ⟨0, rfl, ?_, ?_⟩
    · congr 1; simp; omega
    · rw [HL.out]; simp; omega
  case round =>
    obtain ⟨i, rfl, rfl, hi⟩ := hrel
    obtain ⟨h0, h1⟩ := HH.out
    obtain ⟨t0, t1⟩ := HT.out
    have hl := HL.out
    have Hl : Hid (lenR h t = (t - h + 8) % 8) := HL.out
    have Hi : Hid ((i : Int) ≤ lenR h t) := hi
    by_cases he : (h + i) % 8 = t
    · have hq : ((h + (i : Int)) % 8 != t) = false := by simpa using he
      have HD : Hid ((i : Int) = lenR h t) := by show _ = _; omega
      clear he hl hi
      go_wp2
      go_ret
      exact ⟨ret_int HD.out, rfl⟩
    · have hq : ((h + (i : Int)) % 8 != t) = true := by simpa using he
      have HD : Hid ((i : Int) + 1 ≤ lenR h t ∧ lenR h t < 8 ∧ ((h + i) % 8 + 1) % 8 = (h + ((i + 1 : Nat) : Int)) % 8) := by refine ⟨?_, ?_, ?_⟩ <;> omega
      have k0 : 0 ≤ (h + (i : Int)) % 8 := by omega
      have k1 : (h + (i : Int)) % 8 < 8 := by omega
      clear he hl hi
      generalize hk : (h + (i : Int)) % 8 = k at *
      have hi8 : (i : Int) < 8 := by have := HD.out; omega
      go_wp2
      refine ⟨⟨i + 1, by go_num, ?_, by have := HD.out; omega⟩, by simp [intOf]; omega⟩
      rw [← HD.out.2.2]
end Go.Proofs.Ytbnjckadgoofjaa
