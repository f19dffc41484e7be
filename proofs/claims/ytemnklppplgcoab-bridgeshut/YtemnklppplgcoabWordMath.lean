/-
  Orders and faults as words: numbers alone.
-/
import Derived.Test.YtemnklppplgcoabBase
namespace Go.Proofs.Ytemnklppplgcoab
open Go.RowKit

/-- What is wrong with an order; its word. -/
def oE (k d p : Int) : Int := if (0 ≤ k ∧ k ≤ 3) ∧ (0 ≤ d ∧ d ≤ 7) ∧ (0 ≤ p ∧ p ≤ 63) then (if (0 < d ∧ k < 2) ∨ (0 < p ∧ k < 3) then 3 else 0) else 2
def oW (k d p : Int) : Int := if oE k d p = 0 then k + 4 * d + 32 * p else 0
/-- A word that is read as an order. -/
def roE (w : Int) : Int := if 0 ≤ w ∧ w ≤ 65535 then (if oE (w % 4) (w / 4 % 8) (w / 32) = 0 then 0 else 3) else 2
def roO (w : Int) : Int × Int × Int := if roE w = 0 then (w % 4, w / 4 % 8, w / 32) else (0, 0, 0)

theorem oE_cases (k d p : Int) : oE k d p = 0 ∨ oE k d p = 2 ∨ oE k d p = 3 := by
  unfold oE; split
  · split
    · exact .inr (.inr rfl)
    · exact .inl rfl
  · exact .inr (.inl rfl)
theorem oE_ok {k d p : Int} (h : oE k d p = 0) : (0 ≤ k ∧ k ≤ 3) ∧ (0 ≤ d ∧ d ≤ 7) ∧ (0 ≤ p ∧ p ≤ 63) ∧ ¬ (0 < d ∧ k < 2) ∧ ¬ (0 < p ∧ k < 3) := by
  unfold oE at h
  split at h
  · rename_i h1
    split at h
    · exact absurd h (by decide)
    · rename_i h2
      exact ⟨h1.1, h1.2.1, h1.2.2, fun x => h2 (.inl x), fun x => h2 (.inr x)⟩
  · exact absurd h (by decide)
theorem oE_mk {k d p : Int} (h1 : 0 ≤ k ∧ k ≤ 3) (h2 : 0 ≤ d ∧ d ≤ 7) (h3 : 0 ≤ p ∧ p ≤ 63) (h4 : ¬ (0 < d ∧ k < 2)) (h5 : ¬ (0 < p ∧ k < 3)) : oE k d p = 0 := by
  unfold oE; rw [if_pos ⟨h1, h2, h3⟩, if_neg (fun h => h.elim h4 h5)]
theorem oW_ok {k d p : Int} (h : oE k d p = 0) : oW k d p = k + 4 * d + 32 * p := if_pos h
theorem roE_ok {w : Int} (h : roE w = 0) : (0 ≤ w ∧ w ≤ 65535) ∧ oE (w % 4) (w / 4 % 8) (w / 32) = 0 := by
  unfold roE at h
  split at h
  · rename_i h1
    split at h
    · rename_i h2; exact ⟨h1, h2⟩
    · exact absurd h (by decide)
  · exact absurd h (by decide)
theorem roE_mk {w : Int} (h1 : 0 ≤ w ∧ w ≤ 65535) (h2 : oE (w % 4) (w / 4 % 8) (w / 32) = 0) : roE w = 0 := by unfold roE; rw [if_pos h1, if_pos h2]

/-- What is put is read; what is read is put as it was; unlike ones have unlike words. -/
theorem o_back {k d p : Int} (h : oE k d p = 0) : roE (oW k d p) = 0 ∧ roO (oW k d p) = (k, d, p) := by
  obtain ⟨h1, h2, h3, h4, h5⟩ := oE_ok h
  have e1 : oW k d p % 4 = k := by rw [oW_ok h]; omega
  have e2 : oW k d p / 4 % 8 = d := by rw [oW_ok h]; omega
  have e3 : oW k d p / 32 = p := by rw [oW_ok h]; omega
  have hr : roE (oW k d p) = 0 := roE_mk (by rw [oW_ok h]; omega) (by rw [e1, e2, e3]; exact h)
  exact ⟨hr, by rw [roO, if_pos hr, e1, e2, e3]⟩
theorem o_read {w k d p : Int} (h : roE w = 0) (e : roO w = (k, d, p)) : oE k d p = 0 ∧ oW k d p = w := by
  obtain ⟨h1, h2⟩ := roE_ok h
  rw [roO, if_pos h] at e
  simp only [Prod.mk.injEq] at e
  obtain ⟨rfl, rfl, rfl⟩ := e
  exact ⟨h2, by rw [oW_ok h2]; omega⟩
theorem o_like {k d p k' d' p' : Int} (h : oE k d p = 0) (h' : oE k' d' p' = 0) : oW k d p = oW k' d' p' ↔ k = k' ∧ d = d' ∧ p = p' := by
  constructor
  · intro e
    have a := (o_back h).2
    rw [e, (o_back h').2] at a
    simp only [Prod.mk.injEq] at a
    exact ⟨a.1.symm, a.2.1.symm, a.2.2.symm⟩
  · rintro ⟨rfl, rfl, rfl⟩; rfl

/-- What is wrong with a fault; its word. -/
def fE (c d p : Int) : Int := if (1 ≤ c ∧ c ≤ 5) ∧ (0 ≤ d ∧ d ≤ 7) ∧ (0 ≤ p ∧ p ≤ 63) then 0 else 2
def fX (x : Bool) : Int := if x = true then 4096 else 0
def fW (c d p : Int) (x : Bool) : Int := if fE c d p = 0 then c + 8 * d + 64 * p + fX x else 0
/-- A word that is read as a fault. -/
def rfE (w : Int) : Int := if 0 ≤ w ∧ w ≤ 65535 then (if fE (w % 8) (w / 8 % 8) (w / 64 % 64) = 0 ∧ w < 8192 then 0 else 3) else 2
def rfF (w : Int) : Int × Int × Int × Bool := if rfE w = 0 then (w % 8, w / 8 % 8, w / 64 % 64, decide (w / 4096 = 1)) else (0, 0, 0, false)

theorem fE_ok {c d p : Int} (h : fE c d p = 0) : (1 ≤ c ∧ c ≤ 5) ∧ (0 ≤ d ∧ d ≤ 7) ∧ (0 ≤ p ∧ p ≤ 63) := by
  unfold fE at h; split at h
  · rename_i h1; exact h1
  · exact absurd h (by decide)
theorem fE_mk {c d p : Int} (h1 : 1 ≤ c ∧ c ≤ 5) (h2 : 0 ≤ d ∧ d ≤ 7) (h3 : 0 ≤ p ∧ p ≤ 63) : fE c d p = 0 := if_pos ⟨h1, h2, h3⟩
theorem fE_cases (c d p : Int) : fE c d p = 0 ∨ fE c d p = 2 := by
  unfold fE; split
  · exact .inl rfl
  · exact .inr rfl
theorem fW_ok {c d p : Int} {x : Bool} (h : fE c d p = 0) : fW c d p x = c + 8 * d + 64 * p + fX x := if_pos h
theorem fX_cases (x : Bool) : (x = true ∧ fX x = 4096) ∨ (x = false ∧ fX x = 0) := by cases x <;> simp [fX]
theorem rfE_ok {w : Int} (h : rfE w = 0) : (0 ≤ w ∧ w ≤ 65535) ∧ fE (w % 8) (w / 8 % 8) (w / 64 % 64) = 0 ∧ w < 8192 := by
  unfold rfE at h
  split at h
  · rename_i h1
    split at h
    · rename_i h2; exact ⟨h1, h2⟩
    · exact absurd h (by decide)
  · exact absurd h (by decide)
theorem rfE_mk {w : Int} (h1 : 0 ≤ w ∧ w ≤ 65535) (h2 : fE (w % 8) (w / 8 % 8) (w / 64 % 64) = 0) (h3 : w < 8192) : rfE w = 0 := by unfold rfE; rw [if_pos h1, if_pos ⟨h2, h3⟩]
theorem f_back {c d p : Int} {x : Bool} (h : fE c d p = 0) : rfE (fW c d p x) = 0 ∧ rfF (fW c d p x) = (c, d, p, x) := by
  obtain ⟨h1, h2, h3⟩ := fE_ok h
  obtain ⟨w, hw⟩ : ∃ w, fW c d p x = w := ⟨_, rfl⟩
  have ew := fW_ok (x := x) h
  rw [hw] at ew ⊢
  have hx := fX_cases x
  have e1 : w % 8 = c := by rcases hx with ⟨_, hx⟩ | ⟨_, hx⟩ <;> rw [hx] at ew <;> omega
  have e2 : w / 8 % 8 = d := by rcases hx with ⟨_, hx⟩ | ⟨_, hx⟩ <;> rw [hx] at ew <;> omega
  have e3 : w / 64 % 64 = p := by rcases hx with ⟨_, hx⟩ | ⟨_, hx⟩ <;> rw [hx] at ew <;> omega
  have e4 : decide (w / 4096 = 1) = x := by
    rcases hx with ⟨hb, hx⟩ | ⟨hb, hx⟩
    · rw [hx] at ew; rw [hb]; exact decide_eq_true (by omega)
    · rw [hx] at ew; rw [hb]; exact decide_eq_false (by omega)
  have hr : rfE w = 0 := rfE_mk (by rcases hx with ⟨_, hx⟩ | ⟨_, hx⟩ <;> rw [hx] at ew <;> omega) (by rw [e1, e2, e3]; exact h) (by rcases hx with ⟨_, hx⟩ | ⟨_, hx⟩ <;> rw [hx] at ew <;> omega)
  exact ⟨hr, by rw [rfF, if_pos hr, e1, e2, e3, e4]⟩
theorem f_read {w c d p : Int} {x : Bool} (h : rfE w = 0) (e : rfF w = (c, d, p, x)) : fE c d p = 0 ∧ fW c d p x = w := by
  obtain ⟨h1, h2, h3⟩ := rfE_ok h
  rw [rfF, if_pos h] at e
  simp only [Prod.mk.injEq] at e
  obtain ⟨rfl, rfl, rfl, rfl⟩ := e
  refine ⟨h2, ?_⟩
  rw [fW_ok h2]
  by_cases hx : w / 4096 = 1
  · rw [show decide (w / 4096 = 1) = true from decide_eq_true hx, show fX true = 4096 from rfl]; omega
  · rw [show decide (w / 4096 = 1) = false from decide_eq_false hx, show fX false = 0 from rfl]; omega
end Go.Proofs.Ytemnklppplgcoab
