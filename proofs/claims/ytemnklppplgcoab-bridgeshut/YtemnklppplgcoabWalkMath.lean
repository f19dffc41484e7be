/-
  What Walk answers, held against itself: with another right, with another word of memory.
-/
import Derived.Test.YtemnklppplgcoabWith
import Derived.Test.YtemnklppplgcoabAt
namespace Go.Proofs.Ytemnklppplgcoab
open Go.RowKit

theorem at64_in (k : Int) (w : World) :
    Calls Try.prog 34 #[.int .i64 k, .int .i64 64] w fun e w' => ∃ i, e = .returned (.int .i64 i) ∧ pageB i = true ∧ w' = w :=
  (at64_any k w).mono fun e w' ⟨he, hw⟩ => ⟨k % 64, he, by simp [pageB]; omega, hw⟩

theorem vE_of_flt {z : Int} (h : fltR z = 0) : vE z = true := by
  unfold fltR at h
  cases ho : okE z
  · simp [ho] at h
  · cases hv : vE z
    · simp [ho, hv] at h
    · rfl
/-- What find tells with no fault is valid, and a leaf. -/
theorem fnd_good {zs : List Int} {root page : Int} {b r x l : Bool} {p : Int} (h : fnd zs root page = ((b, r, x, l, p), 0)) : b = true ∧ l = true := by
  unfold fnd at h
  by_cases h1 : fltR (one zs root page) = 0
  · rw [if_pos h1] at h
    by_cases h2 : lE (one zs root page) = true
    · rw [if_pos h2] at h
      by_cases h3 : pE (one zs root page) % 8 = 0
      · rw [if_pos h3] at h
        simp only [Prod.mk.injEq] at h
        obtain ⟨⟨e1, _, _, e4, _⟩, _⟩ := h
        exact ⟨e1 ▸ vE_of_flt h1, e4 ▸ h2⟩
      · rw [if_neg h3] at h
        simp only [Prod.mk.injEq] at h
        omega
    · rw [if_neg h2] at h
      by_cases h3 : fltR (two zs root page) = 0
      · rw [if_pos h3] at h
        by_cases h4 : lE (two zs root page) = true
        · rw [if_pos h4, entE] at h
          simp only [Prod.mk.injEq] at h
          obtain ⟨⟨e1, _, _, e4, _⟩, _⟩ := h
          exact ⟨e1 ▸ vE_of_flt h3, e4 ▸ h4⟩
        · rw [if_neg h4] at h
          simp only [Prod.mk.injEq] at h
          omega
      · rw [if_neg h3] at h
        simp only [Prod.mk.injEq] at h
        exact absurd h.2 h3
  · rw [if_neg h1] at h
    simp only [Prod.mk.injEq] at h
    exact absurd h.2 h1

/-- Walk of right memory: a fault, whatever the right; a leaf for both; a leaf to read alone. -/
theorem wkd_ways {zs : List Int} {root page : Int} (hk : chk zs = 0) (hd : pageB root = true ∧ pageB page = true) :
    (∃ f, ¬ f = 0 ∧ ∀ wr, wkd zs root page wr = ((false, false, false, false, 0), f, 0)) ∨
    (∃ p, ∀ wr, wkd zs root page wr = ((true, true, true, true, p), 0, 0)) ∨
    (∃ p, wkd zs root page false = ((true, true, false, true, p), 0, 0) ∧ wkd zs root page true = ((false, false, false, false, 0), 5, 0)) := by
  obtain ⟨⟨⟨b, r, x, l, p⟩, f⟩, hF⟩ : ∃ F, fnd zs root page = F := ⟨_, rfl⟩
  have hw : ∀ wr, wkd zs root page wr = if f = 0 then (if (r && (x || !wr)) = true then ((b, r, x, l, p), 0, 0) else ((false, false, false, false, 0), 5, 0)) else ((false, false, false, false, 0), f, 0) := by
    intro wr
    rw [wkd, if_pos hk, if_pos hd, wkF, hF]
    by_cases h : f = 0
    · simp only [h, if_true]
      split <;> rfl
    · simp only [h, if_false]
      rfl
  by_cases h : f = 0
  · subst h
    obtain ⟨rfl, rfl⟩ := fnd_good hF
    cases r
    · exact .inl ⟨5, by decide, fun wr => by rw [hw]; rfl⟩
    cases x
    · exact .inr (.inr ⟨p, by rw [hw]; rfl, by rw [hw]; rfl⟩)
    · exact .inr (.inl ⟨p, fun wr => by rw [hw]; rfl⟩)
  · exact .inl ⟨f, h, fun wr => by rw [hw, if_neg h]⟩

/-- Another word of memory changes nothing. -/
theorem fnd_set {zs : List Int} {root page : Int} {k : Nat} {x : Int} (h1 : ¬ k = (8 * root + page / 8).toNat)
    (h2 : vE (one zs root page) = true → lE (one zs root page) = false → ¬ k = (8 * pE (one zs root page) + page % 8).toNat) : fnd (zs.set k x) root page = fnd zs root page := by
  have e1 : one (zs.set k x) root page = one zs root page := nth_set_other h1 x
  unfold fnd
  rw [e1]
  by_cases g1 : fltR (one zs root page) = 0
  · rw [if_pos g1, if_pos g1]
    by_cases g2 : lE (one zs root page) = true
    · rw [if_pos g2, if_pos g2]
    · have e2 : two (zs.set k x) root page = two zs root page := by
        unfold two
        rw [e1]
        exact nth_set_other (h2 (vE_of_flt g1) (by simpa using g2)) x
      rw [if_neg g2, if_neg g2, e2]
  · rw [if_neg g1, if_neg g1]
theorem wkd_set {zs : List Int} {root page : Int} {k : Nat} {x : Int} (wr : Bool) (hk : chk zs = 0) (hx : wordB x = true) (hf : fnd (zs.set k x) root page = fnd zs root page) : wkd (zs.set k x) root page wr = wkd zs root page wr := by
  unfold wkd wkF
  rw [if_pos hk, if_pos (chk_set hk hx), hf]
end Go.Proofs.Ytemnklppplgcoab
