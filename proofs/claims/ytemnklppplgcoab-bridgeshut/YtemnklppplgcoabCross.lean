/-
  A store into a memory of numbers turns no line of a cache; a store over a slice turns none either.
-/
import Derived.Test.YtemnklppplgcoabLines
namespace Go.Proofs.Ytemnklppplgcoab
open Go.RowKit

theorem AtL.other {w : World} {b o : Nat} {x : Ln} (h : AtL w b o x) {p : Addr} {u : Value} (hp : ∀ j, j < 5 → p ≠ ⟨b, o + j, none⟩) : AtL (w.setCell p u) b o x := by
  obtain ⟨h0, h1, h2, h3, h4⟩ := h
  refine ⟨?_, ?_, ?_, ?_, ?_⟩
  · rw [World.cell?_setCell_other (h := (by simpa using hp 0 (by omega) : p ≠ ⟨b, o, none⟩))]; exact h0
  · rw [World.cell?_setCell_other (h := hp 1 (by omega))]; exact h1
  · rw [World.cell?_setCell_other (h := hp 2 (by omega))]; exact h2
  · rw [World.cell?_setCell_other (h := hp 3 (by omega))]; exact h3
  · rw [World.cell?_setCell_other (h := hp 4 (by omega))]; exact h4
/-- None of a line's cells has three numbers behind it, all in one block. -/
theorem AtL.not_four {w : World} {b o : Nat} {x : Ln} (h : AtL w b o x) {q : Nat} (hq : ∀ j, j < 4 → ∃ z, w.cell? ⟨b, q + j, none⟩ = some (.int .i64 z)) : ∀ j, j < 5 → q ≠ o + j := by
  obtain ⟨_, _, _, h3, h4⟩ := h
  intro j hj e
  subst e
  by_cases hj3 : j ≤ 3
  · obtain ⟨z, hz⟩ := hq (3 - j) (by omega)
    rw [show o + j + (3 - j) = o + 3 by omega, h3] at hz
    simp at hz
  · obtain rfl : j = 4 := by omega
    obtain ⟨z, hz⟩ := hq 0 (by omega)
    rw [Nat.add_zero, h4] at hz
    simp at hz
theorem Ls.other {w : World} {v : Value} {l : List Ln} (h : Ls w v l) {p : Addr} {u : Value} (hp : ∀ b o x, AtL w b o x → ∀ j, j < 5 → p ≠ ⟨b, o + j, none⟩) : Ls (w.setCell p u) v l := by
  obtain ⟨a, cap, rfl, hl, hm, h⟩ := h
  refine ⟨a, cap, rfl, hl, hm, ?_⟩
  rcases h with h | ⟨b, o, rfl, hlt, hc⟩
  · exact .inl h
  · exact .inr ⟨b, o, rfl, by simpa [World.setCell] using hlt, fun i hi => (hc i hi).other (hp b _ _ (hc i hi))⟩
/-- A store into a memory, not at its end. -/
theorem Ls.setSl {w : World} {v : Value} {l : List Ln} (h : Ls w v l) {bm om n c k : Nat} {zs : List Int} (hs : Sl w (.slice (some ⟨bm, om, none⟩) n c) zs) (hk : k + 3 < zs.length) (u : Value) : Ls (w.setCell ⟨bm, om + k, none⟩ u) v l := by
  obtain ⟨a', cap', he, _, hs⟩ := hs
  simp only [Value.slice.injEq] at he
  obtain ⟨rfl, rfl, rfl⟩ := he
  rcases hs with hs | ⟨b', o', he, _, hc⟩
  · rw [hs] at hk; exact absurd hk (by simp)
  · simp only [Option.some.injEq, Addr.mk.injEq] at he
    obtain ⟨rfl, rfl, -⟩ := he
    refine h.other fun b o x hx j hj e => ?_
    simp only [Addr.mk.injEq] at e
    obtain ⟨rfl, e, -⟩ := e
    exact hx.not_four (q := om + k) (fun i hi => ⟨_, by rw [Nat.add_assoc]; exact hc (k + i) (by omega)⟩) j hj e
/-- A store over a slice. -/
theorem Ls.setSlice {w : World} {v : Value} {l : List Ln} (h : Ls w v l) {p : Addr} {a : Option Addr} {n c : Nat} (hp : w.cell? p = some (.slice a n c)) (u : Value) : Ls (w.setCell p u) v l := by
  refine h.other fun b o x hx j hj e => ?_
  obtain ⟨h0, h1, h2, h3, h4⟩ := hx
  rw [e] at hp
  obtain rfl | rfl | rfl | rfl | rfl : j = 0 ∨ j = 1 ∨ j = 2 ∨ j = 3 ∨ j = 4 := by omega
  · rw [Nat.add_zero, h0] at hp; simp at hp
  · rw [h1] at hp; simp at hp
  · rw [h2] at hp; simp at hp
  · rw [h3] at hp; simp at hp
  · rw [h4] at hp; simp at hp
end Go.Proofs.Ytemnklppplgcoab
