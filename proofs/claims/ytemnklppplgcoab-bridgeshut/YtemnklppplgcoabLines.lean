/-
  A slice of lines reads as a list of lines in a world (Ls); nothing of it turns while the world only grows.
-/
import Derived.Test.YtemnklppplgcoabCacheMath
import Derived.Test.YtemnklppplgcoabBlks
namespace Go.Proofs.Ytemnklppplgcoab
open Go.RowKit

/-- The five cells of a line. -/
def cellsL (x : Ln) : List Value := [.int .i64 x.1, .int .i64 x.2.1, .int .i64 x.2.2.1, .bool x.2.2.2.1, .bool x.2.2.2.2]
/-- At this place of memory lies this line. -/
def AtL (w : World) (b o : Nat) (x : Ln) : Prop :=
  w.cell? ⟨b, o, none⟩ = some (.int .i64 x.1) ∧ w.cell? ⟨b, o + 1, none⟩ = some (.int .i64 x.2.1) ∧ w.cell? ⟨b, o + 2, none⟩ = some (.int .i64 x.2.2.1) ∧ w.cell? ⟨b, o + 3, none⟩ = some (.bool x.2.2.2.1) ∧ w.cell? ⟨b, o + 4, none⟩ = some (.bool x.2.2.2.2)

/-- A slice reads as a list of lines in a world. -/
def Ls (w : World) (v : Value) (l : List Ln) : Prop :=
  ∃ a cap, v = .slice a l.length cap ∧ l.length ≤ cap ∧ cap ≤ maxLen ∧
    (l = [] ∨ ∃ b o, a = some ⟨b, o, none⟩ ∧ b < w.heap.size ∧ ∀ i, i < l.length → AtL w b (o + i * 5) (lth l i))

theorem AtL.keep {w w' : World} {b o : Nat} {x : Ln} (h : AtL w b o x) (hb : Below w.heap.size w w') (hl : b < w.heap.size) : AtL w' b o x := by
  obtain ⟨c, _⟩ := bcell hb
  unfold AtL
  rw [c _ _ hl, c _ _ hl, c _ _ hl, c _ _ hl, c _ _ hl]
  exact h
theorem Ls.keep {w w' : World} {v : Value} {l : List Ln} (h : Ls w v l) (hb : Below w.heap.size w w') : Ls w' v l := by
  obtain ⟨a, cap, rfl, hl, hm, h⟩ := h
  refine ⟨a, cap, rfl, hl, hm, ?_⟩
  rcases h with h | ⟨b, o, rfl, hlt, hc⟩
  · exact .inl h
  · exact .inr ⟨b, o, rfl, Nat.lt_of_lt_of_le hlt hb.size, fun i hi => (hc i hi).keep hb hlt⟩
theorem Ls.alloc {w : World} {v : Value} {l : List Ln} (h : Ls w v l) (o : Obj) : Ls (w.alloc o) v l := h.keep (bel_alloc (Below.refl _ _) _)
theorem Ls.nil (w : World) (a : Option Addr) (cap : Nat) (h : cap ≤ maxLen) : Ls w (.slice a 0 cap) [] := ⟨a, cap, rfl, Nat.zero_le _, h, .inl rfl⟩
theorem Ls.nothing (w : World) : Ls w (.slice none 0 0) [] := Ls.nil w _ _ (Nat.zero_le _)

/-- What holds at the places so far, and at the next one. -/
theorem upto_next {P : Nat → Prop} {k : Nat} (h : ∀ j, j < k → P j) (hk : P k) : ∀ j, j < k + 1 → P j := fun j hj => by
  by_cases e : j = k
  · rw [e]; exact hk
  · exact h j (by omega)
end Go.Proofs.Ytemnklppplgcoab
