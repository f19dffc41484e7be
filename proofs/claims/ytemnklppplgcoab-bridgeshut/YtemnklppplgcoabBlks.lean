/-
  Blocks of cells that a walk carries over its calls.
-/
import Derived.Test.YtemnklppplgcoabBase
namespace Go.Proofs.Ytemnklppplgcoab
open Go.RowKit

/-- This block holds these cells. -/
def Blk (w : World) (n : Nat) (cs : Array Value) : Prop := ∃ t fr, w.heap[n]? = some (.cells cs t fr)

theorem Blk.lt {w : World} {n : Nat} {cs : Array Value} (h : Blk w n cs) : n < w.heap.size := by
  obtain ⟨t, fr, h⟩ := h
  rcases Nat.lt_or_ge n w.heap.size with k | k
  · exact k
  · rw [Array.getElem?_eq_none k] at h; exact absurd h (by simp)
theorem Blk.keep {w w' : World} {n : Nat} {cs : Array Value} (h : Blk w n cs) (hb : Below w.heap.size w w') : Blk w' n cs := by
  have hl := h.lt
  obtain ⟨t, fr, h⟩ := h
  exact ⟨t, fr, by rw [hb.block n hl]; exact h⟩
theorem Blk.new (w : World) (cs : Array Value) (t : TypeId) (fr : Nat × Nat) : Blk (w.alloc (.cells cs t fr)) w.heap.size cs := ⟨t, fr, heap_at rfl⟩
theorem Blk.newAt {w : World} {n : Nat} (h : n = w.heap.size) (cs : Array Value) (t : TypeId) (fr : Nat × Nat) : Blk (w.alloc (.cells cs t fr)) n cs := ⟨t, fr, heap_at h⟩
theorem Blk.past {w : World} {n : Nat} {cs : Array Value} (h : Blk w n cs) (o : Obj) : Blk (w.alloc o) n cs := h.keep (bel_alloc (Below.refl _ _) _)
theorem Blk.cell {w : World} {n : Nat} {cs : Array Value} (h : Blk w n cs) (i : Nat) : w.cell? ⟨n, i, none⟩ = cs[i]? := by
  obtain ⟨t, fr, h⟩ := h
  exact cell_of_row w n i cs t fr h
theorem Blk.three {w : World} {n : Nat} {a b c : Value} (h : Blk w n #[a, b, c]) : w.cell? ⟨n, 0, none⟩ = some a ∧ w.cell? ⟨n, 1, none⟩ = some b ∧ w.cell? ⟨n, 2, none⟩ = some c :=
  ⟨h.cell 0, h.cell 1, h.cell 2⟩
theorem Blk.five {w : World} {n : Nat} {a b c d e : Value} (h : Blk w n #[a, b, c, d, e]) :
    w.cell? ⟨n, 0, none⟩ = some a ∧ w.cell? ⟨n, 1, none⟩ = some b ∧ w.cell? ⟨n, 2, none⟩ = some c ∧ w.cell? ⟨n, 3, none⟩ = some d ∧ w.cell? ⟨n, 4, none⟩ = some e :=
  ⟨h.cell 0, h.cell 1, h.cell 2, h.cell 3, h.cell 4⟩

/-- Five stores into one block that is new. -/
theorem bel_set5 {a w : World} {n : Nat} (hp : a.heap.size ≤ n) (h : Below a.heap.size a w) (u0 u1 u2 u3 u4 : Value) :
    Below a.heap.size a (((((w.setCell ⟨n, 0, none⟩ u0).setCell ⟨n, 1, none⟩ u1).setCell ⟨n, 2, none⟩ u2).setCell ⟨n, 3, none⟩ u3).setCell ⟨n, 4, none⟩ u4) :=
  ((((h.setCell (p := ⟨n, 0, none⟩) hp u0).setCell (p := ⟨n, 1, none⟩) hp u1).setCell (p := ⟨n, 2, none⟩) hp u2).setCell (p := ⟨n, 3, none⟩) hp u3).setCell (p := ⟨n, 4, none⟩) hp u4
theorem bel_set {a w : World} {p : Addr} (hp : a.heap.size ≤ p.block) (h : Below a.heap.size a w) (u : Value) : Below a.heap.size a (w.setCell p u) := h.setCell hp u

theorem below_drew {a w : World} (h : Below a.heap.size a w) : Below a.heap.size a w.drew := h.drew

theorem blk_set5 {w : World} {n : Nat} {t : TypeId} {a0 a1 a2 a3 a4 : Value} (h : w.heap[n]? = some (.cells #[a0, a1, a2, a3, a4] t (0, 0))) (u0 u1 u2 u3 u4 : Value) :
    Blk (((((w.setCell ⟨n, 0, none⟩ u0).setCell ⟨n, 1, none⟩ u1).setCell ⟨n, 2, none⟩ u2).setCell ⟨n, 3, none⟩ u3).setCell ⟨n, 4, none⟩ u4) n #[u0, u1, u2, u3, u4] := by
  have h0 := heap_setCell_same w n 0 _ t u0 h
  have h1 := heap_setCell_same _ n 1 _ t u1 h0
  have h2 := heap_setCell_same _ n 2 _ t u2 h1
  have h3 := heap_setCell_same _ n 3 _ t u3 h2
  have h4 := heap_setCell_same _ n 4 _ t u4 h3
  exact ⟨t, (0, 0), h4⟩
theorem heap_kept {W w1 : World} {n : Nat} {x : Option Obj} (hb : Below W.heap.size W w1) (hl : n < W.heap.size) (h : W.heap[n]? = x) : w1.heap[n]? = x := by rw [hb.block n hl]; exact h
end Go.Proofs.Ytemnklppplgcoab
