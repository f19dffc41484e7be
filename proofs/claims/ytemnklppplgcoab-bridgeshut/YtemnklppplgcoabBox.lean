/-
  A variable's own block: the cells it holds, none of them frozen; carried over calls, new blocks, stores.
-/
import Derived.Test.YtemnklppplgcoabBlks
namespace Go.Proofs.Ytemnklppplgcoab
open Go.RowKit

/-- This block holds these cells, and may be written. -/
def Box (w : World) (n : Nat) (t : TypeId) (cs : Array Value) : Prop := w.heap[n]? = some (.cells cs t (0, 0))

theorem Box.blk {w : World} {n : Nat} {t : TypeId} {cs : Array Value} (h : Box w n t cs) : Blk w n cs := ⟨t, (0, 0), h⟩
theorem Box.lt {w : World} {n : Nat} {t : TypeId} {cs : Array Value} (h : Box w n t cs) : n < w.heap.size := h.blk.lt
theorem Box.keep {w w' : World} {n : Nat} {t : TypeId} {cs : Array Value} (h : Box w n t cs) (hb : Below w.heap.size w w') : Box w' n t cs := heap_kept hb h.lt h
theorem Box.newAt {w : World} {n : Nat} (h : n = w.heap.size) (t : TypeId) (cs : Array Value) : Box (w.alloc (.cells cs t)) n t cs := heap_at h
theorem Box.past {w : World} {n : Nat} {t : TypeId} {cs : Array Value} (h : Box w n t cs) (o : Obj) : Box (w.alloc o) n t cs := heap_past h.lt h
theorem Box.cell {w : World} {n : Nat} {t : TypeId} {cs : Array Value} (h : Box w n t cs) (i : Nat) : w.cell? ⟨n, i, none⟩ = cs[i]? := h.blk.cell i
theorem Box.frozen {w : World} {n : Nat} {t : TypeId} {cs : Array Value} (h : Box w n t cs) (i : Nat) : w.frozen? ⟨n, i, none⟩ = false := frozen_of_row w n _ _ _ h
theorem Box.set {w : World} {n : Nat} {t : TypeId} {cs : Array Value} (h : Box w n t cs) (i : Nat) (u : Value) : Box (w.setCell ⟨n, i, none⟩ u) n t (cs.setIfInBounds i u) := heap_setCell_same w n i cs t u h
theorem Box.other {w : World} {n : Nat} {t : TypeId} {cs : Array Value} (h : Box w n t cs) {p : Addr} (hp : n ≠ p.block) (u : Value) : Box (w.setCell p u) n t cs := by
  unfold Box; rw [heap_setCell_other w p n u hp]; exact h
theorem Box.drew {w : World} {n : Nat} {t : TypeId} {cs : Array Value} (h : Box w n t cs) : Box w.drew n t cs := h
theorem Box.drewN {w : World} {n : Nat} {t : TypeId} {cs : Array Value} (h : Box w n t cs) (k : Nat) : Box (w.drewN k) n t cs := h
/-- One cell, three cells, with their marks. -/
theorem Box.one {w : World} {n : Nat} {t : TypeId} {a : Value} (h : Box w n t #[a]) : w.cell? ⟨n, 0, none⟩ = some a ∧ w.frozen? ⟨n, 0, none⟩ = false ∧ n < w.heap.size := ⟨h.cell 0, h.frozen 0, h.lt⟩
theorem Box.three {w : World} {n : Nat} {t : TypeId} {a b c : Value} (h : Box w n t #[a, b, c]) :
    w.cell? ⟨n, 0, none⟩ = some a ∧ w.cell? ⟨n, 1, none⟩ = some b ∧ w.cell? ⟨n, 2, none⟩ = some c ∧ w.frozen? ⟨n, 0, none⟩ = false ∧ w.frozen? ⟨n, 1, none⟩ = false ∧ w.frozen? ⟨n, 2, none⟩ = false ∧ n < w.heap.size :=
  ⟨h.cell 0, h.cell 1, h.cell 2, h.frozen 0, h.frozen 1, h.frozen 2, h.lt⟩
theorem Box.set1 {w : World} {n : Nat} {t : TypeId} {a : Value} (h : Box w n t #[a]) (u : Value) : Box (w.setCell ⟨n, 0, none⟩ u) n t #[u] := h.set 0 u
theorem Box.set3 {w : World} {n : Nat} {t : TypeId} {a b c : Value} (h : Box w n t #[a, b, c]) (u0 u1 u2 : Value) :
    Box (((w.setCell ⟨n, 0, none⟩ u0).setCell ⟨n, 1, none⟩ u1).setCell ⟨n, 2, none⟩ u2) n t #[u0, u1, u2] := ((h.set 0 u0).set 1 u1).set 2 u2
theorem Box.other3 {w : World} {n m : Nat} {t : TypeId} {cs : Array Value} (h : Box w n t cs) (hp : n ≠ m) (u0 u1 u2 : Value) :
    Box (((w.setCell ⟨m, 0, none⟩ u0).setCell ⟨m, 1, none⟩ u1).setCell ⟨m, 2, none⟩ u2) n t cs :=
  ((h.other (p := ⟨m, 0, none⟩) hp u0).other (p := ⟨m, 1, none⟩) hp u1).other (p := ⟨m, 2, none⟩) hp u2
theorem bel_set3 {a w : World} {n : Nat} (hp : a.heap.size ≤ n) (h : Below a.heap.size a w) (u0 u1 u2 : Value) :
    Below a.heap.size a (((w.setCell ⟨n, 0, none⟩ u0).setCell ⟨n, 1, none⟩ u1).setCell ⟨n, 2, none⟩ u2) :=
  ((h.setCell (p := ⟨n, 0, none⟩) hp u0).setCell (p := ⟨n, 1, none⟩) hp u1).setCell (p := ⟨n, 2, none⟩) hp u2
theorem bel_set1 {a w : World} {n : Nat} (hp : a.heap.size ≤ n) (h : Below a.heap.size a w) (u0 : Value) : Below a.heap.size a (w.setCell ⟨n, 0, none⟩ u0) := h.setCell (p := ⟨n, 0, none⟩) hp u0
/-- Four cells. -/
theorem Box.four {w : World} {n : Nat} {t : TypeId} {a b c d : Value} (h : Box w n t #[a, b, c, d]) :
    w.cell? ⟨n, 0, none⟩ = some a ∧ w.cell? ⟨n, 1, none⟩ = some b ∧ w.cell? ⟨n, 2, none⟩ = some c ∧ w.cell? ⟨n, 3, none⟩ = some d ∧ w.frozen? ⟨n, 0, none⟩ = false ∧ w.frozen? ⟨n, 1, none⟩ = false ∧ w.frozen? ⟨n, 2, none⟩ = false ∧ w.frozen? ⟨n, 3, none⟩ = false ∧ n < w.heap.size :=
  ⟨h.cell 0, h.cell 1, h.cell 2, h.cell 3, h.frozen 0, h.frozen 1, h.frozen 2, h.frozen 3, h.lt⟩
theorem Box.set4 {w : World} {n : Nat} {t : TypeId} {a b c d : Value} (h : Box w n t #[a, b, c, d]) (u0 u1 u2 u3 : Value) :
    Box ((((w.setCell ⟨n, 0, none⟩ u0).setCell ⟨n, 1, none⟩ u1).setCell ⟨n, 2, none⟩ u2).setCell ⟨n, 3, none⟩ u3) n t #[u0, u1, u2, u3] := (((h.set 0 u0).set 1 u1).set 2 u2).set 3 u3
theorem bel_set4 {a w : World} {n : Nat} (hp : a.heap.size ≤ n) (h : Below a.heap.size a w) (u0 u1 u2 u3 : Value) :
    Below a.heap.size a ((((w.setCell ⟨n, 0, none⟩ u0).setCell ⟨n, 1, none⟩ u1).setCell ⟨n, 2, none⟩ u2).setCell ⟨n, 3, none⟩ u3) :=
  (bel_set3 hp h u0 u1 u2).setCell (p := ⟨n, 3, none⟩) hp u3
end Go.Proofs.Ytemnklppplgcoab
