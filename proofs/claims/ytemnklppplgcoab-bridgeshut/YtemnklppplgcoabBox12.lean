/-
  A variable of twelve cells (a bridge): its cells and marks in one line; stores into it.
-/
import Derived.Test.YtemnklppplgcoabBox
namespace Go.Proofs.Ytemnklppplgcoab
open Go.RowKit

theorem Box.twelve {w : World} {n : Nat} {t : TypeId} {a0 a1 a2 a3 a4 a5 a6 a7 a8 a9 a10 a11 : Value} (h : Box w n t #[a0, a1, a2, a3, a4, a5, a6, a7, a8, a9, a10, a11]) :
    (w.cell? ⟨n, 0, none⟩ = some a0 ∧ w.cell? ⟨n, 1, none⟩ = some a1 ∧ w.cell? ⟨n, 2, none⟩ = some a2 ∧ w.cell? ⟨n, 3, none⟩ = some a3 ∧ w.cell? ⟨n, 4, none⟩ = some a4 ∧ w.cell? ⟨n, 5, none⟩ = some a5 ∧ w.cell? ⟨n, 6, none⟩ = some a6 ∧ w.cell? ⟨n, 7, none⟩ = some a7 ∧ w.cell? ⟨n, 8, none⟩ = some a8 ∧ w.cell? ⟨n, 9, none⟩ = some a9 ∧ w.cell? ⟨n, 10, none⟩ = some a10 ∧ w.cell? ⟨n, 11, none⟩ = some a11) ∧ n < w.heap.size :=
  ⟨⟨h.cell 0, h.cell 1, h.cell 2, h.cell 3, h.cell 4, h.cell 5, h.cell 6, h.cell 7, h.cell 8, h.cell 9, h.cell 10, h.cell 11⟩, h.lt⟩
theorem Box.marks {w : World} {n : Nat} {t : TypeId} {a0 a1 a2 a3 a4 a5 a6 a7 a8 a9 a10 a11 : Value} (h : Box w n t #[a0, a1, a2, a3, a4, a5, a6, a7, a8, a9, a10, a11]) :
    w.frozen? ⟨n, 0, none⟩ = false ∧ w.frozen? ⟨n, 1, none⟩ = false ∧ w.frozen? ⟨n, 2, none⟩ = false ∧ w.frozen? ⟨n, 3, none⟩ = false ∧ w.frozen? ⟨n, 4, none⟩ = false ∧ w.frozen? ⟨n, 5, none⟩ = false ∧ w.frozen? ⟨n, 6, none⟩ = false ∧ w.frozen? ⟨n, 7, none⟩ = false ∧ w.frozen? ⟨n, 8, none⟩ = false ∧ w.frozen? ⟨n, 9, none⟩ = false ∧ w.frozen? ⟨n, 10, none⟩ = false ∧ w.frozen? ⟨n, 11, none⟩ = false :=
  ⟨h.frozen 0, h.frozen 1, h.frozen 2, h.frozen 3, h.frozen 4, h.frozen 5, h.frozen 6, h.frozen 7, h.frozen 8, h.frozen 9, h.frozen 10, h.frozen 11⟩
theorem Box.set12 {w : World} {n : Nat} {t : TypeId} {a0 a1 a2 a3 a4 a5 a6 a7 a8 a9 a10 a11 : Value} (h : Box w n t #[a0, a1, a2, a3, a4, a5, a6, a7, a8, a9, a10, a11]) (u0 u1 u2 u3 u4 u5 u6 u7 u8 u9 u10 u11 : Value) :
    Box ((((((((((((w.setCell ⟨n, 0, none⟩ u0).setCell ⟨n, 1, none⟩ u1).setCell ⟨n, 2, none⟩ u2).setCell ⟨n, 3, none⟩ u3).setCell ⟨n, 4, none⟩ u4).setCell ⟨n, 5, none⟩ u5).setCell ⟨n, 6, none⟩ u6).setCell ⟨n, 7, none⟩ u7).setCell ⟨n, 8, none⟩ u8).setCell ⟨n, 9, none⟩ u9).setCell ⟨n, 10, none⟩ u10).setCell ⟨n, 11, none⟩ u11) n t #[u0, u1, u2, u3, u4, u5, u6, u7, u8, u9, u10, u11] := by
  have h0 : Box _ n t #[u0, a1, a2, a3, a4, a5, a6, a7, a8, a9, a10, a11] := h.set 0 u0
  have h1 : Box _ n t #[u0, u1, a2, a3, a4, a5, a6, a7, a8, a9, a10, a11] := h0.set 1 u1
  have h2 : Box _ n t #[u0, u1, u2, a3, a4, a5, a6, a7, a8, a9, a10, a11] := h1.set 2 u2
  have h3 : Box _ n t #[u0, u1, u2, u3, a4, a5, a6, a7, a8, a9, a10, a11] := h2.set 3 u3
  have h4 : Box _ n t #[u0, u1, u2, u3, u4, a5, a6, a7, a8, a9, a10, a11] := h3.set 4 u4
  have h5 : Box _ n t #[u0, u1, u2, u3, u4, u5, a6, a7, a8, a9, a10, a11] := h4.set 5 u5
  have h6 : Box _ n t #[u0, u1, u2, u3, u4, u5, u6, a7, a8, a9, a10, a11] := h5.set 6 u6
  have h7 : Box _ n t #[u0, u1, u2, u3, u4, u5, u6, u7, a8, a9, a10, a11] := h6.set 7 u7
  have h8 : Box _ n t #[u0, u1, u2, u3, u4, u5, u6, u7, u8, a9, a10, a11] := h7.set 8 u8
  have h9 : Box _ n t #[u0, u1, u2, u3, u4, u5, u6, u7, u8, u9, a10, a11] := h8.set 9 u9
  have h10 : Box _ n t #[u0, u1, u2, u3, u4, u5, u6, u7, u8, u9, u10, a11] := h9.set 10 u10
  have h11 : Box _ n t #[u0, u1, u2, u3, u4, u5, u6, u7, u8, u9, u10, u11] := h10.set 11 u11
  exact h11
theorem Box.other12 {w : World} {n m : Nat} {t : TypeId} {cs : Array Value} (h : Box w n t cs) (hp : n ≠ m) (u0 u1 u2 u3 u4 u5 u6 u7 u8 u9 u10 u11 : Value) :
    Box ((((((((((((w.setCell ⟨m, 0, none⟩ u0).setCell ⟨m, 1, none⟩ u1).setCell ⟨m, 2, none⟩ u2).setCell ⟨m, 3, none⟩ u3).setCell ⟨m, 4, none⟩ u4).setCell ⟨m, 5, none⟩ u5).setCell ⟨m, 6, none⟩ u6).setCell ⟨m, 7, none⟩ u7).setCell ⟨m, 8, none⟩ u8).setCell ⟨m, 9, none⟩ u9).setCell ⟨m, 10, none⟩ u10).setCell ⟨m, 11, none⟩ u11) n t cs :=
  (((((((((((h.other (p := ⟨m, 0, none⟩) hp u0).other (p := ⟨m, 1, none⟩) hp u1).other (p := ⟨m, 2, none⟩) hp u2).other (p := ⟨m, 3, none⟩) hp u3).other (p := ⟨m, 4, none⟩) hp u4).other (p := ⟨m, 5, none⟩) hp u5).other (p := ⟨m, 6, none⟩) hp u6).other (p := ⟨m, 7, none⟩) hp u7).other (p := ⟨m, 8, none⟩) hp u8).other (p := ⟨m, 9, none⟩) hp u9).other (p := ⟨m, 10, none⟩) hp u10).other (p := ⟨m, 11, none⟩) hp u11
theorem bel_set12 {a w : World} {m : Nat} (hp : a.heap.size ≤ m) (h : Below a.heap.size a w) (u0 u1 u2 u3 u4 u5 u6 u7 u8 u9 u10 u11 : Value) :
    Below a.heap.size a ((((((((((((w.setCell ⟨m, 0, none⟩ u0).setCell ⟨m, 1, none⟩ u1).setCell ⟨m, 2, none⟩ u2).setCell ⟨m, 3, none⟩ u3).setCell ⟨m, 4, none⟩ u4).setCell ⟨m, 5, none⟩ u5).setCell ⟨m, 6, none⟩ u6).setCell ⟨m, 7, none⟩ u7).setCell ⟨m, 8, none⟩ u8).setCell ⟨m, 9, none⟩ u9).setCell ⟨m, 10, none⟩ u10).setCell ⟨m, 11, none⟩ u11) :=
  (((((((((((h.setCell (p := ⟨m, 0, none⟩) hp u0).setCell (p := ⟨m, 1, none⟩) hp u1).setCell (p := ⟨m, 2, none⟩) hp u2).setCell (p := ⟨m, 3, none⟩) hp u3).setCell (p := ⟨m, 4, none⟩) hp u4).setCell (p := ⟨m, 5, none⟩) hp u5).setCell (p := ⟨m, 6, none⟩) hp u6).setCell (p := ⟨m, 7, none⟩) hp u7).setCell (p := ⟨m, 8, none⟩) hp u8).setCell (p := ⟨m, 9, none⟩) hp u9).setCell (p := ⟨m, 10, none⟩) hp u10).setCell (p := ⟨m, 11, none⟩) hp u11
end Go.Proofs.Ytemnklppplgcoab
