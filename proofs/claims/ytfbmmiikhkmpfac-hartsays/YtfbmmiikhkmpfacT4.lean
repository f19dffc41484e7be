/-
  Laid together: HState, Upto, HStore, Late, CopyB.
-/
import Derived.Test.YtfbmmiikhkmpfacT3
import Derived.Deep.RegionHeld
import Derived.Deep.RegionHeld3
/-
  Package hart: the state that an instruction works on, as one block of twenty-two cells; inWord, shifted, trouble.
-/
namespace Go.Proofs.Ytfbmmiikhkmpfac
open Go.RowKit

theorem Box.marksAll {w : World} {n : Nat} {t : TypeId} {cs : Array Value} (h : Box w n t cs) : ∀ i, w.frozen? ⟨n, i, none⟩ = false := fun i => h.frozen i
/-- The cells of a state. -/
theorem Box.state {w : World} {n : Nat} {t : TypeId} {vm vc : Value} {pc : Int} {rs : List Int} {mo ba op oh ot fe fp fh ft : Int} {st lo : Bool} (h : Box w n t #[vm, .int .i64 pc, .int .i64 (nth rs 0), .int .i64 (nth rs 1), .int .i64 (nth rs 2), .int .i64 (nth rs 3), .int .i64 (nth rs 4), .int .i64 (nth rs 5), .int .i64 (nth rs 6), .int .i64 (nth rs 7), .int .i64 mo, .int .i64 ba, vc, .int .i64 op, .int .i64 oh, .int .i64 ot, .bool st, .int .i64 fe, .int .i64 fp, .int .i64 fh, .int .i64 ft, .bool lo]) :
    (w.cell? ⟨n, 0, none⟩ = some vm ∧ w.cell? ⟨n, 1, none⟩ = some (.int .i64 pc) ∧ w.cell? ⟨n, 2, none⟩ = some (.int .i64 (nth rs 0)) ∧ w.cell? ⟨n, 3, none⟩ = some (.int .i64 (nth rs 1)) ∧ w.cell? ⟨n, 4, none⟩ = some (.int .i64 (nth rs 2)) ∧ w.cell? ⟨n, 5, none⟩ = some (.int .i64 (nth rs 3)) ∧ w.cell? ⟨n, 6, none⟩ = some (.int .i64 (nth rs 4)) ∧ w.cell? ⟨n, 7, none⟩ = some (.int .i64 (nth rs 5)) ∧ w.cell? ⟨n, 8, none⟩ = some (.int .i64 (nth rs 6)) ∧ w.cell? ⟨n, 9, none⟩ = some (.int .i64 (nth rs 7))) ∧
    (w.cell? ⟨n, 10, none⟩ = some (.int .i64 mo) ∧ w.cell? ⟨n, 11, none⟩ = some (.int .i64 ba) ∧ w.cell? ⟨n, 12, none⟩ = some vc ∧ w.cell? ⟨n, 13, none⟩ = some (.int .i64 op) ∧ w.cell? ⟨n, 14, none⟩ = some (.int .i64 oh) ∧ w.cell? ⟨n, 15, none⟩ = some (.int .i64 ot) ∧ w.cell? ⟨n, 16, none⟩ = some (.bool st) ∧ w.cell? ⟨n, 17, none⟩ = some (.int .i64 fe) ∧ w.cell? ⟨n, 18, none⟩ = some (.int .i64 fp) ∧ w.cell? ⟨n, 19, none⟩ = some (.int .i64 fh) ∧ w.cell? ⟨n, 20, none⟩ = some (.int .i64 ft) ∧ w.cell? ⟨n, 21, none⟩ = some (.bool lo)) ∧ n < w.heap.size :=
  ⟨⟨h.cell 0, h.cell 1, h.cell 2, h.cell 3, h.cell 4, h.cell 5, h.cell 6, h.cell 7, h.cell 8, h.cell 9⟩, ⟨h.cell 10, h.cell 11, h.cell 12, h.cell 13, h.cell 14, h.cell 15, h.cell 16, h.cell 17, h.cell 18, h.cell 19, h.cell 20, h.cell 21⟩, h.lt⟩
/-- Twenty-two cells of any kind; stores into them. -/
theorem Box.state0 {w : World} {n : Nat} {t : TypeId} {a0 a1 a2 a3 a4 a5 a6 a7 a8 a9 a10 a11 a12 a13 a14 a15 a16 a17 a18 a19 a20 a21 : Value} (h : Box w n t #[a0, a1, a2, a3, a4, a5, a6, a7, a8, a9, a10, a11, a12, a13, a14, a15, a16, a17, a18, a19, a20, a21]) :
    (w.cell? ⟨n, 0, none⟩ = some a0 ∧ w.cell? ⟨n, 1, none⟩ = some a1 ∧ w.cell? ⟨n, 2, none⟩ = some a2 ∧ w.cell? ⟨n, 3, none⟩ = some a3 ∧ w.cell? ⟨n, 4, none⟩ = some a4 ∧ w.cell? ⟨n, 5, none⟩ = some a5 ∧ w.cell? ⟨n, 6, none⟩ = some a6 ∧ w.cell? ⟨n, 7, none⟩ = some a7 ∧ w.cell? ⟨n, 8, none⟩ = some a8 ∧ w.cell? ⟨n, 9, none⟩ = some a9) ∧
    (w.cell? ⟨n, 10, none⟩ = some a10 ∧ w.cell? ⟨n, 11, none⟩ = some a11 ∧ w.cell? ⟨n, 12, none⟩ = some a12 ∧ w.cell? ⟨n, 13, none⟩ = some a13 ∧ w.cell? ⟨n, 14, none⟩ = some a14 ∧ w.cell? ⟨n, 15, none⟩ = some a15 ∧ w.cell? ⟨n, 16, none⟩ = some a16 ∧ w.cell? ⟨n, 17, none⟩ = some a17 ∧ w.cell? ⟨n, 18, none⟩ = some a18 ∧ w.cell? ⟨n, 19, none⟩ = some a19 ∧ w.cell? ⟨n, 20, none⟩ = some a20 ∧ w.cell? ⟨n, 21, none⟩ = some a21) ∧ n < w.heap.size :=
  ⟨⟨h.cell 0, h.cell 1, h.cell 2, h.cell 3, h.cell 4, h.cell 5, h.cell 6, h.cell 7, h.cell 8, h.cell 9⟩, ⟨h.cell 10, h.cell 11, h.cell 12, h.cell 13, h.cell 14, h.cell 15, h.cell 16, h.cell 17, h.cell 18, h.cell 19, h.cell 20, h.cell 21⟩, h.lt⟩
theorem bel_set22 {a w : World} {m : Nat} (hp : a.heap.size ≤ m) (h : Below a.heap.size a w) (u0 u1 u2 u3 u4 u5 u6 u7 u8 u9 u10 u11 u12 u13 u14 u15 u16 u17 u18 u19 u20 u21 : Value) :
    Below a.heap.size a ((((((((((((((((((((((w.setCell ⟨m, 0, none⟩ u0).setCell ⟨m, 1, none⟩ u1).setCell ⟨m, 2, none⟩ u2).setCell ⟨m, 3, none⟩ u3).setCell ⟨m, 4, none⟩ u4).setCell ⟨m, 5, none⟩ u5).setCell ⟨m, 6, none⟩ u6).setCell ⟨m, 7, none⟩ u7).setCell ⟨m, 8, none⟩ u8).setCell ⟨m, 9, none⟩ u9).setCell ⟨m, 10, none⟩ u10).setCell ⟨m, 11, none⟩ u11).setCell ⟨m, 12, none⟩ u12).setCell ⟨m, 13, none⟩ u13).setCell ⟨m, 14, none⟩ u14).setCell ⟨m, 15, none⟩ u15).setCell ⟨m, 16, none⟩ u16).setCell ⟨m, 17, none⟩ u17).setCell ⟨m, 18, none⟩ u18).setCell ⟨m, 19, none⟩ u19).setCell ⟨m, 20, none⟩ u20).setCell ⟨m, 21, none⟩ u21) :=
  ((((((((((((((((((((((h.setCell (p := ⟨m, 0, none⟩) hp u0).setCell (p := ⟨m, 1, none⟩) hp u1).setCell (p := ⟨m, 2, none⟩) hp u2).setCell (p := ⟨m, 3, none⟩) hp u3).setCell (p := ⟨m, 4, none⟩) hp u4).setCell (p := ⟨m, 5, none⟩) hp u5).setCell (p := ⟨m, 6, none⟩) hp u6).setCell (p := ⟨m, 7, none⟩) hp u7).setCell (p := ⟨m, 8, none⟩) hp u8).setCell (p := ⟨m, 9, none⟩) hp u9).setCell (p := ⟨m, 10, none⟩) hp u10).setCell (p := ⟨m, 11, none⟩) hp u11).setCell (p := ⟨m, 12, none⟩) hp u12).setCell (p := ⟨m, 13, none⟩) hp u13).setCell (p := ⟨m, 14, none⟩) hp u14).setCell (p := ⟨m, 15, none⟩) hp u15).setCell (p := ⟨m, 16, none⟩) hp u16).setCell (p := ⟨m, 17, none⟩) hp u17).setCell (p := ⟨m, 18, none⟩) hp u18).setCell (p := ⟨m, 19, none⟩) hp u19).setCell (p := ⟨m, 20, none⟩) hp u20).setCell (p := ⟨m, 21, none⟩) hp u21)
theorem Box.set22 {w : World} {m : Nat} {t : TypeId} {a0 a1 a2 a3 a4 a5 a6 a7 a8 a9 a10 a11 a12 a13 a14 a15 a16 a17 a18 a19 a20 a21 : Value} (h : Box w m t #[a0, a1, a2, a3, a4, a5, a6, a7, a8, a9, a10, a11, a12, a13, a14, a15, a16, a17, a18, a19, a20, a21]) (u0 u1 u2 u3 u4 u5 u6 u7 u8 u9 u10 u11 u12 u13 u14 u15 u16 u17 u18 u19 u20 u21 : Value) :
    Box ((((((((((((((((((((((w.setCell ⟨m, 0, none⟩ u0).setCell ⟨m, 1, none⟩ u1).setCell ⟨m, 2, none⟩ u2).setCell ⟨m, 3, none⟩ u3).setCell ⟨m, 4, none⟩ u4).setCell ⟨m, 5, none⟩ u5).setCell ⟨m, 6, none⟩ u6).setCell ⟨m, 7, none⟩ u7).setCell ⟨m, 8, none⟩ u8).setCell ⟨m, 9, none⟩ u9).setCell ⟨m, 10, none⟩ u10).setCell ⟨m, 11, none⟩ u11).setCell ⟨m, 12, none⟩ u12).setCell ⟨m, 13, none⟩ u13).setCell ⟨m, 14, none⟩ u14).setCell ⟨m, 15, none⟩ u15).setCell ⟨m, 16, none⟩ u16).setCell ⟨m, 17, none⟩ u17).setCell ⟨m, 18, none⟩ u18).setCell ⟨m, 19, none⟩ u19).setCell ⟨m, 20, none⟩ u20).setCell ⟨m, 21, none⟩ u21) m t #[u0, u1, u2, u3, u4, u5, u6, u7, u8, u9, u10, u11, u12, u13, u14, u15, u16, u17, u18, u19, u20, u21] := by
  have h0 : Box _ m t #[u0, a1, a2, a3, a4, a5, a6, a7, a8, a9, a10, a11, a12, a13, a14, a15, a16, a17, a18, a19, a20, a21] := h.set 0 u0
  have h1 : Box _ m t #[u0, u1, a2, a3, a4, a5, a6, a7, a8, a9, a10, a11, a12, a13, a14, a15, a16, a17, a18, a19, a20, a21] := h0.set 1 u1
  have h2 : Box _ m t #[u0, u1, u2, a3, a4, a5, a6, a7, a8, a9, a10, a11, a12, a13, a14, a15, a16, a17, a18, a19, a20, a21] := h1.set 2 u2
  have h3 : Box _ m t #[u0, u1, u2, u3, a4, a5, a6, a7, a8, a9, a10, a11, a12, a13, a14, a15, a16, a17, a18, a19, a20, a21] := h2.set 3 u3
  have h4 : Box _ m t #[u0, u1, u2, u3, u4, a5, a6, a7, a8, a9, a10, a11, a12, a13, a14, a15, a16, a17, a18, a19, a20, a21] := h3.set 4 u4
  have h5 : Box _ m t #[u0, u1, u2, u3, u4, u5, a6, a7, a8, a9, a10, a11, a12, a13, a14, a15, a16, a17, a18, a19, a20, a21] := h4.set 5 u5
  have h6 : Box _ m t #[u0, u1, u2, u3, u4, u5, u6, a7, a8, a9, a10, a11, a12, a13, a14, a15, a16, a17, a18, a19, a20, a21] := h5.set 6 u6
  have h7 : Box _ m t #[u0, u1, u2, u3, u4, u5, u6, u7, a8, a9, a10, a11, a12, a13, a14, a15, a16, a17, a18, a19, a20, a21] := h6.set 7 u7
  have h8 : Box _ m t #[u0, u1, u2, u3, u4, u5, u6, u7, u8, a9, a10, a11, a12, a13, a14, a15, a16, a17, a18, a19, a20, a21] := h7.set 8 u8
  have h9 : Box _ m t #[u0, u1, u2, u3, u4, u5, u6, u7, u8, u9, a10, a11, a12, a13, a14, a15, a16, a17, a18, a19, a20, a21] := h8.set 9 u9
  have h10 : Box _ m t #[u0, u1, u2, u3, u4, u5, u6, u7, u8, u9, u10, a11, a12, a13, a14, a15, a16, a17, a18, a19, a20, a21] := h9.set 10 u10
  have h11 : Box _ m t #[u0, u1, u2, u3, u4, u5, u6, u7, u8, u9, u10, u11, a12, a13, a14, a15, a16, a17, a18, a19, a20, a21] := h10.set 11 u11
  have h12 : Box _ m t #[u0, u1, u2, u3, u4, u5, u6, u7, u8, u9, u10, u11, u12, a13, a14, a15, a16, a17, a18, a19, a20, a21] := h11.set 12 u12
  have h13 : Box _ m t #[u0, u1, u2, u3, u4, u5, u6, u7, u8, u9, u10, u11, u12, u13, a14, a15, a16, a17, a18, a19, a20, a21] := h12.set 13 u13
  have h14 : Box _ m t #[u0, u1, u2, u3, u4, u5, u6, u7, u8, u9, u10, u11, u12, u13, u14, a15, a16, a17, a18, a19, a20, a21] := h13.set 14 u14
  have h15 : Box _ m t #[u0, u1, u2, u3, u4, u5, u6, u7, u8, u9, u10, u11, u12, u13, u14, u15, a16, a17, a18, a19, a20, a21] := h14.set 15 u15
  have h16 : Box _ m t #[u0, u1, u2, u3, u4, u5, u6, u7, u8, u9, u10, u11, u12, u13, u14, u15, u16, a17, a18, a19, a20, a21] := h15.set 16 u16
  have h17 : Box _ m t #[u0, u1, u2, u3, u4, u5, u6, u7, u8, u9, u10, u11, u12, u13, u14, u15, u16, u17, a18, a19, a20, a21] := h16.set 17 u17
  have h18 : Box _ m t #[u0, u1, u2, u3, u4, u5, u6, u7, u8, u9, u10, u11, u12, u13, u14, u15, u16, u17, u18, a19, a20, a21] := h17.set 18 u18
  have h19 : Box _ m t #[u0, u1, u2, u3, u4, u5, u6, u7, u8, u9, u10, u11, u12, u13, u14, u15, u16, u17, u18, u19, a20, a21] := h18.set 19 u19
  have h20 : Box _ m t #[u0, u1, u2, u3, u4, u5, u6, u7, u8, u9, u10, u11, u12, u13, u14, u15, u16, u17, u18, u19, u20, a21] := h19.set 20 u20
  have h21 : Box _ m t #[u0, u1, u2, u3, u4, u5, u6, u7, u8, u9, u10, u11, u12, u13, u14, u15, u16, u17, u18, u19, u20, u21] := h20.set 21 u21
  exact h21
theorem Box.other22 {w : World} {n m : Nat} {t : TypeId} {cs : Array Value} (h : Box w n t cs) (hp : n ≠ m) (u0 u1 u2 u3 u4 u5 u6 u7 u8 u9 u10 u11 u12 u13 u14 u15 u16 u17 u18 u19 u20 u21 : Value) :
    Box ((((((((((((((((((((((w.setCell ⟨m, 0, none⟩ u0).setCell ⟨m, 1, none⟩ u1).setCell ⟨m, 2, none⟩ u2).setCell ⟨m, 3, none⟩ u3).setCell ⟨m, 4, none⟩ u4).setCell ⟨m, 5, none⟩ u5).setCell ⟨m, 6, none⟩ u6).setCell ⟨m, 7, none⟩ u7).setCell ⟨m, 8, none⟩ u8).setCell ⟨m, 9, none⟩ u9).setCell ⟨m, 10, none⟩ u10).setCell ⟨m, 11, none⟩ u11).setCell ⟨m, 12, none⟩ u12).setCell ⟨m, 13, none⟩ u13).setCell ⟨m, 14, none⟩ u14).setCell ⟨m, 15, none⟩ u15).setCell ⟨m, 16, none⟩ u16).setCell ⟨m, 17, none⟩ u17).setCell ⟨m, 18, none⟩ u18).setCell ⟨m, 19, none⟩ u19).setCell ⟨m, 20, none⟩ u20).setCell ⟨m, 21, none⟩ u21) n t cs :=
  ((((((((((((((((((((((h.other (p := ⟨m, 0, none⟩) hp u0).other (p := ⟨m, 1, none⟩) hp u1).other (p := ⟨m, 2, none⟩) hp u2).other (p := ⟨m, 3, none⟩) hp u3).other (p := ⟨m, 4, none⟩) hp u4).other (p := ⟨m, 5, none⟩) hp u5).other (p := ⟨m, 6, none⟩) hp u6).other (p := ⟨m, 7, none⟩) hp u7).other (p := ⟨m, 8, none⟩) hp u8).other (p := ⟨m, 9, none⟩) hp u9).other (p := ⟨m, 10, none⟩) hp u10).other (p := ⟨m, 11, none⟩) hp u11).other (p := ⟨m, 12, none⟩) hp u12).other (p := ⟨m, 13, none⟩) hp u13).other (p := ⟨m, 14, none⟩) hp u14).other (p := ⟨m, 15, none⟩) hp u15).other (p := ⟨m, 16, none⟩) hp u16).other (p := ⟨m, 17, none⟩) hp u17).other (p := ⟨m, 18, none⟩) hp u18).other (p := ⟨m, 19, none⟩) hp u19).other (p := ⟨m, 20, none⟩) hp u20).other (p := ⟨m, 21, none⟩) hp u21)

theorem Box.reg {w : World} {n : Nat} {t : TypeId} {vm vc : Value} {pc : Int} {rs : List Int} {mo ba op oh ot fe fp fh ft : Int} {st lo : Bool} (h : Box w n t #[vm, .int .i64 pc, .int .i64 (nth rs 0), .int .i64 (nth rs 1), .int .i64 (nth rs 2), .int .i64 (nth rs 3), .int .i64 (nth rs 4), .int .i64 (nth rs 5), .int .i64 (nth rs 6), .int .i64 (nth rs 7), .int .i64 mo, .int .i64 ba, vc, .int .i64 op, .int .i64 oh, .int .i64 ot, .bool st, .int .i64 fe, .int .i64 fp, .int .i64 fh, .int .i64 ft, .bool lo]) {i : Nat} (hi : i < 8) : w.cell? ⟨n, 2 + i, none⟩ = some (.int .i64 (nth rs i)) := by
  have := h.cell (2 + i)
  rw [this]
  have e : i = 0 ∨ i = 1 ∨ i = 2 ∨ i = 3 ∨ i = 4 ∨ i = 5 ∨ i = 6 ∨ i = 7 := by omega
  rcases e with rfl | rfl | rfl | rfl | rfl | rfl | rfl | rfl <;> rfl
theorem nth_ne {l : List Int} {i j : Nat} (h : ¬ i = j) (z : Int) : nth l j = nth (l.set i z) j := (nth_set_ne h z).symm
/-- A register is set. -/
theorem Box.setReg {w : World} {n : Nat} {t : TypeId} {vm vc : Value} {pc : Int} {rs : List Int} {mo ba op oh ot fe fp fh ft : Int} {st lo : Bool} (h : Box w n t #[vm, .int .i64 pc, .int .i64 (nth rs 0), .int .i64 (nth rs 1), .int .i64 (nth rs 2), .int .i64 (nth rs 3), .int .i64 (nth rs 4), .int .i64 (nth rs 5), .int .i64 (nth rs 6), .int .i64 (nth rs 7), .int .i64 mo, .int .i64 ba, vc, .int .i64 op, .int .i64 oh, .int .i64 ot, .bool st, .int .i64 fe, .int .i64 fp, .int .i64 fh, .int .i64 ft, .bool lo]) {i : Nat} (hi : i < 8) (h8 : rs.length = 8) (z : Int) :
    Box (w.setCell ⟨n, 2 + i, none⟩ (.int .i64 z)) n t #[vm, .int .i64 pc, .int .i64 (nth (rs.set i z) 0), .int .i64 (nth (rs.set i z) 1), .int .i64 (nth (rs.set i z) 2), .int .i64 (nth (rs.set i z) 3), .int .i64 (nth (rs.set i z) 4), .int .i64 (nth (rs.set i z) 5), .int .i64 (nth (rs.set i z) 6), .int .i64 (nth (rs.set i z) 7), .int .i64 mo, .int .i64 ba, vc, .int .i64 op, .int .i64 oh, .int .i64 ot, .bool st, .int .i64 fe, .int .i64 fp, .int .i64 fh, .int .i64 ft, .bool lo] := by
  have := h.set (2 + i) (.int .i64 z)
  have e : i = 0 ∨ i = 1 ∨ i = 2 ∨ i = 3 ∨ i = 4 ∨ i = 5 ∨ i = 6 ∨ i = 7 := by omega
  have hz := nth_set_eq (l := rs) (i := i) (by omega) z
  rcases e with rfl | rfl | rfl | rfl | rfl | rfl | rfl | rfl
  · rw [nth_ne (show ¬ 0 = 1 by decide) z, nth_ne (show ¬ 0 = 2 by decide) z, nth_ne (show ¬ 0 = 3 by decide) z, nth_ne (show ¬ 0 = 4 by decide) z, nth_ne (show ¬ 0 = 5 by decide) z, nth_ne (show ¬ 0 = 6 by decide) z, nth_ne (show ¬ 0 = 7 by decide) z] at this
    rw [hz]; exact this
  · rw [nth_ne (show ¬ 1 = 0 by decide) z, nth_ne (show ¬ 1 = 2 by decide) z, nth_ne (show ¬ 1 = 3 by decide) z, nth_ne (show ¬ 1 = 4 by decide) z, nth_ne (show ¬ 1 = 5 by decide) z, nth_ne (show ¬ 1 = 6 by decide) z, nth_ne (show ¬ 1 = 7 by decide) z] at this
    rw [hz]; exact this
  · rw [nth_ne (show ¬ 2 = 0 by decide) z, nth_ne (show ¬ 2 = 1 by decide) z, nth_ne (show ¬ 2 = 3 by decide) z, nth_ne (show ¬ 2 = 4 by decide) z, nth_ne (show ¬ 2 = 5 by decide) z, nth_ne (show ¬ 2 = 6 by decide) z, nth_ne (show ¬ 2 = 7 by decide) z] at this
    rw [hz]; exact this
  · rw [nth_ne (show ¬ 3 = 0 by decide) z, nth_ne (show ¬ 3 = 1 by decide) z, nth_ne (show ¬ 3 = 2 by decide) z, nth_ne (show ¬ 3 = 4 by decide) z, nth_ne (show ¬ 3 = 5 by decide) z, nth_ne (show ¬ 3 = 6 by decide) z, nth_ne (show ¬ 3 = 7 by decide) z] at this
    rw [hz]; exact this
  · rw [nth_ne (show ¬ 4 = 0 by decide) z, nth_ne (show ¬ 4 = 1 by decide) z, nth_ne (show ¬ 4 = 2 by decide) z, nth_ne (show ¬ 4 = 3 by decide) z, nth_ne (show ¬ 4 = 5 by decide) z, nth_ne (show ¬ 4 = 6 by decide) z, nth_ne (show ¬ 4 = 7 by decide) z] at this
    rw [hz]; exact this
  · rw [nth_ne (show ¬ 5 = 0 by decide) z, nth_ne (show ¬ 5 = 1 by decide) z, nth_ne (show ¬ 5 = 2 by decide) z, nth_ne (show ¬ 5 = 3 by decide) z, nth_ne (show ¬ 5 = 4 by decide) z, nth_ne (show ¬ 5 = 6 by decide) z, nth_ne (show ¬ 5 = 7 by decide) z] at this
    rw [hz]; exact this
  · rw [nth_ne (show ¬ 6 = 0 by decide) z, nth_ne (show ¬ 6 = 1 by decide) z, nth_ne (show ¬ 6 = 2 by decide) z, nth_ne (show ¬ 6 = 3 by decide) z, nth_ne (show ¬ 6 = 4 by decide) z, nth_ne (show ¬ 6 = 5 by decide) z, nth_ne (show ¬ 6 = 7 by decide) z] at this
    rw [hz]; exact this
  · rw [nth_ne (show ¬ 7 = 0 by decide) z, nth_ne (show ¬ 7 = 1 by decide) z, nth_ne (show ¬ 7 = 2 by decide) z, nth_ne (show ¬ 7 = 3 by decide) z, nth_ne (show ¬ 7 = 4 by decide) z, nth_ne (show ¬ 7 = 5 by decide) z, nth_ne (show ¬ 7 = 6 by decide) z] at this
    rw [hz]; exact this

/-- A whole state is loaded, stored, told. -/
theorem infoState : (Try.prog.info? 66).map (·.size) = some 22 := by kernel_rfl
theorem Box.setRow {w : World} {n : Nat} {t : TypeId} {cs : Array Value} (h : Box w n t cs) (new : Array Value) : Box (w.setRow n new) n t new := setRow_heap w n cs new t _ h
theorem Box.otherRow {w : World} {n m : Nat} {t : TypeId} {cs : Array Value} (h : Box w n t cs) (hp : n ≠ m) (new : Array Value) : Box (w.setRow m new) n t cs := (setRow_other w m n new hp).trans h
theorem bel_setRow {a w : World} {n : Nat} (hp : a.heap.size ≤ n) (h : Below a.heap.size a w) (new : Array Value) : Below a.heap.size a (w.setRow n new) :=
  ⟨h.os, h.tape, h.output, by simpa [World.setRow] using h.size, fun k hk => (setRow_other w n k new (by omega)).trans (h.block k hk)⟩
theorem Box.loadState {w : World} {n : Nat} {t : TypeId} {cs : Array Value} (h : Box w n t cs) (hs : cs.size = 22) : (loadVar 66 ⟨n, 0, none⟩).run Try.prog w = .ok (.agg cs) w :=
  run_loadVar_row w n t 66 cs (0, 0) _ h Try.underlying66 rfl (by rw [infoState, hs])
theorem stateOne (am : Option Addr) (nm cm : Nat) (pc r0 r1 r2 r3 r4 r5 r6 r7 mo ba op oh ot fe fp fh ft : Int) (st lo : Bool) (ca : Option Addr) (ck cc : Nat) : Array.all (α := Value) #[.slice am nm cm, .int .i64 pc, .int .i64 r0, .int .i64 r1, .int .i64 r2, .int .i64 r3, .int .i64 r4, .int .i64 r5, .int .i64 r6, .int .i64 r7, .int .i64 mo, .int .i64 ba, .slice ca ck cc, .int .i64 op, .int .i64 oh, .int .i64 ot, .bool st, .int .i64 fe, .int .i64 fp, .int .i64 fh, .int .i64 ft, .bool lo] (·.oneCell') = true := by simp [Value.oneCell']
theorem Sl.otherRow {w : World} {v : Value} {zs : List Int} (h : Sl w v zs) {m : Nat} (hp : v.ownBlock ≠ some m) (new : Array Value) : Sl (w.setRow m new) v zs := by
  obtain ⟨a, cap, rfl, hl, h⟩ := h
  refine ⟨a, cap, rfl, hl, ?_⟩
  rcases h with h | ⟨b, o, rfl, hlt, hc⟩
  · exact .inl h
  · refine .inr ⟨b, o, rfl, by simpa [World.setRow] using hlt, fun i hi => ?_⟩
    have hb : b ≠ m := fun e => hp (by simp [Value.ownBlock, e])
    rw [World.cell?_of_block (a := ⟨b, o + i, none⟩) (setRow_other w m b new hb)]
    exact hc i hi
theorem size_setRow (w : World) (n : Nat) (new : Array Value) : (w.setRow n new).heap.size = w.heap.size := by simp [World.setRow]

theorem inWord_any (z : Int) (w : World) (h0 : 0 ≤ z) :
    Calls Try.prog 55 #[.int .i64 z] w fun e w' => e = .returned (.int .i64 (z % 65536)) ∧ w' = w := by
  go_enter Try.func55, Try.ntmps55
  go_wp2
  go_ret
  exact ⟨rfl, rfl⟩

set_option maxHeartbeats 1000000 in
theorem shifted_any (v i : Int) (w : World) (hv : 0 ≤ v ∧ v ≤ 65535) (hi : 0 ≤ i ∧ i ≤ 63) :
    Calls Try.prog 56 #[.int .i64 v, .int .i64 i] w fun e w' => e = .returned (.int .i64 (v * 2 ^ i.toNat % 65536)) ∧ w' = w := by
  have HV : Hid (0 ≤ v ∧ v ≤ 65535) := hv
  obtain ⟨hi0, hi1⟩ := hi
  clear hv
  go_enter Try.func56, Try.ntmps56
  go_wp2
  go_loop [0, 6] (fun s c => ∃ k : Nat, (k : Int) ≤ i ∧ c = .int .i64 k ∧ s = .int .i64 (shl v k)) (fun _ c => 64 - (intOf c).toNat)
  case atStart => exact ⟨0, by omega, rfl, rfl⟩
  case round =>
    obtain ⟨k, hk, rfl, rfl⟩ := hrel
    by_cases hlt : (k : Int) < i
    · obtain ⟨s, hs⟩ : ∃ s, shl v k = s := ⟨_, rfl⟩
      have hsb := shl_in HV.out k
      have HS : Hid (shl v (k + 1) = s * 2 % 65536) := by show _ = _; rw [shl, hs]
      rw [hs] at hsb ⊢
      obtain ⟨s0, s1⟩ := hsb
      clear hs
      go_wp2_with (go_at_call 55; refine (inWord_any _ _ (by omega)).mono ?_; rintro e w' ⟨rfl, rfl⟩)
      refine ⟨⟨k + 1, by omega, by go_num, by rw [HS.out]⟩, by simp [intOf]; omega⟩
    · have hn : k = i.toNat := by omega
      have HS : Hid (shl v k = v * 2 ^ i.toNat % 65536) := by show _ = _; rw [shl_pow HV.out, hn]
      clear hn
      go_wp2
      go_ret
      exact ⟨ret_int HS.out, rfl⟩

theorem trouble_any (mo ba op oh ot fe fp fh ft : Int) (st lo : Bool) (vc : Value) (l : List Ln) (w : World) (hc : ∃ a k c, vc = .slice a k c) :
    Calls Try.prog 71 #[.agg #[.int .i64 mo, .int .i64 ba, vc, .int .i64 op, .int .i64 oh, .int .i64 ot, .bool st, .int .i64 fe, .int .i64 fp, .int .i64 fh, .int .i64 ft, .bool lo]] w fun e w' => e = .returned (.int .i64 (stB ⟨mo, ba, l, op, oh, ot, st, fe, fp, fh, ft, lo⟩)) ∧ ∃ o, w' = w.alloc o := by
  obtain ⟨ca, ck, cc, rfl⟩ := hc
  cases st <;> cases lo
  all_goals
    go_enter Try.func71, Try.ntmps71
    go_wp2
    go_ret
    exact ⟨rfl, _, rfl⟩
end Go.Proofs.Ytfbmmiikhkmpfac
/-
  A drawn region whose last operation writes a cell that the region reads: what holds of the world is asked for behind every operation but that one, which waits for all that is taken first.
-/
namespace Go.Proofs.Ytfbmmiikhkmpfac
open Go Go.RowKit

section
variable {P : Program} {ops : Array Oper} {Q : Exit → Act → World → Prop} {md : Region.Mode} {S : World → Prop} {z : Nat}

/-- Whatever order is picked; S holds behind every operation but number z. -/
def wpUpto (P : Program) (md : Region.Mode) (ops : Array Oper) (Q : Exit → Act → World → Prop) (S : World → Prop) (z : Nat) : Nat → Array Bool → Act → World → Prop
  | 0, listed, a, w => Region.ready md ops listed = [] ∧ Q .normal a w
  | n + 1, listed, a, w => (Region.ready md ops listed = [] → Q .normal a w) ∧
      ∀ i ∈ Region.ready md ops listed, wpOp P ops Q i (fun a' w' => (i ≠ z → S w') ∧ wpUpto P md ops Q S z n (listed.setIfInBounds i true) a' w') a w

theorem wpAny_of_upto : ∀ (n : Nat) (listed : Array Bool) (a : Act) (w : World), wpUpto P md ops Q S z n listed a w → wpAny P md ops Q n listed a w
  | 0, _, _, _, h => h
  | n + 1, _, _, _, h => ⟨h.1, fun i hi => wpOp_mono (fun a' w' h' => wpAny_of_upto n _ a' w' h'.2) (h.2 i hi)⟩

/-- Operation z waits for operation i. -/
def waits (md : Region.Mode) (ops : Array Oper) (z i : Nat) : Bool := match ops[z]? with
  | some o => o.after.any (fun e => Region.binds md e && e.on == i)
  | none => true

theorem waits_spec {i : Nat} (h : waits md ops z i = true) {listed : Array Bool} (hz : z ∈ Region.ready md ops listed) : listed.getD i false = true := by
  obtain ⟨_, o, ho, hall⟩ := mem_ready.1 hz
  unfold waits at h
  rw [ho] at h
  simp only [Array.any_eq_true] at h
  obtain ⟨j, hj, he⟩ := h
  rw [Bool.and_eq_true, beq_iff_eq] at he
  have := hall _ (Array.getElem_mem hj) he.1
  rw [he.2] at this
  exact this

theorem wpUpto_first {i : Nat} {oi : Oper} {v : Value} (hi : ops[i]? = some oi) (hsel : ∀ (j : Nat) (o : Oper) cs b, ops[j]? = some o → o.op ≠ .select cs b) (hwt : waits md ops z i = true)
    (hQ : ∀ c a w, Q (.panic c) (a.put oi.dst v) w → Q (.panic c) a w) :
    ∀ (n : Nat) (listed : Array Bool) (a : Act) (w : World),
      (∀ j oj, ops[j]? = some oj → j ≠ i → listed.getD j true = false → (∀ e ∈ oj.after, Region.binds md e = true → e.on ≠ i) → oi.apart ops oj = true) →
      i ∈ Region.ready md ops listed → YieldsIf P ops S oi v a → S w →
      wpUpto P md ops Q S z n (listed.setIfInBounds i true) (a.put oi.dst v) w → wpUpto P md ops Q S z (n + 1) listed a w := by
  intro n
  induction n with
  | zero =>
    intro listed a w _ hr hy hS H
    refine ⟨fun h => (by rw [h] at hr; cases hr), fun j hj => ?_⟩
    by_cases e : j = i
    · subst e; exact hy.wpOp hi hS ⟨fun _ => hS, H⟩
    · have := ready_mono hj e
      rw [H.1] at this
      cases this
  | succ n ih =>
    intro listed a w hfree hr hy hS H
    refine ⟨fun h => (by rw [h] at hr; cases hr), fun j hj => ?_⟩
    by_cases e : j = i
    · subst e; exact hy.wpOp hi hS ⟨fun _ => hS, H⟩
    · have hun : listed.getD i true = false := (mem_ready.1 hr).1
      have hjz : j ≠ z := by
        rintro rfl
        have h1 := waits_spec hwt hj
        rcases Nat.lt_or_ge i listed.size with h' | h'
        · simp [h'] at hun h1; rw [hun] at h1; cases h1
        · simp [Array.getElem?_eq_none h'] at h1
      obtain ⟨hjun, oj, hoj, hall⟩ := mem_ready.1 hj
      have hnot : ∀ e ∈ oj.after, Region.binds md e = true → e.on ≠ i := fun e he hb heq => by
        have h1 := hall e he hb
        rw [heq] at h1
        rcases Nat.lt_or_ge i listed.size with h' | h'
        · simp [h'] at hun h1; rw [hun] at h1; cases h1
        · simp [Array.getElem?_eq_none h'] at h1
      have h2 := wpOp_putIf hoj (hfree j oj hoj e hjun hnot) (fun cs b => hsel i oi cs b hi) (fun cs b => hsel j oj cs b hoj) hQ hy (H.2 j (ready_mono hj e))
      refine wpOp_mono (fun a' w' h3 => ⟨fun _ => h3.2.1 hjz, ih (listed.setIfInBounds j true) a' w' (fun q oq hq hqi hqu hno => ?_) (ready_mono hr (Ne.symm e)) h3.1 (h3.2.1 hjz) ?_⟩) h2
      · refine hfree q oq hq hqi ?_ hno
        by_cases hjq : j = q
        · subst hjq; exact hjun
        · rw [getD_set_ne true hjq] at hqu; exact hqu
      · rw [Array.setIfInBounds_comm _ _ e]
        exact h3.2.2

/-- Take number i first. -/
theorem wpUpto_take {i : Nat} {oi : Oper} {v : Value} {n : Nat} {listed : Array Bool} {a : Act} {w : World} (hi : ops[i]? = some oi)
    (hs : Region.noSelect ops = true) (hf : Region.free md ops listed i = true) (hr : (Region.ready md ops listed).contains i = true) (hwt : waits md ops z i = true)
    (hQ : ∀ c a w, Q (.panic c) (a.put oi.dst v) w → Q (.panic c) a w) (hy : YieldsIf P ops S oi v a) (hS : S w)
    (h : wpUpto P md ops Q S z n (listed.setIfInBounds i true) (a.put oi.dst v) w) : wpUpto P md ops Q S z (n + 1) listed a w :=
  wpUpto_first hi (Region.noSelect_spec hs) hwt hQ n listed a w (Region.free_spec hi hf) (by simpa using hr) hy hS h
/-- The one that may come up, comes up. -/
theorem wpUpto_one {i : Nat} {o : Oper} {n : Nat} {listed : Array Bool} {a : Act} {w : World} (hr : Region.ready md ops listed = [i]) (ho : ops[i]? = some o)
    (h : ∀ K' : Act → World → Prop, Shut (∀ a w, (i ≠ z → S w) → wpUpto P md ops Q S z n (listed.setIfInBounds i true) a w → K' a w) → if Region.wanted o (yielded ops a.tmps) = true then Oper.wp P o a w K' Q else K' (a.put o.dst undef) w) :
    wpUpto P md ops Q S z (n + 1) listed a w := by
  refine ⟨fun h0 => absurd (hr ▸ h0) (by simp), fun j hj => ?_⟩
  rw [hr, List.mem_singleton] at hj
  subst hj
  exact wpOp_step ho (fun K' hK => h K' (fun a w h1 h2 => hK a w ⟨h1, h2⟩))
theorem wpUpto_done {listed : Array Bool} {a : Act} {w : World} (hr : Region.ready md ops listed = []) (h : Q .normal a w) : ∀ n, wpUpto P md ops Q S z n listed a w
  | 0 => ⟨hr, h⟩
  | _ + 1 => ⟨fun _ => h, fun i hi => by rw [hr] at hi; cases hi⟩
theorem wp_region_upto {id : Nat} {a : Act} {w : World} (hm : P.follows .mixedOrders = true) (z : Nat) (S : World → Prop) (hS : S w.drew)
    (h : S w.drew → wpUpto P .any ops Q S z ops.size (Array.replicate ops.size false) a w.drew) : (Code.region id ops true).wp P Q a w :=
  wp_region_any hm (wpAny_of_upto _ _ _ _ (h hS))
/-- The operation at a place, laid open by itself. -/
def opL : List Oper → Nat → Option Oper
  | [], _ => none
  | o :: _, 0 => some o
  | _ :: l, n + 1 => opL l n
theorem opL_at : ∀ (l : List Oper) (i : Nat), opL l i = l[i]?
  | [], _ => rfl
  | _ :: _, 0 => rfl
  | _ :: l, n + 1 => by rw [opL, opL_at l n, List.getElem?_cons_succ]
theorem opL_spec {i : Nat} {o : Oper} (h : opL ops.toList i = some o) : ops[i]? = some o := by rw [← Array.getElem?_toList, ← opL_at]; exact h
theorem wpUpto_takeL {i : Nat} {oi : Oper} {v : Value} {n : Nat} {listed : Array Bool} {a : Act} {w : World} (hi : opL ops.toList i = some oi)
    (hs : Region.noSelect ops = true) (hf : Region.free md ops listed i = true) (hr : (Region.ready md ops listed).contains i = true) (hwt : waits md ops z i = true)
    (hQ : ∀ c a w, Q (.panic c) (a.put oi.dst v) w → Q (.panic c) a w) (hy : YieldsIf P ops S oi v a) (hS : S w)
    (h : wpUpto P md ops Q S z n (listed.setIfInBounds i true) (a.put oi.dst v) w) : wpUpto P md ops Q S z (n + 1) listed a w := wpUpto_take (opL_spec hi) hs hf hr hwt hQ hy hS h
theorem wpUpto_oneL {i : Nat} {o : Oper} {n : Nat} {listed : Array Bool} {a : Act} {w : World} (hr : Region.ready md ops listed = [i]) (ho : opL ops.toList i = some o)
    (h : ∀ K' : Act → World → Prop, Shut (∀ a w, (i ≠ z → S w) → wpUpto P md ops Q S z n (listed.setIfInBounds i true) a w → K' a w) → if Region.wanted o (yielded ops a.tmps) = true then Oper.wp P o a w K' Q else K' (a.put o.dst undef) w) :
    wpUpto P md ops Q S z (n + 1) listed a w := wpUpto_one hr (opL_spec ho) h
/-- The same for a region whose cells none of its operations writes. -/
theorem wpHeld_takeL {i : Nat} {oi : Oper} {v : Value} {n : Nat} {listed : Array Bool} {a : Act} {w : World} (hi : opL ops.toList i = some oi)
    (hs : Region.noSelect ops = true) (hf : Region.free md ops listed i = true) (hr : (Region.ready md ops listed).contains i = true)
    (hQ : ∀ c a w, Q (.panic c) (a.put oi.dst v) w → Q (.panic c) a w) (hy : YieldsIf P ops S oi v a) (hS : S w)
    (h : wpAnyH P md ops Q S n (listed.setIfInBounds i true) (a.put oi.dst v) w) : wpAnyH P md ops Q S (n + 1) listed a w := wpAnyH_take (opL_spec hi) hs hf hr hQ hy hS h
theorem wpHeld_oneL {i : Nat} {o : Oper} {n : Nat} {listed : Array Bool} {a : Act} {w : World} (hr : Region.ready md ops listed = [i]) (ho : opL ops.toList i = some o)
    (h : ∀ K' : Act → World → Prop, Shut (∀ a w, S w → (S w → wpAnyH P md ops Q S n (listed.setIfInBounds i true) a w) → K' a w) → if Region.wanted o (yielded ops a.tmps) = true then Oper.wp P o a w K' Q else K' (a.put o.dst undef) w) :
    wpAnyH P md ops Q S (n + 1) listed a w := wpAnyH_ready hr (by simp) (AllReadyH.cons (opL_spec ho) h AllReadyH.nil)
end
end Go.Proofs.Ytfbmmiikhkmpfac
/-
  Package hart: store: a register into a word of memory, or not; nothing that was there turns.
-/
namespace Go.Proofs.Ytfbmmiikhkmpfac
open Go.RowKit

section
open Go
variable {P : Program} {ops : Array Oper} {Q : Exit → Act → World → Prop} {md : Region.Mode} {S : World → Prop}
/-- Two may come up. -/
theorem wpHeld_twoL {i j : Nat} {o o2 : Oper} {n : Nat} {listed : Array Bool} {a : Act} {w : World} (hr : Region.ready md ops listed = [i, j]) (ho : opL ops.toList i = some o) (ho2 : opL ops.toList j = some o2)
    (h : ∀ K' : Act → World → Prop, Shut (∀ a w, S w → (S w → wpAnyH P md ops Q S n (listed.setIfInBounds i true) a w) → K' a w) → if Region.wanted o (yielded ops a.tmps) = true then Oper.wp P o a w K' Q else K' (a.put o.dst undef) w)
    (h2 : ∀ K' : Act → World → Prop, Shut (∀ a w, S w → (S w → wpAnyH P md ops Q S n (listed.setIfInBounds j true) a w) → K' a w) → if Region.wanted o2 (yielded ops a.tmps) = true then Oper.wp P o2 a w K' Q else K' (a.put o2.dst undef) w) :
    wpAnyH P md ops Q S (n + 1) listed a w := wpAnyH_ready hr (by simp) (AllReadyH.cons (opL_spec ho) h (AllReadyH.cons (opL_spec ho2) h2 AllReadyH.nil))
end

theorem write_at (v : Value) (zs : List Int) (k x : Int) (w : World) (h : Sl w v zs) (hk : chk zs = 0) (hx : wordB x = true) :
    Calls Try.prog 66 #[.agg #[v], .int .i64 k, .int .i64 x] w fun e w' => ∃ a n c, e = .returned (.tuple #[.agg #[.slice a n c], .int .i64 (if placeB k = true then 0 else 4)]) ∧ (placeB k = true → Sl w' (.slice a n c) (zs.set k.toNat x) ∧ Fresh w.heap.size (.slice a n c)) ∧ Below w.heap.size w w' := by
  by_cases hp : placeB k = true
  · refine (write_okN v zs k x w h hk hp hx).mono ?_
    rintro e w' ⟨v', rfl, h1, hf, h2⟩
    have h3 := h1
    obtain ⟨a, c, rfl, -⟩ := h1
    exact ⟨a, _, c, by rw [if_pos hp], fun _ => ⟨h3, hf⟩, h2⟩
  · refine (write_err v zs k x w h (fun q => hp q.2.1)).mono ?_
    rintro e w' ⟨rfl, h2⟩
    refine ⟨none, 0, 0, ?_, fun q => absurd q hp, h2⟩
    rw [if_neg hp, wrE, if_pos hk, if_neg hp]

set_option maxRecDepth 10000 in
set_option maxHeartbeats 4000000 in
theorem store_any (am : Option Addr) (nm cm : Nat) (zs : List Int) (pc : Int) (rs : List Int) (mo ba op oh ot fe fp fh ft : Int) (st lo : Bool) (ca : Option Addr) (ck cc : Nat) (k x y i : Int) (w : World) (hs : Sl w (.slice am nm cm) zs) (hz : chk zs = 0) (h8 : rs.length = 8) (hw : ∀ j, j < 8 → 0 ≤ nth rs j ∧ nth rs j ≤ 65535) (hx : 0 ≤ x ∧ x ≤ 7) (hy : 0 ≤ y ∧ y ≤ 7) (hi : 0 ≤ i ∧ i ≤ 63) :
    Calls Try.prog 58 #[.agg #[.slice am nm cm, .int .i64 pc, .int .i64 (nth rs 0), .int .i64 (nth rs 1), .int .i64 (nth rs 2), .int .i64 (nth rs 3), .int .i64 (nth rs 4), .int .i64 (nth rs 5), .int .i64 (nth rs 6), .int .i64 (nth rs 7), .int .i64 mo, .int .i64 ba, .slice ca ck cc, .int .i64 op, .int .i64 oh, .int .i64 ot, .bool st, .int .i64 fe, .int .i64 fp, .int .i64 fh, .int .i64 ft, .bool lo], .agg #[.int .i64 k, .int .i64 x, .int .i64 y, .int .i64 i]] w fun e w' =>
      ∃ a1 n1 c1, e = .returned (.tuple #[.agg #[.slice a1 n1 c1, .int .i64 pc, .int .i64 (nth rs 0), .int .i64 (nth rs 1), .int .i64 (nth rs 2), .int .i64 (nth rs 3), .int .i64 (nth rs 4), .int .i64 (nth rs 5), .int .i64 (nth rs 6), .int .i64 (nth rs 7), .int .i64 mo, .int .i64 ba, .slice ca ck cc, .int .i64 op, .int .i64 oh, .int .i64 ot, .bool st, .int .i64 fe, .int .i64 fp, .int .i64 fh, .int .i64 ft, .bool lo], .bool (decide (nth rs y.toNat + i ≤ 511))]) ∧ (nth rs y.toNat + i ≤ 511 → Sl w' (.slice a1 n1 c1) (zs.set (nth rs y.toNat + i).toNat (nth rs x.toNat)) ∧ Fresh w.heap.size (.slice a1 n1 c1)) ∧ Below w.heap.size w w' := by
  have HM : Hid (Sl w (.slice am nm cm) zs) := hs
  have HZ : Hid (chk zs = 0) := hz
  obtain ⟨hx0, hx1⟩ := hx
  obtain ⟨hy0, hy1⟩ := hy
  obtain ⟨hi0, hi1⟩ := hi
  have hx9 : x < 8 := by omega
  have hy9 : y < 8 := by omega
  have hx8 : x.toNat < 8 := by omega
  have hy8 : y.toNat < 8 := by omega
  have H8 : Hid (rs.length = 8) := h8
  have rx := hw x.toNat hx8
  have ry := hw y.toNat hy8
  obtain ⟨one, h1⟩ : ∃ one, nth rs x.toNat = one := ⟨_, rfl⟩
  obtain ⟨two, h2⟩ : ∃ two, nth rs y.toNat = two := ⟨_, rfl⟩
  have H1 : Hid (nth rs x.toNat = one) := h1
  have H2 : Hid (nth rs y.toNat = two) := h2
  rw [h1] at rx
  rw [h2] at ry
  rw [h1, h2]
  have HX : Hid (wordB one = true) := decide_eq_true rx
  have HP : Hid (placeB (two + i) = decide (two + i ≤ 511)) := by
    show _ = _
    unfold placeB
    by_cases e : two + i ≤ 511
    · rw [decide_eq_true e, decide_eq_true (by omega)]
    · rw [decide_eq_false e, decide_eq_false (by omega)]
  obtain ⟨ee, he1⟩ : ∃ ee : Int, (if placeB (two + i) = true then (0 : Int) else 4) = ee := ⟨_, rfl⟩
  have HE1 : Hid _ := he1
  have HOK : Hid ((ee == 0) = decide (two + i ≤ 511)) := by
    show _ = _
    rw [← he1, HP.out]
    by_cases e : two + i ≤ 511
    · rw [decide_eq_true e]; rfl
    · rw [decide_eq_false e]; rfl
  obtain ⟨ok, hok⟩ : ∃ ok, (ee == 0) = ok := ⟨_, rfl⟩
  have hwr : IntKind.i64.wrap (two + i) = two + i := wraps_i64 _ (by omega) (by omega)
  clear he1 h1 h2 hs h8 hw hz
  go_enter Try.func58, Try.ntmps58
  go_upto_region 1 with fail
  have X0 := ((Box.newAt (w := w) (n := w.heap.size) rfl 66 #[.slice am nm cm, .int .i64 pc, .int .i64 (nth rs 0), .int .i64 (nth rs 1), .int .i64 (nth rs 2), .int .i64 (nth rs 3), .int .i64 (nth rs 4), .int .i64 (nth rs 5), .int .i64 (nth rs 6), .int .i64 (nth rs 7), .int .i64 mo, .int .i64 ba, .slice ca ck cc, .int .i64 op, .int .i64 oh, .int .i64 ot, .bool st, .int .i64 fe, .int .i64 fp, .int .i64 fh, .int .i64 ft, .bool lo]).past (.cells #[.int .i64 k, .int .i64 x, .int .i64 y, .int .i64 i] 23)).past (.cells #[.slice none 0 0, .int .i64 0, .int .i64 0, .int .i64 0, .int .i64 0, .int .i64 0, .int .i64 0, .int .i64 0, .int .i64 0, .int .i64 0, .int .i64 0, .int .i64 0, .slice none 0 0, .int .i64 0, .int .i64 0, .int .i64 0, .bool false, .int .i64 0, .int .i64 0, .int .i64 0, .int .i64 0, .bool false] 66)
  have X1 := (Box.newAt (w := w.alloc (.cells #[.slice am nm cm, .int .i64 pc, .int .i64 (nth rs 0), .int .i64 (nth rs 1), .int .i64 (nth rs 2), .int .i64 (nth rs 3), .int .i64 (nth rs 4), .int .i64 (nth rs 5), .int .i64 (nth rs 6), .int .i64 (nth rs 7), .int .i64 mo, .int .i64 ba, .slice ca ck cc, .int .i64 op, .int .i64 oh, .int .i64 ot, .bool st, .int .i64 fe, .int .i64 fp, .int .i64 fh, .int .i64 ft, .bool lo] 66)) (n := w.heap.size + 1) (by simp) 23 #[.int .i64 k, .int .i64 x, .int .i64 y, .int .i64 i]).past (.cells #[.slice none 0 0, .int .i64 0, .int .i64 0, .int .i64 0, .int .i64 0, .int .i64 0, .int .i64 0, .int .i64 0, .int .i64 0, .int .i64 0, .int .i64 0, .int .i64 0, .slice none 0 0, .int .i64 0, .int .i64 0, .int .i64 0, .bool false, .int .i64 0, .int .i64 0, .int .i64 0, .int .i64 0, .bool false] 66)
  have X2 := Box.newAt (w := (w.alloc (.cells #[.slice am nm cm, .int .i64 pc, .int .i64 (nth rs 0), .int .i64 (nth rs 1), .int .i64 (nth rs 2), .int .i64 (nth rs 3), .int .i64 (nth rs 4), .int .i64 (nth rs 5), .int .i64 (nth rs 6), .int .i64 (nth rs 7), .int .i64 mo, .int .i64 ba, .slice ca ck cc, .int .i64 op, .int .i64 oh, .int .i64 ot, .bool st, .int .i64 fe, .int .i64 fp, .int .i64 fh, .int .i64 ft, .bool lo] 66)).alloc (.cells #[.int .i64 k, .int .i64 x, .int .i64 y, .int .i64 i] 23)) (n := w.heap.size + 1 + 1) (by simp) 66 #[.slice none 0 0, .int .i64 0, .int .i64 0, .int .i64 0, .int .i64 0, .int .i64 0, .int .i64 0, .int .i64 0, .int .i64 0, .int .i64 0, .int .i64 0, .int .i64 0, .slice none 0 0, .int .i64 0, .int .i64 0, .int .i64 0, .bool false, .int .i64 0, .int .i64 0, .int .i64 0, .int .i64 0, .bool false]
  have B0 : Hid (Below w.heap.size w _) := bel_alloc (bel_alloc (bel_alloc (Below.refl w.heap.size w) (.cells #[.slice am nm cm, .int .i64 pc, .int .i64 (nth rs 0), .int .i64 (nth rs 1), .int .i64 (nth rs 2), .int .i64 (nth rs 3), .int .i64 (nth rs 4), .int .i64 (nth rs 5), .int .i64 (nth rs 6), .int .i64 (nth rs 7), .int .i64 mo, .int .i64 ba, .slice ca ck cc, .int .i64 op, .int .i64 oh, .int .i64 ot, .bool st, .int .i64 fe, .int .i64 fp, .int .i64 fh, .int .i64 ft, .bool lo] 66)) (.cells #[.int .i64 k, .int .i64 x, .int .i64 y, .int .i64 i] 23)) (.cells #[.slice none 0 0, .int .i64 0, .int .i64 0, .int .i64 0, .int .i64 0, .int .i64 0, .int .i64 0, .int .i64 0, .int .i64 0, .int .i64 0, .int .i64 0, .int .i64 0, .slice none 0 0, .int .i64 0, .int .i64 0, .int .i64 0, .bool false, .int .i64 0, .int .i64 0, .int .i64 0, .int .i64 0, .bool false] 66)
  have W3 : Hid ((((w.alloc (.cells #[.slice am nm cm, .int .i64 pc, .int .i64 (nth rs 0), .int .i64 (nth rs 1), .int .i64 (nth rs 2), .int .i64 (nth rs 3), .int .i64 (nth rs 4), .int .i64 (nth rs 5), .int .i64 (nth rs 6), .int .i64 (nth rs 7), .int .i64 mo, .int .i64 ba, .slice ca ck cc, .int .i64 op, .int .i64 oh, .int .i64 ot, .bool st, .int .i64 fe, .int .i64 fp, .int .i64 fh, .int .i64 ft, .bool lo] 66)).alloc (.cells #[.int .i64 k, .int .i64 x, .int .i64 y, .int .i64 i] 23)).alloc (.cells #[.slice none 0 0, .int .i64 0, .int .i64 0, .int .i64 0, .int .i64 0, .int .i64 0, .int .i64 0, .int .i64 0, .int .i64 0, .int .i64 0, .int .i64 0, .int .i64 0, .slice none 0 0, .int .i64 0, .int .i64 0, .int .i64 0, .bool false, .int .i64 0, .int .i64 0, .int .i64 0, .int .i64 0, .bool false] 66)).heap.size = w.heap.size + 1 + 1 + 1) := by show _ = _; simp
  generalize (((w.alloc (.cells #[.slice am nm cm, .int .i64 pc, .int .i64 (nth rs 0), .int .i64 (nth rs 1), .int .i64 (nth rs 2), .int .i64 (nth rs 3), .int .i64 (nth rs 4), .int .i64 (nth rs 5), .int .i64 (nth rs 6), .int .i64 (nth rs 7), .int .i64 mo, .int .i64 ba, .slice ca ck cc, .int .i64 op, .int .i64 oh, .int .i64 ot, .bool st, .int .i64 fe, .int .i64 fp, .int .i64 fh, .int .i64 ft, .bool lo] 66)).alloc (.cells #[.int .i64 k, .int .i64 x, .int .i64 y, .int .i64 i] 23)).alloc (.cells #[.slice none 0 0, .int .i64 0, .int .i64 0, .int .i64 0, .int .i64 0, .int .i64 0, .int .i64 0, .int .i64 0, .int .i64 0, .int .i64 0, .int .i64 0, .int .i64 0, .slice none 0 0, .int .i64 0, .int .i64 0, .int .i64 0, .bool false, .int .i64 0, .int .i64 0, .int .i64 0, .int .i64 0, .bool false] 66)) = W at *
  refine wp_region_held_drew (S := fun w' => Below W.heap.size W w') (by kernel_rfl) (Below.drew (Below.refl _ _)) (fun hHeld => ?_)
  refine wpHeld_takeL (i := 0) (v := ?_) rfl (by kernel_rfl) (by kernel_rfl) (by kernel_rfl) (fun _ _ _ h => h) (Or.inl ⟨by kernel_rfl, ?_⟩) (by assumption) ?_
  rotate_left 1
  focus (intro wz hSz; (try dsimp only at hSz); (obtain ⟨⟨q0, q1, q2, q3, q4, q5, q6, q7, q8, q9⟩, ⟨g0, g1, g2, g3, g4, g5, g6, g7, g8, g9, g10, g11⟩, s0⟩ := (X0.keep hSz).state); (obtain ⟨i0, i1, i2, i3, -, -, -, -, s1⟩ := (X1.keep hSz).four); (have gx := (X0.keep hSz).reg hx8); (rw [H1.out] at gx); (have gy := (X0.keep hSz).reg hy8); (rw [H2.out] at gy); go_simp; (try with_reducible rfl))
  simp only [Act.put, List.setIfInBounds_toArray, List.set_cons_zero, List.set_cons_succ]
  refine wpHeld_takeL (i := 1) (v := ?_) rfl (by kernel_rfl) (by kernel_rfl) (by kernel_rfl) (fun _ _ _ h => h) (Or.inl ⟨by kernel_rfl, ?_⟩) (by assumption) ?_
  rotate_left 1
  focus (intro wz hSz; (try dsimp only at hSz); (obtain ⟨⟨q0, q1, q2, q3, q4, q5, q6, q7, q8, q9⟩, ⟨g0, g1, g2, g3, g4, g5, g6, g7, g8, g9, g10, g11⟩, s0⟩ := (X0.keep hSz).state); (obtain ⟨i0, i1, i2, i3, -, -, -, -, s1⟩ := (X1.keep hSz).four); (have gx := (X0.keep hSz).reg hx8); (rw [H1.out] at gx); (have gy := (X0.keep hSz).reg hy8); (rw [H2.out] at gy); go_simp; (try with_reducible rfl))
  simp only [Act.put, List.setIfInBounds_toArray, List.set_cons_zero, List.set_cons_succ]
  refine wpHeld_takeL (i := 2) (v := ?_) rfl (by kernel_rfl) (by kernel_rfl) (by kernel_rfl) (fun _ _ _ h => h) (Or.inl ⟨by kernel_rfl, ?_⟩) (by assumption) ?_
  rotate_left 1
  focus (intro wz hSz; (try dsimp only at hSz); (obtain ⟨⟨q0, q1, q2, q3, q4, q5, q6, q7, q8, q9⟩, ⟨g0, g1, g2, g3, g4, g5, g6, g7, g8, g9, g10, g11⟩, s0⟩ := (X0.keep hSz).state); (obtain ⟨i0, i1, i2, i3, -, -, -, -, s1⟩ := (X1.keep hSz).four); (have gx := (X0.keep hSz).reg hx8); (rw [H1.out] at gx); (have gy := (X0.keep hSz).reg hy8); (rw [H2.out] at gy); go_simp; (try with_reducible rfl))
  simp only [Act.put, List.setIfInBounds_toArray, List.set_cons_zero, List.set_cons_succ]
  refine wpHeld_takeL (i := 3) (v := ?_) rfl (by kernel_rfl) (by kernel_rfl) (by kernel_rfl) (fun _ _ _ h => h) (Or.inl ⟨by kernel_rfl, ?_⟩) (by assumption) ?_
  rotate_left 1
  focus (intro wz hSz; (try dsimp only at hSz); (obtain ⟨⟨q0, q1, q2, q3, q4, q5, q6, q7, q8, q9⟩, ⟨g0, g1, g2, g3, g4, g5, g6, g7, g8, g9, g10, g11⟩, s0⟩ := (X0.keep hSz).state); (obtain ⟨i0, i1, i2, i3, -, -, -, -, s1⟩ := (X1.keep hSz).four); (have gx := (X0.keep hSz).reg hx8); (rw [H1.out] at gx); (have gy := (X0.keep hSz).reg hy8); (rw [H2.out] at gy); go_simp; (try with_reducible rfl))
  simp only [Act.put, List.setIfInBounds_toArray, List.set_cons_zero, List.set_cons_succ]
  refine wpHeld_takeL (i := 4) (v := ?_) rfl (by kernel_rfl) (by kernel_rfl) (by kernel_rfl) (fun _ _ _ h => h) (Or.inl ⟨by kernel_rfl, ?_⟩) (by assumption) ?_
  rotate_left 1
  focus (intro wz hSz; (try dsimp only at hSz); (obtain ⟨⟨q0, q1, q2, q3, q4, q5, q6, q7, q8, q9⟩, ⟨g0, g1, g2, g3, g4, g5, g6, g7, g8, g9, g10, g11⟩, s0⟩ := (X0.keep hSz).state); (obtain ⟨i0, i1, i2, i3, -, -, -, -, s1⟩ := (X1.keep hSz).four); (have gx := (X0.keep hSz).reg hx8); (rw [H1.out] at gx); (have gy := (X0.keep hSz).reg hy8); (rw [H2.out] at gy); go_simp; (try with_reducible rfl))
  simp only [Act.put, List.setIfInBounds_toArray, List.set_cons_zero, List.set_cons_succ]
  refine wpHeld_takeL (i := 5) (v := ?_) rfl (by kernel_rfl) (by kernel_rfl) (by kernel_rfl) (fun _ _ _ h => h) (Or.inl ⟨by kernel_rfl, ?_⟩) (by assumption) ?_
  rotate_left 1
  focus (intro wz hSz; (try dsimp only at hSz); (obtain ⟨⟨q0, q1, q2, q3, q4, q5, q6, q7, q8, q9⟩, ⟨g0, g1, g2, g3, g4, g5, g6, g7, g8, g9, g10, g11⟩, s0⟩ := (X0.keep hSz).state); (obtain ⟨i0, i1, i2, i3, -, -, -, -, s1⟩ := (X1.keep hSz).four); (have gx := (X0.keep hSz).reg hx8); (rw [H1.out] at gx); (have gy := (X0.keep hSz).reg hy8); (rw [H2.out] at gy); go_simp; (try with_reducible rfl))
  simp only [Act.put, List.setIfInBounds_toArray, List.set_cons_zero, List.set_cons_succ]
  refine wpHeld_takeL (i := 6) (v := ?_) rfl (by kernel_rfl) (by kernel_rfl) (by kernel_rfl) (fun _ _ _ h => h) (Or.inl ⟨by kernel_rfl, ?_⟩) (by assumption) ?_
  rotate_left 1
  focus (intro wz hSz; (try dsimp only at hSz); (obtain ⟨⟨q0, q1, q2, q3, q4, q5, q6, q7, q8, q9⟩, ⟨g0, g1, g2, g3, g4, g5, g6, g7, g8, g9, g10, g11⟩, s0⟩ := (X0.keep hSz).state); (obtain ⟨i0, i1, i2, i3, -, -, -, -, s1⟩ := (X1.keep hSz).four); (have gx := (X0.keep hSz).reg hx8); (rw [H1.out] at gx); (have gy := (X0.keep hSz).reg hy8); (rw [H2.out] at gy); go_simp; (try with_reducible rfl))
  simp only [Act.put, List.setIfInBounds_toArray, List.set_cons_zero, List.set_cons_succ]
  refine wpHeld_takeL (i := 7) (v := ?_) rfl (by kernel_rfl) (by kernel_rfl) (by kernel_rfl) (fun _ _ _ h => h) (Or.inl ⟨by kernel_rfl, ?_⟩) (by assumption) ?_
  rotate_left 1
  focus (intro wz hSz; (try dsimp only at hSz); (obtain ⟨⟨q0, q1, q2, q3, q4, q5, q6, q7, q8, q9⟩, ⟨g0, g1, g2, g3, g4, g5, g6, g7, g8, g9, g10, g11⟩, s0⟩ := (X0.keep hSz).state); (obtain ⟨i0, i1, i2, i3, -, -, -, -, s1⟩ := (X1.keep hSz).four); (have gx := (X0.keep hSz).reg hx8); (rw [H1.out] at gx); (have gy := (X0.keep hSz).reg hy8); (rw [H2.out] at gy); go_simp; (try with_reducible rfl))
  simp only [Act.put, List.setIfInBounds_toArray, List.set_cons_zero, List.set_cons_succ]
  refine wpHeld_takeL (i := 8) (v := ?_) rfl (by kernel_rfl) (by kernel_rfl) (by kernel_rfl) (fun _ _ _ h => h) (Or.inl ⟨by kernel_rfl, ?_⟩) (by assumption) ?_
  rotate_left 1
  focus (intro wz hSz; (try dsimp only at hSz); (obtain ⟨⟨q0, q1, q2, q3, q4, q5, q6, q7, q8, q9⟩, ⟨g0, g1, g2, g3, g4, g5, g6, g7, g8, g9, g10, g11⟩, s0⟩ := (X0.keep hSz).state); (obtain ⟨i0, i1, i2, i3, -, -, -, -, s1⟩ := (X1.keep hSz).four); (have gx := (X0.keep hSz).reg hx8); (rw [H1.out] at gx); (have gy := (X0.keep hSz).reg hy8); (rw [H2.out] at gy); go_simp; (try with_reducible rfl))
  simp only [Act.put, List.setIfInBounds_toArray, List.set_cons_zero, List.set_cons_succ]
  refine wpHeld_takeL (i := 9) (v := ?_) rfl (by kernel_rfl) (by kernel_rfl) (by kernel_rfl) (fun _ _ _ h => h) (Or.inl ⟨by kernel_rfl, ?_⟩) (by assumption) ?_
  rotate_left 1
  focus (intro wz hSz; (try dsimp only at hSz); (obtain ⟨⟨q0, q1, q2, q3, q4, q5, q6, q7, q8, q9⟩, ⟨g0, g1, g2, g3, g4, g5, g6, g7, g8, g9, g10, g11⟩, s0⟩ := (X0.keep hSz).state); (obtain ⟨i0, i1, i2, i3, -, -, -, -, s1⟩ := (X1.keep hSz).four); (have gx := (X0.keep hSz).reg hx8); (rw [H1.out] at gx); (have gy := (X0.keep hSz).reg hy8); (rw [H2.out] at gy); go_simp; (try with_reducible rfl))
  simp only [Act.put, List.setIfInBounds_toArray, List.set_cons_zero, List.set_cons_succ]
  refine wpHeld_takeL (i := 10) (v := ?_) rfl (by kernel_rfl) (by kernel_rfl) (by kernel_rfl) (fun _ _ _ h => h) (Or.inl ⟨by kernel_rfl, ?_⟩) (by assumption) ?_
  rotate_left 1
  focus (intro wz hSz; (try dsimp only at hSz); (obtain ⟨⟨q0, q1, q2, q3, q4, q5, q6, q7, q8, q9⟩, ⟨g0, g1, g2, g3, g4, g5, g6, g7, g8, g9, g10, g11⟩, s0⟩ := (X0.keep hSz).state); (obtain ⟨i0, i1, i2, i3, -, -, -, -, s1⟩ := (X1.keep hSz).four); (have gx := (X0.keep hSz).reg hx8); (rw [H1.out] at gx); (have gy := (X0.keep hSz).reg hy8); (rw [H2.out] at gy); go_simp; (try with_reducible rfl))
  simp only [Act.put, List.setIfInBounds_toArray, List.set_cons_zero, List.set_cons_succ]
  refine wpHeld_takeL (i := 11) (v := ?_) rfl (by kernel_rfl) (by kernel_rfl) (by kernel_rfl) (fun _ _ _ h => h) (Or.inl ⟨by kernel_rfl, ?_⟩) (by assumption) ?_
  rotate_left 1
  focus (intro wz hSz; (try dsimp only at hSz); (obtain ⟨⟨q0, q1, q2, q3, q4, q5, q6, q7, q8, q9⟩, ⟨g0, g1, g2, g3, g4, g5, g6, g7, g8, g9, g10, g11⟩, s0⟩ := (X0.keep hSz).state); (obtain ⟨i0, i1, i2, i3, -, -, -, -, s1⟩ := (X1.keep hSz).four); (have gx := (X0.keep hSz).reg hx8); (rw [H1.out] at gx); (have gy := (X0.keep hSz).reg hy8); (rw [H2.out] at gy); go_simp; (try with_reducible rfl))
  simp only [Act.put, List.setIfInBounds_toArray, List.set_cons_zero, List.set_cons_succ]
  refine wpHeld_takeL (i := 12) (v := ?_) rfl (by kernel_rfl) (by kernel_rfl) (by kernel_rfl) (fun _ _ _ h => h) (Or.inl ⟨by kernel_rfl, ?_⟩) (by assumption) ?_
  rotate_left 1
  focus (intro wz hSz; (try dsimp only at hSz); (obtain ⟨⟨q0, q1, q2, q3, q4, q5, q6, q7, q8, q9⟩, ⟨g0, g1, g2, g3, g4, g5, g6, g7, g8, g9, g10, g11⟩, s0⟩ := (X0.keep hSz).state); (obtain ⟨i0, i1, i2, i3, -, -, -, -, s1⟩ := (X1.keep hSz).four); (have gx := (X0.keep hSz).reg hx8); (rw [H1.out] at gx); (have gy := (X0.keep hSz).reg hy8); (rw [H2.out] at gy); go_simp; (try with_reducible rfl))
  simp only [Act.put, List.setIfInBounds_toArray, List.set_cons_zero, List.set_cons_succ]
  refine wpHeld_takeL (i := 13) (v := ?_) rfl (by kernel_rfl) (by kernel_rfl) (by kernel_rfl) (fun _ _ _ h => h) (Or.inl ⟨by kernel_rfl, ?_⟩) (by assumption) ?_
  rotate_left 1
  focus (intro wz hSz; (try dsimp only at hSz); (obtain ⟨⟨q0, q1, q2, q3, q4, q5, q6, q7, q8, q9⟩, ⟨g0, g1, g2, g3, g4, g5, g6, g7, g8, g9, g10, g11⟩, s0⟩ := (X0.keep hSz).state); (obtain ⟨i0, i1, i2, i3, -, -, -, -, s1⟩ := (X1.keep hSz).four); (have gx := (X0.keep hSz).reg hx8); (rw [H1.out] at gx); (have gy := (X0.keep hSz).reg hy8); (rw [H2.out] at gy); go_simp; (try with_reducible rfl))
  simp only [Act.put, List.setIfInBounds_toArray, List.set_cons_zero, List.set_cons_succ]
  refine wpHeld_takeL (i := 14) (v := ?_) rfl (by kernel_rfl) (by kernel_rfl) (by kernel_rfl) (fun _ _ _ h => h) (Or.inl ⟨by kernel_rfl, ?_⟩) (by assumption) ?_
  rotate_left 1
  focus (intro wz hSz; (try dsimp only at hSz); (obtain ⟨⟨q0, q1, q2, q3, q4, q5, q6, q7, q8, q9⟩, ⟨g0, g1, g2, g3, g4, g5, g6, g7, g8, g9, g10, g11⟩, s0⟩ := (X0.keep hSz).state); (obtain ⟨i0, i1, i2, i3, -, -, -, -, s1⟩ := (X1.keep hSz).four); (have gx := (X0.keep hSz).reg hx8); (rw [H1.out] at gx); (have gy := (X0.keep hSz).reg hy8); (rw [H2.out] at gy); go_simp; (try with_reducible rfl))
  simp only [Act.put, List.setIfInBounds_toArray, List.set_cons_zero, List.set_cons_succ]
  refine wpHeld_twoL (i := 15) (j := 19) (by kernel_rfl) (by rfl) (by rfl) (fun K hK => ?_) (fun K hK => ?_)
  · go_simp
    refine (write_at _ zs (two + i) one _ (HM.out.keep (bel_trans B0.out hHeld)) HZ.out HX.out).mono ?_
    rintro e w5 ⟨a1, n1, c1, rfl, hS1, b5⟩
    rw [HE1.out]
    go_wp2_with fail
    refine hK.out _ _ ?_ (fun hHeld2 => ?_)
    · exact bel_trans hHeld b5
    clear hK K hHeld
    have hHeld := hHeld2
    clear hHeld2
    refine wpHeld_takeL (i := 16) (v := ?_) rfl (by kernel_rfl) (by kernel_rfl) (by kernel_rfl) (fun _ _ _ h => h) (Or.inl ⟨by kernel_rfl, ?_⟩) (by assumption) ?_
    rotate_left 1
    focus (intro wz hSz; (try dsimp only at hSz); go_simp; (try with_reducible rfl))
    simp only [Act.put, List.setIfInBounds_toArray, List.set_cons_zero, List.set_cons_succ]
    refine wpHeld_takeL (i := 17) (v := ?_) rfl (by kernel_rfl) (by kernel_rfl) (by kernel_rfl) (fun _ _ _ h => h) (Or.inl ⟨by kernel_rfl, ?_⟩) (by assumption) ?_
    rotate_left 1
    focus (intro wz hSz; (try dsimp only at hSz); go_simp; (try with_reducible rfl))
    simp only [Act.put, List.setIfInBounds_toArray, List.set_cons_zero, List.set_cons_succ]
    refine wpHeld_takeL (i := 18) (v := ?_) rfl (by kernel_rfl) (by kernel_rfl) (by kernel_rfl) (fun _ _ _ h => h) (Or.inl ⟨by kernel_rfl, ?_⟩) (by assumption) ?_
    rotate_left 1
    focus (intro wz hSz; (try dsimp only at hSz); go_simp; (try with_reducible rfl))
    simp only [Act.put, List.setIfInBounds_toArray, List.set_cons_zero, List.set_cons_succ]
    refine wpHeld_oneL (i := 19) (by kernel_rfl) (by rfl) (fun K hK => ?_)
    go_simp
    refine hK.out _ _ ?_ (fun hHeld2 => ?_)
    · exact bel_alloc hHeld _
    clear hK K hHeld
    have hHeld := hHeld2
    clear hHeld2
    refine wpHeld_oneL (i := 20) (by kernel_rfl) (by rfl) (fun K hK => ?_)
    go_simp
    refine hK.out _ _ ?_ (fun hHeld2 => ?_)
    · exact bel_alloc (bel_trans (Below.drew (Below.refl _ _)) b5) _
    clear hK K hHeld
    have hHeld := hHeld2
    clear hHeld2
    refine wpHeld_takeL (i := 21) (v := ?_) rfl (by kernel_rfl) (by kernel_rfl) (by kernel_rfl) (fun _ _ _ h => h) (Or.inl ⟨by kernel_rfl, ?_⟩) (by assumption) ?_
    rotate_left 1
    focus (intro wz hSz; (try dsimp only at hSz); go_simp; (try with_reducible rfl))
    simp only [Act.put, List.setIfInBounds_toArray, List.set_cons_zero, List.set_cons_succ]
    refine wpAnyH_done (by kernel_rfl) ?_ _
    have X6 := Box.newAt (w := w5) (n := w5.heap.size) rfl 33 #[.slice a1 n1 c1]
    have HS1 : Hid (two + i ≤ 511 → Sl (w5.alloc (.cells #[.slice a1 n1 c1] 33)) (.slice a1 n1 c1) (zs.set (two + i).toNat one) ∧ Fresh (w.heap.size + 1 + 1 + 1) (.slice a1 n1 c1)) := fun q => let h := hS1 (by rw [HP.out]; exact decide_eq_true q); ⟨h.1.keep (bel_alloc (Below.refl _ _) _), h.2.mono (by have := W3.out; simp; omega)⟩
    have hN6 : w.heap.size + 1 + 1 < w5.heap.size := by have := b5.size; have w3 := W3.out; simp at this; omega
    clear hS1 b5
    generalize (w5.alloc (.cells #[.slice a1 n1 c1] 33)) = W5 at *
    generalize w5.heap.size = N6 at *
    have X0 := X0.keep hHeld
    have X2 := X2.keep hHeld
    have B5 : Hid (Below w.heap.size w W5) := bel_trans B0.out hHeld
    clear hHeld B0 X1
    have Y0 := Box.set X0 0 (.slice a1 n1 c1)
    have Y0 : Box (W5.setCell ⟨w.heap.size, 0, none⟩ (.slice a1 n1 c1)) w.heap.size 66 #[.slice a1 n1 c1, .int .i64 pc, .int .i64 (nth rs 0), .int .i64 (nth rs 1), .int .i64 (nth rs 2), .int .i64 (nth rs 3), .int .i64 (nth rs 4), .int .i64 (nth rs 5), .int .i64 (nth rs 6), .int .i64 (nth rs 7), .int .i64 mo, .int .i64 ba, .slice ca ck cc, .int .i64 op, .int .i64 oh, .int .i64 ot, .bool st, .int .i64 fe, .int .i64 fp, .int .i64 fh, .int .i64 ft, .bool lo] := Y0
    have Y2 := X2.other (p := ⟨w.heap.size, 0, none⟩) (by show w.heap.size + 1 + 1 ≠ w.heap.size; omega) (.slice a1 n1 c1)
    have B6 : Hid (Below w.heap.size w (W5.setCell ⟨w.heap.size, 0, none⟩ (.slice a1 n1 c1))) := bel_set (by show w.heap.size ≤ w.heap.size; omega) B5.out _
    have HS6 : Hid (two + i ≤ 511 → Sl (W5.setCell ⟨w.heap.size, 0, none⟩ (.slice a1 n1 c1)) (.slice a1 n1 c1) (zs.set (two + i).toNat one) ∧ Fresh (w.heap.size + 1 + 1 + 1) (.slice a1 n1 c1)) := fun q => ⟨Sl.setSlice (HS1.out q).1 X0.state0.1.1 _, (HS1.out q).2⟩
    obtain ⟨⟨q0, -⟩, -, s0⟩ := X0.state0
    have fx := X0.marksAll
    obtain ⟨u6, -, s6⟩ := X6.one
    go_upto_region 3 with fail
    clear q0 fx s0 u6 s6 X0 X2 X6
    generalize (W5.setCell ⟨w.heap.size, 0, none⟩ (.slice a1 n1 c1)) = W6 at *
    go_wp2_with (first
      | (refine wpList_load_row rfl 66 (.tmp 2) rfl w.heap.size rfl _ _ _ _ Y0 Try.underlying66 rfl infoState ?_)
      | (refine wpList_store_row rfl 66 (.tmp 4) (.tmp 29) rfl (w.heap.size + 1 + 1) _ rfl rfl _ _ Y2 infoState rfl (stateOne _ _ _ _ _ _ _ _ _ _ _ _ _ _ _ _ _ _ _ _ _ _ _ _ _ _) ?_))
    have hl := Box.loadState (Y2.setRow #[.slice a1 n1 c1, .int .i64 pc, .int .i64 (nth rs 0), .int .i64 (nth rs 1), .int .i64 (nth rs 2), .int .i64 (nth rs 3), .int .i64 (nth rs 4), .int .i64 (nth rs 5), .int .i64 (nth rs 6), .int .i64 (nth rs 7), .int .i64 mo, .int .i64 ba, .slice ca ck cc, .int .i64 op, .int .i64 oh, .int .i64 ot, .bool st, .int .i64 fe, .int .i64 fp, .int .i64 fh, .int .i64 ft, .bool lo]) rfl
    refine bodyPost_ret (v := .tuple #[.agg #[.slice a1 n1 c1, .int .i64 pc, .int .i64 (nth rs 0), .int .i64 (nth rs 1), .int .i64 (nth rs 2), .int .i64 (nth rs 3), .int .i64 (nth rs 4), .int .i64 (nth rs 5), .int .i64 (nth rs 6), .int .i64 (nth rs 7), .int .i64 mo, .int .i64 ba, .slice ca ck cc, .int .i64 op, .int .i64 oh, .int .i64 ot, .bool st, .int .i64 fe, .int .i64 fp, .int .i64 fh, .int .i64 ft, .bool lo], .bool ok]) (by simp [results, Try.results58, asAddr, hl]) rfl ⟨a1, n1, c1, by rw [← HOK.out, hok], fun q => ?_, ?_⟩
    · exact ⟨(HS6.out q).1.otherRow ((HS6.out q).2.ne (by omega)) _, (HS6.out q).2.mono (by omega)⟩
    · exact bel_setRow (by omega) B6.out _
  · go_simp
    refine hK.out _ _ ?_ (fun hHeld2 => ?_)
    · exact bel_alloc hHeld _
    clear hK K hHeld
    have hHeld := hHeld2
    clear hHeld2
    refine wpHeld_oneL (i := 15) (by kernel_rfl) (by rfl) (fun K hK => ?_)
    go_simp
    refine (write_at _ zs (two + i) one _ (HM.out.keep (bel_trans B0.out hHeld)) HZ.out HX.out).mono ?_
    rintro e w5 ⟨a1, n1, c1, rfl, hS1, b5⟩
    rw [HE1.out]
    have X6 := ((Box.newAt (w := W) (n := W.heap.size) rfl 33 #[.slice none 0 0]).drew.keep b5)
    go_wp2_with fail
    refine hK.out _ _ ?_ (fun hHeld2 => ?_)
    · exact bel_trans hHeld b5
    clear hK K hHeld
    have hHeld := hHeld2
    clear hHeld2
    refine wpHeld_takeL (i := 16) (v := ?_) rfl (by kernel_rfl) (by kernel_rfl) (by kernel_rfl) (fun _ _ _ h => h) (Or.inl ⟨by kernel_rfl, ?_⟩) (by assumption) ?_
    rotate_left 1
    focus (intro wz hSz; (try dsimp only at hSz); go_simp; (try with_reducible rfl))
    simp only [Act.put, List.setIfInBounds_toArray, List.set_cons_zero, List.set_cons_succ]
    refine wpHeld_takeL (i := 17) (v := ?_) rfl (by kernel_rfl) (by kernel_rfl) (by kernel_rfl) (fun _ _ _ h => h) (Or.inl ⟨by kernel_rfl, ?_⟩) (by assumption) ?_
    rotate_left 1
    focus (intro wz hSz; (try dsimp only at hSz); go_simp; (try with_reducible rfl))
    simp only [Act.put, List.setIfInBounds_toArray, List.set_cons_zero, List.set_cons_succ]
    refine wpHeld_takeL (i := 18) (v := ?_) rfl (by kernel_rfl) (by kernel_rfl) (by kernel_rfl) (fun _ _ _ h => h) (Or.inl ⟨by kernel_rfl, ?_⟩) (by assumption) ?_
    rotate_left 1
    focus (intro wz hSz; (try dsimp only at hSz); go_simp; (try with_reducible rfl))
    simp only [Act.put, List.setIfInBounds_toArray, List.set_cons_zero, List.set_cons_succ]
    obtain ⟨u6, f6, s6⟩ := X6.one
    refine wpHeld_oneL (i := 20) (by kernel_rfl) (by rfl) (fun K hK => ?_)
    go_simp
    refine hK.out _ _ ?_ (fun hHeld2 => ?_)
    · exact bel_set1 (Nat.le_refl _) hHeld _
    clear hK K hHeld
    have hHeld := hHeld2
    clear hHeld2
    refine wpHeld_takeL (i := 21) (v := ?_) rfl (by kernel_rfl) (by kernel_rfl) (by kernel_rfl) (fun _ _ _ h => h) (Or.inl ⟨by kernel_rfl, ?_⟩) (by assumption) ?_
    rotate_left 1
    focus (intro wz hSz; (try dsimp only at hSz); go_simp; (try with_reducible rfl))
    simp only [Act.put, List.setIfInBounds_toArray, List.set_cons_zero, List.set_cons_succ]
    refine wpAnyH_done (by kernel_rfl) ?_ _
    have X6 := X6.set1 (.slice a1 n1 c1)
    have HS1 : Hid (two + i ≤ 511 → Sl (w5.setCell ⟨W.heap.size, 0, none⟩ (.slice a1 n1 c1)) (.slice a1 n1 c1) (zs.set (two + i).toNat one) ∧ Fresh (w.heap.size + 1 + 1 + 1) (.slice a1 n1 c1)) := fun q => let h := hS1 (by rw [HP.out]; exact decide_eq_true q); ⟨Sl.setSlice h.1 u6 _, h.2.mono (by have := W3.out; simp; omega)⟩
    have hN6 : w.heap.size + 1 + 1 < W.heap.size := by have := W3.out; omega
    clear hS1 b5 u6 f6 s6
    generalize (w5.setCell ⟨W.heap.size, 0, none⟩ (.slice a1 n1 c1)) = W5 at *
    obtain ⟨N6, hWN⟩ : ∃ N6, W.heap.size = N6 := ⟨_, rfl⟩
    have HW6 := hHeld
    rw [hWN] at X6 hN6 ⊢
    clear hWN HW6
    have X0 := X0.keep hHeld
    have X2 := X2.keep hHeld
    have B5 : Hid (Below w.heap.size w W5) := bel_trans B0.out hHeld
    clear hHeld B0 X1
    have Y0 := Box.set X0 0 (.slice a1 n1 c1)
    have Y0 : Box (W5.setCell ⟨w.heap.size, 0, none⟩ (.slice a1 n1 c1)) w.heap.size 66 #[.slice a1 n1 c1, .int .i64 pc, .int .i64 (nth rs 0), .int .i64 (nth rs 1), .int .i64 (nth rs 2), .int .i64 (nth rs 3), .int .i64 (nth rs 4), .int .i64 (nth rs 5), .int .i64 (nth rs 6), .int .i64 (nth rs 7), .int .i64 mo, .int .i64 ba, .slice ca ck cc, .int .i64 op, .int .i64 oh, .int .i64 ot, .bool st, .int .i64 fe, .int .i64 fp, .int .i64 fh, .int .i64 ft, .bool lo] := Y0
    have Y2 := X2.other (p := ⟨w.heap.size, 0, none⟩) (by show w.heap.size + 1 + 1 ≠ w.heap.size; omega) (.slice a1 n1 c1)
    have B6 : Hid (Below w.heap.size w (W5.setCell ⟨w.heap.size, 0, none⟩ (.slice a1 n1 c1))) := bel_set (by show w.heap.size ≤ w.heap.size; omega) B5.out _
    have HS6 : Hid (two + i ≤ 511 → Sl (W5.setCell ⟨w.heap.size, 0, none⟩ (.slice a1 n1 c1)) (.slice a1 n1 c1) (zs.set (two + i).toNat one) ∧ Fresh (w.heap.size + 1 + 1 + 1) (.slice a1 n1 c1)) := fun q => ⟨Sl.setSlice (HS1.out q).1 X0.state0.1.1 _, (HS1.out q).2⟩
    obtain ⟨⟨q0, -⟩, -, s0⟩ := X0.state0
    have fx := X0.marksAll
    obtain ⟨u6, -, s6⟩ := X6.one
    go_upto_region 3 with fail
    clear q0 fx s0 u6 s6 X0 X2 X6
    generalize (W5.setCell ⟨w.heap.size, 0, none⟩ (.slice a1 n1 c1)) = W6 at *
    go_wp2_with (first
      | (refine wpList_load_row rfl 66 (.tmp 2) rfl w.heap.size rfl _ _ _ _ Y0 Try.underlying66 rfl infoState ?_)
      | (refine wpList_store_row rfl 66 (.tmp 4) (.tmp 29) rfl (w.heap.size + 1 + 1) _ rfl rfl _ _ Y2 infoState rfl (stateOne _ _ _ _ _ _ _ _ _ _ _ _ _ _ _ _ _ _ _ _ _ _ _ _ _ _) ?_))
    have hl := Box.loadState (Y2.setRow #[.slice a1 n1 c1, .int .i64 pc, .int .i64 (nth rs 0), .int .i64 (nth rs 1), .int .i64 (nth rs 2), .int .i64 (nth rs 3), .int .i64 (nth rs 4), .int .i64 (nth rs 5), .int .i64 (nth rs 6), .int .i64 (nth rs 7), .int .i64 mo, .int .i64 ba, .slice ca ck cc, .int .i64 op, .int .i64 oh, .int .i64 ot, .bool st, .int .i64 fe, .int .i64 fp, .int .i64 fh, .int .i64 ft, .bool lo]) rfl
    refine bodyPost_ret (v := .tuple #[.agg #[.slice a1 n1 c1, .int .i64 pc, .int .i64 (nth rs 0), .int .i64 (nth rs 1), .int .i64 (nth rs 2), .int .i64 (nth rs 3), .int .i64 (nth rs 4), .int .i64 (nth rs 5), .int .i64 (nth rs 6), .int .i64 (nth rs 7), .int .i64 mo, .int .i64 ba, .slice ca ck cc, .int .i64 op, .int .i64 oh, .int .i64 ot, .bool st, .int .i64 fe, .int .i64 fp, .int .i64 fh, .int .i64 ft, .bool lo], .bool ok]) (by simp [results, Try.results58, asAddr, hl]) rfl ⟨a1, n1, c1, by rw [← HOK.out, hok], fun q => ?_, ?_⟩
    · exact ⟨(HS6.out q).1.otherRow ((HS6.out q).2.ne (by omega)) _, (HS6.out q).2.mono (by omega)⟩
    · exact bel_setRow (by omega) B6.out _
end Go.Proofs.Ytfbmmiikhkmpfac
/-
  A drawn region whose last operations (from number z on) turn cells that the region reads: what holds of the world is asked for behind every operation ahead of z; those from z on wait, straight or by others, for all that is taken first.
-/
namespace Go.Proofs.Ytfbmmiikhkmpfac
open Go Go.RowKit

section
variable {P : Program} {ops : Array Oper} {Q : Exit → Act → World → Prop} {md : Region.Mode} {S : World → Prop} {z : Nat}

/-- Whatever order is picked; S holds behind every operation ahead of number z. -/
def wpLate (P : Program) (md : Region.Mode) (ops : Array Oper) (Q : Exit → Act → World → Prop) (S : World → Prop) (z : Nat) : Nat → Array Bool → Act → World → Prop
  | 0, listed, a, w => Region.ready md ops listed = [] ∧ Q .normal a w
  | n + 1, listed, a, w => (Region.ready md ops listed = [] → Q .normal a w) ∧
      ∀ i ∈ Region.ready md ops listed, wpOp P ops Q i (fun a' w' => (i < z → S w') ∧ wpLate P md ops Q S z n (listed.setIfInBounds i true) a' w') a w

theorem wpAny_of_late : ∀ (n : Nat) (listed : Array Bool) (a : Act) (w : World), wpLate P md ops Q S z n listed a w → wpAny P md ops Q n listed a w
  | 0, _, _, _, h => h
  | n + 1, _, _, _, h => ⟨h.1, fun i hi => wpOp_mono (fun a' w' h' => wpAny_of_late n _ a' w' h'.2) (h.2 i hi)⟩

/-- Operation z waits for operation i, straight or by others. -/
def waitsT (md : Region.Mode) (ops : Array Oper) : Nat → Nat → Nat → Bool
  | 0, _, _ => false
  | n + 1, z, i => match ops[z]? with
    | some o => o.after.any (fun e => Region.binds md e && (e.on == i || waitsT md ops n e.on i))
    | none => false
/-- What is listed has all that it waits for listed. -/
def ShutL (md : Region.Mode) (ops : Array Oper) (listed : Array Bool) : Prop := ∀ (j : Nat) (o : Oper), ops[j]? = some o → listed.getD j false = true → ∀ e ∈ o.after, Region.binds md e = true → listed.getD e.on false = true
def shutB (md : Region.Mode) (ops : Array Oper) (listed : Array Bool) : Bool := (List.range ops.size).all fun j => match ops[j]? with
  | some o => !(listed.getD j false) || o.after.all (fun e => !(Region.binds md e) || listed.getD e.on false)
  | none => true
theorem shutB_spec {listed : Array Bool} (h : shutB md ops listed = true) : ShutL md ops listed := by
  intro j o ho hj e he hb
  unfold shutB at h
  rw [List.all_eq_true] at h
  have hlt : j < ops.size := by
    rcases Nat.lt_or_ge j ops.size with k | k
    · exact k
    · rw [Array.getElem?_eq_none k] at ho; cases ho
  have := h j (List.mem_range.2 hlt)
  rw [ho] at this
  simp only [hj, Bool.not_true, Bool.false_or, Array.all_eq_true] at this
  obtain ⟨k, hk, rfl⟩ := Array.mem_iff_getElem.1 he
  have h2 := this k hk
  rw [hb] at h2
  simpa using h2
theorem getD_both {listed : Array Bool} {i : Nat} (h1 : listed.getD i false = true) (h2 : listed.getD i true = false) : False := by
  rcases Nat.lt_or_ge i listed.size with h' | h'
  · simp [h'] at h1 h2; rw [h1] at h2; cases h2
  · simp [Array.getElem?_eq_none h'] at h1
theorem ShutL.set {listed : Array Bool} (h : ShutL md ops listed) {j : Nat} (hj : j ∈ Region.ready md ops listed) : ShutL md ops (listed.setIfInBounds j true) := by
  obtain ⟨_, oj, hoj, hall⟩ := mem_ready.1 hj
  have mono : ∀ k, listed.getD k false = true → (listed.setIfInBounds j true).getD k false = true := by
    intro k hk
    by_cases e : j = k
    · subst e
      rcases Nat.lt_or_ge j listed.size with h' | h'
      · simp [h']
      · simp [Array.getElem?_eq_none h'] at hk
    · rw [getD_set_ne false e]; exact hk
  intro k o ho hk e he hb
  by_cases hjk : j = k
  · subst hjk
    rw [hoj] at ho
    cases ho
    exact mono _ (hall e he hb)
  · rw [getD_set_ne false hjk] at hk
    exact mono _ (h k o ho hk e he hb)
theorem waitsT_spec {listed : Array Bool} (hc : ShutL md ops listed) {i : Nat} : ∀ (n z : Nat) (o : Oper), ops[z]? = some o → (∀ e ∈ o.after, Region.binds md e = true → listed.getD e.on false = true) → waitsT md ops n z i = true → listed.getD i false = true
  | 0, _, _, _, _, h => by simp [waitsT] at h
  | n + 1, z, o, ho, hall, h => by
    rw [waitsT, ho] at h
    simp only [Array.any_eq_true] at h
    obtain ⟨j, hj, he⟩ := h
    rw [Bool.and_eq_true] at he
    have h1 := hall _ (Array.getElem_mem hj) he.1
    rcases Bool.or_eq_true _ _ ▸ he.2 with h2 | h2
    · rw [beq_iff_eq] at h2
      rw [← h2]; exact h1
    · cases ho2 : ops[o.after[j].on]? with
      | none =>
        cases n with
        | zero => simp [waitsT] at h2
        | succ n => rw [waitsT, ho2] at h2; cases h2
      | some o2 => exact waitsT_spec hc n _ o2 ho2 (hc _ o2 ho2 h1) h2
/-- All from number z on wait for i. -/
def lateB (md : Region.Mode) (ops : Array Oper) (z i : Nat) : Bool := (List.range ops.size).all fun j => decide (j < z) || waitsT md ops 5 j i

theorem wpLate_first {i : Nat} {oi : Oper} {v : Value} (hi : ops[i]? = some oi) (hsel : ∀ (j : Nat) (o : Oper) cs b, ops[j]? = some o → o.op ≠ .select cs b) (hwt : lateB md ops z i = true)
    (hQ : ∀ c a w, Q (.panic c) (a.put oi.dst v) w → Q (.panic c) a w) :
    ∀ (n : Nat) (listed : Array Bool) (a : Act) (w : World), ShutL md ops listed →
      (∀ j oj, ops[j]? = some oj → j ≠ i → listed.getD j true = false → (∀ e ∈ oj.after, Region.binds md e = true → e.on ≠ i) → oi.apart ops oj = true) →
      i ∈ Region.ready md ops listed → YieldsIf P ops S oi v a → S w →
      wpLate P md ops Q S z n (listed.setIfInBounds i true) (a.put oi.dst v) w → wpLate P md ops Q S z (n + 1) listed a w := by
  intro n
  induction n with
  | zero =>
    intro listed a w _ _ hr hy hS H
    refine ⟨fun h => (by rw [h] at hr; cases hr), fun j hj => ?_⟩
    by_cases e : j = i
    · subst e; exact hy.wpOp hi hS ⟨fun _ => hS, H⟩
    · have := ready_mono hj e
      rw [H.1] at this
      cases this
  | succ n ih =>
    intro listed a w hcl hfree hr hy hS H
    refine ⟨fun h => (by rw [h] at hr; cases hr), fun j hj => ?_⟩
    by_cases e : j = i
    · subst e; exact hy.wpOp hi hS ⟨fun _ => hS, H⟩
    · have hun : listed.getD i true = false := (mem_ready.1 hr).1
      obtain ⟨hjun, oj, hoj, hall⟩ := mem_ready.1 hj
      have hjz : j < z := by
        rcases Nat.lt_or_ge j z with k | k
        · exact k
        · exfalso
          have hlt : j < ops.size := by
            rcases Nat.lt_or_ge j ops.size with k | k
            · exact k
            · rw [Array.getElem?_eq_none k] at hoj; cases hoj
          unfold lateB at hwt
          rw [List.all_eq_true] at hwt
          have h1 := hwt j (List.mem_range.2 hlt)
          rw [decide_eq_false (by omega), Bool.false_or] at h1
          exact getD_both (waitsT_spec hcl _ j oj hoj hall h1) hun
      have hnot : ∀ e ∈ oj.after, Region.binds md e = true → e.on ≠ i := fun e he hb heq => by
        have h1 := hall e he hb
        rw [heq] at h1
        exact getD_both h1 hun
      have h2 := wpOp_putIf hoj (hfree j oj hoj e hjun hnot) (fun cs b => hsel i oi cs b hi) (fun cs b => hsel j oj cs b hoj) hQ hy (H.2 j (ready_mono hj e))
      refine wpOp_mono (fun a' w' h3 => ⟨fun _ => h3.2.1 hjz, ih (listed.setIfInBounds j true) a' w' (hcl.set hj) (fun q oq hq hqi hqu hno => ?_) (ready_mono hr (Ne.symm e)) h3.1 (h3.2.1 hjz) ?_⟩) h2
      · refine hfree q oq hq hqi ?_ hno
        by_cases hjq : j = q
        · subst hjq; exact hjun
        · rw [getD_set_ne true hjq] at hqu; exact hqu
      · rw [Array.setIfInBounds_comm _ _ e]
        exact h3.2.2

theorem wpLate_takeL {i : Nat} {oi : Oper} {v : Value} {n : Nat} {listed : Array Bool} {a : Act} {w : World} (hi : opL ops.toList i = some oi)
    (hs : Region.noSelect ops = true) (hf : Region.free md ops listed i = true) (hr : (Region.ready md ops listed).contains i = true) (hwt : lateB md ops z i = true) (hcl : shutB md ops listed = true)
    (hQ : ∀ c a w, Q (.panic c) (a.put oi.dst v) w → Q (.panic c) a w) (hy : YieldsIf P ops S oi v a) (hS : S w)
    (h : wpLate P md ops Q S z n (listed.setIfInBounds i true) (a.put oi.dst v) w) : wpLate P md ops Q S z (n + 1) listed a w :=
  wpLate_first (opL_spec hi) (Region.noSelect_spec hs) hwt hQ n listed a w (shutB_spec hcl) (Region.free_spec (opL_spec hi) hf) (by simpa using hr) hy hS h
theorem wpLate_oneL {i : Nat} {o : Oper} {n : Nat} {listed : Array Bool} {a : Act} {w : World} (hr : Region.ready md ops listed = [i]) (ho : opL ops.toList i = some o)
    (h : ∀ K' : Act → World → Prop, Shut (∀ a w, (i < z → S w) → wpLate P md ops Q S z n (listed.setIfInBounds i true) a w → K' a w) → if Region.wanted o (yielded ops a.tmps) = true then Oper.wp P o a w K' Q else K' (a.put o.dst undef) w) :
    wpLate P md ops Q S z (n + 1) listed a w := by
  refine ⟨fun h0 => absurd (hr ▸ h0) (by simp), fun j hj => ?_⟩
  rw [hr, List.mem_singleton] at hj
  subst hj
  exact wpOp_step (opL_spec ho) (fun K' hK => h K' (fun a w h1 h2 => hK a w ⟨h1, h2⟩))
theorem wpLate_done {listed : Array Bool} {a : Act} {w : World} (hr : Region.ready md ops listed = []) (h : Q .normal a w) : ∀ n, wpLate P md ops Q S z n listed a w
  | 0 => ⟨hr, h⟩
  | _ + 1 => ⟨fun _ => h, fun i hi => by rw [hr] at hi; cases hi⟩
theorem wp_region_late {id : Nat} {a : Act} {w : World} (hm : P.follows .mixedOrders = true) (z : Nat) (S : World → Prop) (hS : S w.drew)
    (h : S w.drew → wpLate P .any ops Q S z ops.size (Array.replicate ops.size false) a w.drew) : (Code.region id ops true).wp P Q a w :=
  wp_region_any hm (wpAny_of_late _ _ _ _ (h hS))
end
end Go.Proofs.Ytfbmmiikhkmpfac
/-
  Package bridge: copyOf, copyOfMem: what they answer lies in memory of its own; nothing that was there turns.
-/
namespace Go.Proofs.Ytfbmmiikhkmpfac
open Go.RowKit

/-- make of some lines. -/
theorem makeLines (w : World) (n : Nat) (hn : n ≤ 6) : ∃ cur : Array Value, (Instr.makeSlice 36 (.int .i64 n) (.int .i64 n)).run Try.prog w = .ok (.slice (some ⟨w.heap.size, 0, none⟩) n n) (w.alloc (.cells cur 56)) ∧ cur.size = n * 5 := by
  obtain ⟨i, hi, hz, hs, hb⟩ := infoLine
  have h := run_make (P := Try.prog) w 36 56 i _ Try.underlying36 hi hz .i64 .i64 n n (by omega) (by omega) (by rw [hb]; omega) (by omega)
  rw [hs] at h
  simp only [Int.toNat_natCast] at h
  exact ⟨_, h, size_madeCells _ _⟩

/-- copy of lines fills a row of its own. -/
theorem copyLines (w : World) (ty : TypeId) (v : Value) (g : Nat) (l : List Ln) (cur : Array Value) (hg : w.heap[g]? = some (.cells cur 56 (0, 0))) (hcur : cur.size = l.length * 5) (hl : Ls w v l) :
    ∃ w3, (Builtin.copy_ #[36, 36] ty #[.slice (some ⟨g, 0, none⟩) l.length l.length, v]).run Try.prog w = .ok (.int .i64 l.length) w3 ∧ w3.heap[g]? = some (.cells (l.flatMap cellsL).toArray 56 (0, 0)) ∧
      (∀ k, k ≠ g → w3.heap[k]? = w.heap[k]?) ∧ w3.heap.size = w.heap.size ∧ Below g w w3 := by
  obtain ⟨i, hi, hz, hs, hb⟩ := infoLine
  obtain ⟨a, cap, rfl, hlc, hm, h⟩ := hl
  have hl5 := flat_len l
  have hst := run_storeCells_at Try.prog g 0 56 (l.flatMap cellsL) 0 cur w hg (by rw [hl5, hcur]; omega) (flat_one l)
  have hd : List.drop (0 + 0 + (l.flatMap cellsL).length) cur.toList = [] := List.drop_of_length_le (by simp only [Array.length_toList, hcur, hl5]; omega)
  rw [hd, Nat.add_zero, List.take_zero, List.nil_append, List.append_nil] at hst
  refine ⟨_, ?_, setRow_heap w g cur _ _ _ hg, fun k hk => setRow_other w g k _ hk, by simp [World.setRow], ⟨rfl, rfl, rfl, by simp [World.setRow], fun k hk => setRow_other w g k _ (by omega)⟩⟩
  rcases h with rfl | ⟨b, o, rfl, hlt, hc⟩
  · have hst' : (storeCells ⟨g, 0, none⟩ [] 0).run Try.prog w = .ok () (w.setRow g ([] : List Value).toArray) := hst
    cases a <;>
      simp [Builtin.copy_, run_underlying Try.underlying36, Builtin.lenOf, Builtin.firstCells, sizeOf, typeInfo, hi, loadCells, loadCellsFrom, hst', goInt]
  · have hld := run_loadCells_list (P := Try.prog) w ⟨b, o, none⟩ (l.flatMap cellsL) (fun j u hu => by
      obtain ⟨i', r, h1, h2, rfl, h4⟩ := flat_of hu
      rw [add_off, ← Nat.add_assoc]
      exact atL_cell (hc i' h1) h2 h4)
    rw [hl5] at hld
    simp [Builtin.copy_, run_underlying Try.underlying36, Builtin.lenOf, Builtin.firstCells, sizeOf, typeInfo, hi, hs, hld, hst, goInt]

/-- A block of lines. -/
theorem ls_block {w : World} {g : Nat} {l : List Ln} (hg : w.heap[g]? = some (.cells (l.flatMap cellsL).toArray 56 (0, 0))) (hn : l.length ≤ 6) : Ls w (.slice (some ⟨g, 0, none⟩) l.length l.length) l := by
  refine ⟨_, l.length, rfl, Nat.le_refl _, by unfold maxLen; omega, .inr ⟨g, 0, rfl, (Box.lt hg), fun i hi => ?_⟩⟩
  have hc : ∀ r, r < 5 → w.cell? ⟨g, 0 + i * 5 + r, none⟩ = (cellsL (lth l i))[r]? := fun r hr => by
    rw [Nat.zero_add, cell_of_row w g _ _ _ _ hg, List.getElem?_toArray, flat_at l i r hi hr]
  exact ⟨hc 0 (by omega), hc 1 (by omega), hc 2 (by omega), hc 3 (by omega), hc 4 (by omega)⟩

end Go.Proofs.Ytfbmmiikhkmpfac
