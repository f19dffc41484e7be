/-
  The closed fact parted holds; blocks of cells that a walk carries over its calls.
-/
import Derived.Test.YtnpgldcambbnhaaEntryMath
namespace Go.Proofs.Ytnpgldcambbnhaa
open Go.RowKit

/-- This block holds these cells. -/
def Blk (w : World) (n : Nat) (cs : Array Value) : Prop := ∃ t fr, w.heap[n]? = some (.cells cs t fr)

theorem Blk.lt {w : World} {n : Nat} {cs : Array Value} (h : Blk w n cs) : n < w.heap.size := by
  obtain ⟨t, fr, h⟩ := h
  rcases Nat.lt_or_ge n w.heap.size with k | k
  · exact k
  · rw [Array.getElem?_eq_none k] at h; exact absurd h (by simp)
theorem Blk.keep {w w' : World} {n : Nat} {cs : Array Value} (h : Blk w n cs) (hb : Below w.heap.size w w') : Blk w' n cs := by
  have hl := h.lt
  obtain ⟨t, fr, h⟩ := h
  exact ⟨t, fr, by rw [hb.block n hl]; exact h⟩
theorem Blk.new (w : World) (cs : Array Value) (t : TypeId) (fr : Nat × Nat) : Blk (w.alloc (.cells cs t fr)) w.heap.size cs := ⟨t, fr, heap_at rfl⟩
theorem Blk.newAt {w : World} {n : Nat} (h : n = w.heap.size) (cs : Array Value) (t : TypeId) (fr : Nat × Nat) : Blk (w.alloc (.cells cs t fr)) n cs := ⟨t, fr, heap_at h⟩
theorem Blk.past {w : World} {n : Nat} {cs : Array Value} (h : Blk w n cs) (o : Obj) : Blk (w.alloc o) n cs := h.keep (bel_alloc (Below.refl _ _) _)
theorem Blk.cell {w : World} {n : Nat} {cs : Array Value} (h : Blk w n cs) (i : Nat) : w.cell? ⟨n, i, none⟩ = cs[i]? := by
  obtain ⟨t, fr, h⟩ := h
  exact cell_of_row w n i cs t fr h
theorem Blk.three {w : World} {n : Nat} {a b c : Value} (h : Blk w n #[a, b, c]) : w.cell? ⟨n, 0, none⟩ = some a ∧ w.cell? ⟨n, 1, none⟩ = some b ∧ w.cell? ⟨n, 2, none⟩ = some c :=
  ⟨h.cell 0, h.cell 1, h.cell 2⟩
theorem Blk.five {w : World} {n : Nat} {a b c d e : Value} (h : Blk w n #[a, b, c, d, e]) :
    w.cell? ⟨n, 0, none⟩ = some a ∧ w.cell? ⟨n, 1, none⟩ = some b ∧ w.cell? ⟨n, 2, none⟩ = some c ∧ w.cell? ⟨n, 3, none⟩ = some d ∧ w.cell? ⟨n, 4, none⟩ = some e :=
  ⟨h.cell 0, h.cell 1, h.cell 2, h.cell 3, h.cell 4⟩

theorem at95 : vE 95 = true ∧ rE 95 = true ∧ xE 95 = true ∧ lE 95 = true ∧ pE 95 = 5 ∧ okE 95 = true := by decide
theorem at113 : vC 113 = true ∧ aC 113 = false ∧ pC 113 = 7 ∧ okC 113 = true := by decide
theorem at5 : okE 5 = false := by decide
theorem put95 : putW true true true true 5 = 95 ∧ putE true true true true 5 = 0 := by decide
theorem put113 : ptcW true false 7 = 113 ∧ ptcE true false 7 = 0 := by decide

set_option maxHeartbeats 2000000 in
theorem parted_true (w : World) : Calls Try.prog 29 #[] w fun e w' => e = .returned (.bool true) ∧ Below w.heap.size w w' := by
  go_enter Try.func29, Try.ntmps29
  go_wp2_with fail
  refine (eRead_any _ _).mono ?_
  rintro e w1 ⟨rfl, b1⟩
  obtain ⟨e1, e2, e3, e4, e5, e6⟩ := at95
  rw [e1, e2, e3, e4, e5, e6]
  clear e1 e2 e3 e4 e5 e6
  go_wp2_with fail
  refine (ePut_any _ _ _ _ _ _).mono ?_
  rintro e w2 ⟨rfl, b2⟩
  rw [put95.1, put95.2]
  have k2 := (Blk.new _ _ _ _).keep b2
  have B2 : Hid (Below w.heap.size w w2) := bel_trans (bel_alloc b1 _) b2
  clear b1 b2
  go_wp2_with fail
  refine (eReadContext_any _ _).mono ?_
  rintro e w3 ⟨rfl, b3⟩
  obtain ⟨e1, e2, e3, e4⟩ := at113
  rw [e1, e2, e3, e4]
  clear e1 e2 e3 e4
  have k3 := k2.keep b3
  have B3 : Hid (Below w.heap.size w w3) := bel_trans B2.out b3
  clear b3 B2 k2
  go_wp2_with fail
  refine (ePutContext_any _ _ _ _).mono ?_
  rintro e w4 ⟨rfl, b4⟩
  rw [put113.1, put113.2]
  have k4 := (k3.past _).keep b4
  have j4 := (Blk.new _ _ _ _).keep b4
  have B4 : Hid (Below w.heap.size w w4) := bel_trans (bel_alloc B3.out _) b4
  clear b4 B3 k3
  go_wp2_with fail
  refine (eRead_any _ _).mono ?_
  rintro e w5 ⟨rfl, b5⟩
  rw [at5]
  have k5 := k4.keep b5
  have j5 := j4.keep b5
  have B5 : Hid (Below w.heap.size w w5) := bel_trans B4.out b5
  have l1 := k5.lt
  have l2 := j5.lt
  obtain ⟨c1, c2, c3, c4, c5⟩ := k5.five
  obtain ⟨d1, d2, d3⟩ := j5.three
  clear b5 B4 k4 j4 k5 j5
  go_wp2
  go_ret
  exact ⟨rfl, bel_alloc B5.out _⟩
end Go.Proofs.Ytnpgldcambbnhaa
