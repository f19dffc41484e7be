/-
  The closed fact drawbridgelaw.worded; the reads where their answer is known.
-/
import Derived.Test.YtfcakngfahdhnabWord4
namespace Go.Proofs.Ytfcakngfahdhnab
open Go.RowKit

theorem readOrder_at {z k d p e1 : Int} {w : World} (hE : roE z = e1) (hO : roO z = (k, d, p)) :
    Calls Try.prog 6 #[.int .i64 z] w fun e w' => e = .returned (.tuple #[.agg #[.int .i64 k, .int .i64 d, .int .i64 p], .int .i64 e1]) ∧ Below w.heap.size w w' := by
  refine (readOrder_any z w).mono ?_
  rintro e w' ⟨⟨k', d', p', rfl, h⟩, hb⟩
  rw [hO] at h
  simp only [Prod.mk.injEq] at h
  obtain ⟨rfl, rfl, rfl⟩ := h
  rw [hE]
  exact ⟨rfl, hb⟩
theorem orderOf_at {z k d p e1 : Int} {w : World} (hE : roE z = e1) (hO : roO z = (k, d, p)) :
    Calls Try.prog 10 #[.int .i64 z] w fun e w' => e = .returned (.tuple #[.agg #[.int .i64 k, .int .i64 d, .int .i64 p], .int .i64 e1]) ∧ Below w.heap.size w w' := by
  refine (orderOf_any z w).mono ?_
  rintro e w' ⟨⟨k', d', p', rfl, h⟩, hb⟩
  rw [hO] at h
  simp only [Prod.mk.injEq] at h
  obtain ⟨rfl, rfl, rfl⟩ := h
  rw [hE]
  exact ⟨rfl, hb⟩
theorem readFault_at {z c d p e1 : Int} {x : Bool} {w : World} (hE : rfE z = e1) (hO : rfF z = (c, d, p, x)) :
    Calls Try.prog 8 #[.int .i64 z] w fun e w' => e = .returned (.tuple #[.agg #[.int .i64 c, .int .i64 d, .int .i64 p, .bool x], .int .i64 e1]) ∧ Below w.heap.size w w' := by
  refine (readFault_any z w).mono ?_
  rintro e w' ⟨⟨c', d', p', x', rfl, h⟩, hb⟩
  rw [hO] at h
  simp only [Prod.mk.injEq] at h
  obtain ⟨rfl, rfl, rfl, rfl⟩ := h
  rw [hE]
  exact ⟨rfl, hb⟩
theorem faultOf_at {z c d p e1 : Int} {x : Bool} {w : World} (hE : rfE z = e1) (hO : rfF z = (c, d, p, x)) :
    Calls Try.prog 12 #[.int .i64 z] w fun e w' => e = .returned (.tuple #[.agg #[.int .i64 c, .int .i64 d, .int .i64 p, .bool x], .int .i64 e1]) ∧ Below w.heap.size w w' := by
  refine (faultOf_any z w).mono ?_
  rintro e w' ⟨⟨c', d', p', x', rfl, h⟩, hb⟩
  rw [hO] at h
  simp only [Prod.mk.injEq] at h
  obtain ⟨rfl, rfl, rfl, rfl⟩ := h
  rw [hE]
  exact ⟨rfl, hb⟩
theorem putOrder_at {k d p e1 z : Int} {w : World} (hE : oE k d p = e1) (hW : oW k d p = z) :
    Calls Try.prog 5 #[.agg #[.int .i64 k, .int .i64 d, .int .i64 p]] w fun e w' => e = .returned (.tuple #[.int .i64 z, .int .i64 e1]) ∧ Below w.heap.size w w' := by
  refine (putOrder_any k d p w).mono ?_
  rintro e w' ⟨rfl, hb⟩
  rw [hE, hW]
  exact ⟨rfl, hb⟩
theorem orderWord_at {k d p e1 z : Int} {w : World} (hE : oE k d p = e1) (hW : oW k d p = z) :
    Calls Try.prog 9 #[.agg #[.int .i64 k, .int .i64 d, .int .i64 p]] w fun e w' => e = .returned (.tuple #[.int .i64 z, .int .i64 e1]) ∧ Below w.heap.size w w' := by
  refine (orderWord_any k d p w).mono ?_
  rintro e w' ⟨rfl, hb⟩
  rw [hE, hW]
  exact ⟨rfl, hb⟩
theorem putFault_at {c d p e1 z : Int} {x : Bool} {w : World} (hE : fE c d p = e1) (hW : fW c d p x = z) :
    Calls Try.prog 7 #[.agg #[.int .i64 c, .int .i64 d, .int .i64 p, .bool x]] w fun e w' => e = .returned (.tuple #[.int .i64 z, .int .i64 e1]) ∧ Below w.heap.size w w' := by
  refine (putFault_any c d p x w).mono ?_
  rintro e w' ⟨rfl, hb⟩
  rw [hE, hW]
  exact ⟨rfl, hb⟩
theorem faultWord_at {c d p e1 z : Int} {x : Bool} {w : World} (hE : fE c d p = e1) (hW : fW c d p x = z) :
    Calls Try.prog 11 #[.agg #[.int .i64 c, .int .i64 d, .int .i64 p, .bool x]] w fun e w' => e = .returned (.tuple #[.int .i64 z, .int .i64 e1]) ∧ Below w.heap.size w w' := by
  refine (faultWord_any c d p x w).mono ?_
  rintro e w' ⟨rfl, hb⟩
  rw [hE, hW]
  exact ⟨rfl, hb⟩

set_option maxHeartbeats 2000000 in
theorem worded_true (w : World) : Calls Try.prog 13 #[] w fun e w' => e = .returned (.bool true) ∧ Below w.heap.size w w' := by
  go_enter Try.func13, Try.ntmps13
  go_wp2_with fail
  refine (putOrder_at (k := 3) (d := 2) (p := 5) (e1 := 0) (z := 171) (by decide) (by decide)).mono ?_
  rintro e w1 ⟨rfl, b1⟩
  have B1 : Hid (Below w.heap.size w w1) := b1
  clear b1
  go_wp2_with fail
  refine (readOrder_at (z := 171) (k := 3) (d := 2) (p := 5) (e1 := 0) (by decide) (by decide)).mono ?_
  rintro e w2 ⟨rfl, b2⟩
  have B2 : Hid (Below w.heap.size w w2) := bel_trans B1.out b2
  clear b2 B1
  go_wp2_with fail
  refine (putFault_at (c := 3) (d := 1) (p := 2) (x := true) (e1 := 0) (z := 4235) (by decide) (by decide)).mono ?_
  rintro e w3 ⟨rfl, b3⟩
  have X1 := (Box.newAt (w := w2) (n := w2.heap.size) rfl 23 #[.int .i64 3, .int .i64 2, .int .i64 5]).keep b3
  have B3 : Hid (Below w.heap.size w w3) := bel_trans (bel_alloc B2.out _) b3
  clear b3 B2
  go_wp2_with fail
  refine (readFault_at (z := 4235) (c := 3) (d := 1) (p := 2) (x := true) (e1 := 0) (by decide) (by decide)).mono ?_
  rintro e w4 ⟨rfl, b4⟩
  have X1 := X1.keep b4
  have B4 : Hid (Below w.heap.size w w4) := bel_trans B3.out b4
  clear b4 B3
  go_wp2_with fail
  refine (readOrder_at (z := 4) (k := 0) (d := 0) (p := 0) (e1 := 3) (by decide) (by decide)).mono ?_
  rintro e w5 ⟨rfl, b5⟩
  have X1 := (X1.past _).keep b5
  have X2 := (Box.newAt (w := w4) (n := w4.heap.size) rfl 25 #[.int .i64 3, .int .i64 1, .int .i64 2, .bool true]).keep b5
  have B5 : Hid (Below w.heap.size w w5) := bel_trans (bel_alloc B4.out _) b5
  clear b5 B4
  obtain ⟨-, q1, -, -, -, -, l1⟩ := X1.three
  obtain ⟨-, -, p2, p3, -, -, -, -, l2⟩ := X2.four
  go_wp2
  go_ret
  exact ⟨rfl, bel_alloc B5.out _⟩
end Go.Proofs.Ytfcakngfahdhnab
