/-
  The walk of drawbridgelaw.WordSays: it answers true, whatever order, fault and word it is given; nothing that was there turns.
-/
import Derived.Test.YtfcakngfahdhnabWorded
namespace Go.Proofs.Ytfcakngfahdhnab
open Go.RowKit

set_option maxHeartbeats 4000000 in
theorem wordSays_walk (k d p : Int) (c fd fp : Int) (x : Bool) (z : Int) (w : World) :
    Calls Try.prog 3 #[.agg #[.int .i64 k, .int .i64 d, .int .i64 p], .agg #[.int .i64 c, .int .i64 fd, .int .i64 fp, .bool x], .int .i64 z] w fun e w' => e = .returned (.bool true) ∧ Below w.heap.size w w' := by
  obtain ⟨e1, hE1⟩ : ∃ e1, oE k d p = e1 := ⟨_, rfl⟩
  obtain ⟨x1, hX1⟩ : ∃ x1, oW k d p = x1 := ⟨_, rfl⟩
  obtain ⟨e2, hE2⟩ : ∃ e2, roE z = e2 := ⟨_, rfl⟩
  obtain ⟨k2, d2, p2, hX2⟩ : ∃ k2 d2 p2, roO z = (k2, d2, p2) := ⟨_, _, _, rfl⟩
  obtain ⟨e3, hE3⟩ : ∃ e3, fE c fd fp = e3 := ⟨_, rfl⟩
  obtain ⟨x3, hX3⟩ : ∃ x3, fW c fd fp x = x3 := ⟨_, rfl⟩
  obtain ⟨e4, hE4⟩ : ∃ e4, rfE z = e4 := ⟨_, rfl⟩
  obtain ⟨c4, d4, p4, y4, hX4⟩ : ∃ c4 d4 p4 y4, rfF z = (c4, d4, p4, y4) := ⟨_, _, _, _, rfl⟩
  have HE1 : Hid _ := hE1
  have HX1 : Hid _ := hX1
  have HE2 : Hid _ := hE2
  have HX2 : Hid _ := hX2
  have HE3 : Hid _ := hE3
  have HX3 : Hid _ := hX3
  have HE4 : Hid _ := hE4
  have HX4 : Hid _ := hX4
  clear hE1 hX1 hE2 hX2 hE3 hX3 hE4 hX4
  go_enter Try.func3, Try.ntmps3
  go_wp2_with fail
  refine (putOrder_at HE1.out HX1.out).mono ?_
  rintro e w1 ⟨rfl, b1⟩
  have X0 := (Box.newAt (n := w.heap.size) (by simp) 23 #[.int .i64 k, .int .i64 d, .int .i64 p]).past (.cells #[.int .i64 c, .int .i64 fd, .int .i64 fp, .bool x] 25) |>.keep b1
  have X1 := (Box.newAt (w := w.alloc (.cells #[.int .i64 k, .int .i64 d, .int .i64 p] 23)) (n := w.heap.size + 1) (by simp) 25 #[.int .i64 c, .int .i64 fd, .int .i64 fp, .bool x]) |>.keep b1
  have B1 : Hid (Below w.heap.size w w1) := bel_trans (bel_alloc (bel_alloc (Below.refl _ _) _) _) b1
  clear b1
  go_wp2_with fail
  refine (readOrder_at HE2.out HX2.out).mono ?_
  rintro e w2 ⟨rfl, b2⟩
  have X0 := X0.keep b2
  have X1 := X1.keep b2
  have B2 : Hid (Below w.heap.size w w2) := bel_trans B1.out b2
  clear b2 B1
  obtain ⟨q0, q1, q2, q3, -, -, -, -, l1⟩ := X1.four
  go_wp2_with fail
  refine (putFault_at HE3.out HX3.out).mono ?_
  rintro e w3 ⟨rfl, b3⟩
  have X0 := (X0.past _).keep b3
  have X1 := (X1.past _).keep b3
  have X2 := (Box.newAt (w := w2) (n := w2.heap.size) rfl 23 #[.int .i64 k2, .int .i64 d2, .int .i64 p2]).keep b3
  have B3 : Hid (Below w.heap.size w w3) := bel_trans (bel_alloc B2.out _) b3
  clear b3 B2 q0 q1 q2 q3 l1
  go_wp2_with fail
  refine (readFault_at HE4.out HX4.out).mono ?_
  rintro e w4 ⟨rfl, b4⟩
  have X0 := X0.keep b4
  have X1 := X1.keep b4
  have X2 := X2.keep b4
  have B4 : Hid (Below w.heap.size w w4) := bel_trans B3.out b4
  clear b4 B3
  obtain ⟨q0, q1, q2, -, -, -, l0⟩ := X0.three
  go_wp2_with fail
  refine (orderWord_at HE1.out HX1.out).mono ?_
  rintro e w5 ⟨rfl, b5⟩
  have X1 := (X1.past _).keep b5
  have X2 := (X2.past _).keep b5
  have X3 := (Box.newAt (w := w4) (n := w4.heap.size) rfl 25 #[.int .i64 c4, .int .i64 d4, .int .i64 p4, .bool y4]).keep b5
  have B5 : Hid (Below w.heap.size w w5) := bel_trans (bel_alloc B4.out _) b5
  clear b5 B4 X0 q0 q1 q2 l0
  go_wp2_with fail
  refine (orderOf_at HE2.out HX2.out).mono ?_
  rintro e w6 ⟨rfl, b6⟩
  have X1 := X1.keep b6
  have X2 := X2.keep b6
  have X3 := X3.keep b6
  have B6 : Hid (Below w.heap.size w w6) := bel_trans B5.out b6
  clear b6 B5
  obtain ⟨q0, q1, q2, q3, -, -, -, -, l1⟩ := X1.four
  go_wp2_with fail
  refine (faultWord_at HE3.out HX3.out).mono ?_
  rintro e w7 ⟨rfl, b7⟩
  have X2 := (X2.past _).keep b7
  have X3 := (X3.past _).keep b7
  have X4 := (Box.newAt (w := w6) (n := w6.heap.size) rfl 23 #[.int .i64 k2, .int .i64 d2, .int .i64 p2]).keep b7
  have B7 : Hid (Below w.heap.size w w7) := bel_trans (bel_alloc B6.out _) b7
  clear b7 B6 X1 q0 q1 q2 q3 l1
  go_wp2_with fail
  refine (faultOf_at HE4.out HX4.out).mono ?_
  rintro e w8 ⟨rfl, b8⟩
  have X2 := X2.keep b8
  have X3 := X3.keep b8
  have X4 := X4.keep b8
  have B8 : Hid (Below w.heap.size w w8) := bel_trans B7.out b8
  clear b8 B7
  go_wp2_with fail
  refine (worded_true _).mono ?_
  rintro e w9 ⟨rfl, b9⟩
  have X2 := (X2.past _).keep b9
  have X3 := (X3.past _).keep b9
  have X4 := (X4.past _).keep b9
  have X5 := (Box.newAt (w := w8) (n := w8.heap.size) rfl 25 #[.int .i64 c4, .int .i64 d4, .int .i64 p4, .bool y4]).keep b9
  have B9 : Hid (Below w.heap.size w w9) := bel_trans (bel_alloc B8.out _) b9
  clear b9 B8
  obtain ⟨i2, j2, m2, -, -, -, l2⟩ := X2.three
  obtain ⟨i3, j3, m3, n3, -, -, -, -, l3⟩ := X3.four
  obtain ⟨i4, j4, m4, -, -, -, l4⟩ := X4.three
  obtain ⟨i5, j5, m5, n5, -, -, -, -, l5⟩ := X5.four
  go_wp2
  go_ret
  exact ⟨rfl, B9.out⟩
end Go.Proofs.Ytfcakngfahdhnab
