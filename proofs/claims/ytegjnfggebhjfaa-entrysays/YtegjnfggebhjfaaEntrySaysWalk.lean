/-
  The walk of drawbridgelaw.EntrySays: it answers true, whatever word, entry and context it is given; nothing that was there turns.
-/
import Derived.Test.YtegjnfggebhjfaaWordOf
namespace Go.Proofs.Ytegjnfggebhjfaa
open Go.RowKit

set_option maxHeartbeats 8000000 in
theorem entrySays_walk (z : Int) (v r x l : Bool) (p : Int) (cv ca : Bool) (cp : Int) (w : World) :
    Calls Try.prog 6 #[.int .i64 z, .agg #[.bool v, .bool r, .bool x, .bool l, .int .i64 p], .agg #[.bool cv, .bool ca, .int .i64 cp]] w fun e w' => e = .returned (.bool true) ∧ Below w.heap.size w w' := by
  go_enter Try.func6, Try.ntmps6
  go_wp2_with fail
  refine (eRead_any _ _).mono ?_
  rintro e w1 ⟨rfl, b1⟩
  have k1 := ((Blk.new w _ _ _).past _).keep b1
  have j1 := (Blk.newAt (n := w.heap.size + 1) (by simp) _ _ _).keep b1
  have B1 : Hid (Below w.heap.size w w1) := bel_trans (bel_alloc (bel_alloc (Below.refl _ _) _) _) b1
  clear b1
  go_wp2_with fail
  refine (entryOf_any _ _).mono ?_
  rintro e w2 ⟨rfl, b2⟩
  have m2 := (Blk.new _ _ _ _).keep b2
  have k2 := (k1.past _).keep b2
  have j2 := (j1.past _).keep b2
  have B2 : Hid (Below w.heap.size w w2) := bel_trans (bel_alloc B1.out _) b2
  clear b2 k1 j1 B1
  go_wp2_with fail
  refine (eReadContext_any _ _).mono ?_
  rintro e w3 ⟨rfl, b3⟩
  have n3 := (Blk.new _ _ _ _).keep b3
  have m3 := (m2.past _).keep b3
  have k3 := (k2.past _).keep b3
  have j3 := (j2.past _).keep b3
  have B3 : Hid (Below w.heap.size w w3) := bel_trans (bel_alloc B2.out _) b3
  clear b3 k2 j2 B2 m2
  go_wp2_with fail
  refine (contextOf_any _ _).mono ?_
  rintro e w4 ⟨rfl, b4⟩
  have o4 := (Blk.new _ _ _ _).keep b4
  have n4 := (n3.past _).keep b4
  have m4 := (m3.past _).keep b4
  have k4 := (k3.past _).keep b4
  have j4 := (j3.past _).keep b4
  have B4 : Hid (Below w.heap.size w w4) := bel_trans (bel_alloc B3.out _) b4
  clear b4 k3 j3 B3 m3 n3
  have l4 := k4.lt
  obtain ⟨c1, c2, c3, c4, c5⟩ := k4.five
  go_wp2_with fail
  refine (ePut_any _ _ _ _ _ _).mono ?_
  rintro e w5 ⟨rfl, b5⟩
  have q5 := (Blk.new _ _ _ _).keep b5
  have o5 := (o4.past _).keep b5
  have n5 := (n4.past _).keep b5
  have m5 := (m4.past _).keep b5
  have k5 := (k4.past _).keep b5
  have j5 := (j4.past _).keep b5
  have B5 : Hid (Below w.heap.size w w5) := bel_trans (bel_alloc B4.out _) b5
  clear b5 k4 j4 B4 m4 n4 o4 l4 c1 c2 c3 c4 c5
  obtain ⟨c1, c2, c3, c4, c5⟩ := k5.five
  go_wp2_with fail
  refine (wordOfE_any _ _ _ _ _ _).mono ?_
  rintro e w6 ⟨rfl, b6⟩
  have q6 := q5.keep b6
  have o6 := o5.keep b6
  have n6 := n5.keep b6
  have m6 := m5.keep b6
  have j6 := j5.keep b6
  have B6 : Hid (Below w.heap.size w w6) := bel_trans B5.out b6
  clear b6 k5 j5 B5 m5 n5 o5 q5 c1 c2 c3 c4 c5
  obtain ⟨c1, c2, c3⟩ := j6.three
  go_wp2_with fail
  refine (ePutContext_any _ _ _ _).mono ?_
  rintro e w7 ⟨rfl, b7⟩
  have q7 := q6.keep b7
  have o7 := o6.keep b7
  have n7 := n6.keep b7
  have m7 := m6.keep b7
  have j7 := j6.keep b7
  have B7 : Hid (Below w.heap.size w w7) := bel_trans B6.out b7
  clear b7 j6 B6 m6 n6 o6 q6 c1 c2 c3
  obtain ⟨c1, c2, c3⟩ := j7.three
  go_wp2_with fail
  refine (wordOfC_any _ _ _ _).mono ?_
  rintro e w8 ⟨rfl, b8⟩
  have q8 := q7.keep b8
  have o8 := o7.keep b8
  have n8 := n7.keep b8
  have m8 := m7.keep b8
  have B8 : Hid (Below w.heap.size w w8) := bel_trans B7.out b8
  clear b8 j7 B7 m7 n7 o7 q7 c1 c2 c3
  go_wp2_with fail
  refine (parted_true _).mono ?_
  rintro e w9 ⟨rfl, b9⟩
  have q9 := q8.keep b9
  have o9 := o8.keep b9
  have n9 := n8.keep b9
  have m9 := m8.keep b9
  have B9 : Hid (Below w.heap.size w w9) := bel_trans B8.out b9
  clear b9 B8 m8 n8 o8 q8
  obtain ⟨c1, c2, c3, c4, c5⟩ := m9.five
  obtain ⟨d1, d2, d3, d4, d5⟩ := n9.five
  obtain ⟨e1, e2, e3⟩ := o9.three
  obtain ⟨f1, f2, f3⟩ := q9.three
  clear q9 o9 n9 m9
  go_wp2
  go_ret
  exact ⟨rfl, B9.out⟩
end Go.Proofs.Ytegjnfggebhjfaa
