/-
  The walk of drawbridgelaw.EntryBack: it answers true, whatever entry, context and word it is given; nothing that was there turns.
-/
import Derived.Test.YtegjnfggebhjfaaParted
namespace Go.Proofs.Ytegjnfggebhjfaa
open Go.RowKit

theorem sayE_cases (z : Int) : (vE z = true ∧ okE z = true) ∨ (vE z = false ∧ okE z = false) ∨ (vE z = false ∧ okE z = true) := by
  cases ho : okE z
  · exact .inr (.inl ⟨by simp [vE, ho], rfl⟩)
  · cases hv : vE z
    · exact .inr (.inr ⟨rfl, rfl⟩)
    · exact .inl ⟨rfl, rfl⟩
theorem sayC_cases (z : Int) : (vC z = true ∧ okC z = true) ∨ (vC z = false ∧ okC z = false) ∨ (vC z = false ∧ okC z = true) := by
  cases ho : okC z
  · exact .inr (.inl ⟨by simp [vC, ho], rfl⟩)
  · cases hv : vC z
    · exact .inr (.inr ⟨rfl, rfl⟩)
    · exact .inl ⟨rfl, rfl⟩

set_option maxHeartbeats 8000000 in
theorem back_walk (v r x l : Bool) (p : Int) (cv ca : Bool) (cp : Int) (z : Int) (w : World) :
    Calls Try.prog 7 #[.agg #[.bool v, .bool r, .bool x, .bool l, .int .i64 p], .agg #[.bool cv, .bool ca, .int .i64 cp], .int .i64 z] w fun e w' => e = .returned (.bool true) ∧ Below w.heap.size w w' := by
  go_enter Try.func7, Try.ntmps7
  go_wp2_with fail
  refine (ePut_any _ _ _ _ _ _).mono ?_
  rintro e w1 ⟨rfl, b1⟩
  have k1 := ((Blk.new w _ _ _).past _).keep b1
  have j1 := (Blk.newAt (n := w.heap.size + 1) (by simp) _ _ _).keep b1
  have B1 : Hid (Below w.heap.size w w1) := bel_trans (bel_alloc (bel_alloc (Below.refl _ _) _) _) b1
  have l1 := k1.lt
  obtain ⟨c1, c2, c3, c4, c5⟩ := k1.five
  clear b1
  by_cases hp : putE v r x l p = 0
  rotate_left
  focus
    have hq : (putE v r x l p == 0) = false := by simpa using hp
    have i1 := j1.lt
    obtain ⟨d1, d2, d3⟩ := j1.three
    go_wp2_with fail
    refine (ePutContext_any _ _ _ _).mono ?_
    rintro e w3 ⟨rfl, b3⟩
    have k3 := k1.keep b3
    have j3 := j1.keep b3
    have B3 : Hid (Below w.heap.size w w3) := bel_trans B1.out b3
    clear b3 k1 j1 B1 l1 c1 c2 c3 c4 c5 d1 d2 d3 i1 hp hq
  rotate_left
  focus
    have hq : (putE v r x l p == 0) = true := by simpa using hp
    obtain ⟨g1, g2, g3, g4, g5, g6⟩ := put_back hp
    go_wp2_with fail
    refine (eRead_any _ _).mono ?_
    rintro e w2 ⟨rfl, b2⟩
    rw [g1, g2, g3, g4, g5, g6]
    have k2 := k1.keep b2
    have j2 := j1.keep b2
    have B2 : Hid (Below w.heap.size w w2) := bel_trans B1.out b2
    clear b2 k1 j1 B1 l1 c1 c2 c3 c4 c5 g1 g2 g3 g4 g5 g6 hp hq
    have l2 := k2.lt
    have i2 := j2.lt
    obtain ⟨c1, c2, c3, c4, c5⟩ := k2.five
    obtain ⟨d1, d2, d3⟩ := j2.three
    go_wp2_with fail
    refine (ePutContext_any _ _ _ _).mono ?_
    rintro e w3 ⟨rfl, b3⟩
    have k3 := (k2.past _).keep b3
    have j3 := (j2.past _).keep b3
    have B3 : Hid (Below w.heap.size w w3) := bel_trans (bel_alloc B2.out _) b3
    clear b3 k2 j2 B2 l2 i2 c1 c2 c3 c4 c5 d1 d2 d3
  all_goals
    by_cases hp : ptcE cv ca cp = 0
    rotate_left
    focus
      have hq : (ptcE cv ca cp == 0) = false := by simpa using hp
      go_wp2_with fail
      refine (eRead_any _ _).mono ?_
      rintro e w5 ⟨rfl, b5⟩
      have B5 : Hid (Below w.heap.size w w5) := bel_trans B3.out b5
      clear b5 k3 j3 B3 hp hq
    rotate_left
    focus
      have hq : (ptcE cv ca cp == 0) = true := by simpa using hp
      obtain ⟨g1, g2, g3, g4⟩ := ptc_back hp
      go_wp2_with fail
      refine (eReadContext_any _ _).mono ?_
      rintro e w4 ⟨rfl, b4⟩
      rw [g1, g2, g3, g4]
      have j4 := j3.keep b4
      have B4 : Hid (Below w.heap.size w w4) := bel_trans B3.out b4
      clear b4 k3 j3 B3 g1 g2 g3 g4 hp hq
      have i4 := j4.lt
      obtain ⟨d1, d2, d3⟩ := j4.three
      go_wp2_with fail
      refine (eRead_any _ _).mono ?_
      rintro e w5 ⟨rfl, b5⟩
      have B5 : Hid (Below w.heap.size w w5) := bel_trans (bel_alloc B4.out _) b5
      clear b5 B4 i4 d1 d2 d3 j4
  all_goals
    rcases sayE_cases z with ⟨hv, ho⟩ | ⟨hv, ho⟩ | ⟨hv, ho⟩
    rotate_left
    focus
      rw [hv, ho]
      go_wp2_with fail
      refine (eReadContext_any _ _).mono ?_
      rintro e w7 ⟨rfl, b7⟩
      have B7 : Hid (Below w.heap.size w w7) := bel_trans (bel_alloc B5.out _) b7
      clear b7 B5 hv ho
    rotate_left
    focus
      rw [hv, ho]
      go_wp2_with fail
      refine (eReadContext_any _ _).mono ?_
      rintro e w7 ⟨rfl, b7⟩
      have B7 : Hid (Below w.heap.size w w7) := bel_trans (bel_alloc B5.out _) b7
      clear b7 B5 hv ho
    rotate_left
    focus
      obtain ⟨g1, g2, _, _⟩ := read_back hv
      rw [ho]
      have hv' := hv
      rw [hv] at g1 g2 ⊢
      clear hv'
      go_wp2_with fail
      refine (ePut_any _ _ _ _ _ _).mono ?_
      rintro e w6 ⟨rfl, b6⟩
      rw [g1, g2]
      have B6 : Hid (Below w.heap.size w w6) := bel_trans (bel_alloc B5.out _) b6
      clear b6 B5 hv ho g1 g2
      go_wp2_with fail
      refine (eReadContext_any _ _).mono ?_
      rintro e w7 ⟨rfl, b7⟩
      have B7 : Hid (Below w.heap.size w w7) := bel_trans B6.out b7
      clear b7 B6
  all_goals
    rcases sayC_cases z with ⟨hv, ho⟩ | ⟨hv, ho⟩ | ⟨hv, ho⟩
    rotate_left
    focus
      rw [hv, ho]
      go_wp2_with fail
      refine (parted_true _).mono ?_
      rintro e w9 ⟨rfl, b9⟩
      go_wp2
      go_ret
      exact ⟨rfl, bel_trans (bel_alloc B7.out _) b9⟩
    focus
      rw [hv, ho]
      go_wp2_with fail
      refine (parted_true _).mono ?_
      rintro e w9 ⟨rfl, b9⟩
      go_wp2
      go_ret
      exact ⟨rfl, bel_trans (bel_alloc B7.out _) b9⟩
    focus
      obtain ⟨g1, g2⟩ := readctx_back hv
      rw [ho]
      rw [hv] at g1 g2 ⊢
      go_wp2_with fail
      refine (ePutContext_any _ _ _ _).mono ?_
      rintro e w8 ⟨rfl, b8⟩
      rw [g1, g2]
      have B8 : Hid (Below w.heap.size w w8) := bel_trans (bel_alloc B7.out _) b8
      clear b8 B7 hv ho g1 g2
      go_wp2_with fail
      refine (parted_true _).mono ?_
      rintro e w9 ⟨rfl, b9⟩
      go_wp2
      go_ret
      exact ⟨rfl, bel_trans B8.out b9⟩
end Go.Proofs.Ytegjnfggebhjfaa
