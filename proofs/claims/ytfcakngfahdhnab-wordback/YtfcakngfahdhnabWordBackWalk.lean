/-
  The walk of drawbridgelaw.WordBack: it answers true, whatever orders, fault and word it is given; nothing that was there turns.
-/
import Derived.Test.YtfcakngfahdhnabWorded
import Derived.Deep.CutRange
namespace Go.Proofs.Ytfcakngfahdhnab
open Go.RowKit

/-- Two orders that can be put: their words are alike just if they are. -/
theorem like_cases {k d p k' d' p' : Int} (h : oE k d p = 0) (h' : oE k' d' p' = 0) :
    (oW k d p = oW k' d' p' ∧ k = k' ∧ d = d' ∧ p = p') ∨ (¬ oW k d p = oW k' d' p' ∧ (¬ k = k' ∨ (k = k' ∧ ¬ d = d') ∨ (k = k' ∧ d = d' ∧ ¬ p = p'))) := by
  by_cases e : oW k d p = oW k' d' p'
  · exact .inl ⟨e, (o_like h h').1 e⟩
  · refine .inr ⟨e, ?_⟩
    have hn : ¬ (k = k' ∧ d = d' ∧ p = p') := fun x => e ((o_like h h').2 x)
    omega

set_option maxHeartbeats 8000000 in
theorem wordBack_walk (k d p : Int) (k' d' p' : Int) (c fd fp : Int) (x : Bool) (z : Int) (w : World) :
    Calls Try.prog 4 #[.agg #[.int .i64 k, .int .i64 d, .int .i64 p], .agg #[.int .i64 k', .int .i64 d', .int .i64 p'], .agg #[.int .i64 c, .int .i64 fd, .int .i64 fp, .bool x], .int .i64 z] w fun e w' => e = .returned (.bool true) ∧ Below w.heap.size w w' := by
  obtain ⟨e1, hE1⟩ : ∃ e1, oE k d p = e1 := ⟨_, rfl⟩
  obtain ⟨x1, hX1⟩ : ∃ x1, oW k d p = x1 := ⟨_, rfl⟩
  obtain ⟨e2, hE2⟩ : ∃ e2, oE k' d' p' = e2 := ⟨_, rfl⟩
  obtain ⟨x2, hX2⟩ : ∃ x2, oW k' d' p' = x2 := ⟨_, rfl⟩
  have HE1 : Hid _ := hE1
  have HX1 : Hid _ := hX1
  have HE2 : Hid _ := hE2
  have HX2 : Hid _ := hX2
  clear hE1 hX1 hE2 hX2
  go_enter Try.func4, Try.ntmps4
  go_wp2_with fail
  refine (putOrder_at HE1.out HX1.out).mono ?_
  rintro e w1 ⟨rfl, b1⟩
  have X0 := ((Box.newAt (n := w.heap.size) (by simp) 23 #[.int .i64 k, .int .i64 d, .int .i64 p]).past (.cells #[.int .i64 k', .int .i64 d', .int .i64 p'] 23)).past (.cells #[.int .i64 c, .int .i64 fd, .int .i64 fp, .bool x] 25) |>.keep b1
  have X1 := (Box.newAt (w := w.alloc (.cells #[.int .i64 k, .int .i64 d, .int .i64 p] 23)) (n := w.heap.size + 1) (by simp) 23 #[.int .i64 k', .int .i64 d', .int .i64 p']).past (.cells #[.int .i64 c, .int .i64 fd, .int .i64 fp, .bool x] 25) |>.keep b1
  have X2 := (Box.newAt (w := (w.alloc (.cells #[.int .i64 k, .int .i64 d, .int .i64 p] 23)).alloc (.cells #[.int .i64 k', .int .i64 d', .int .i64 p'] 23)) (n := w.heap.size + 1 + 1) (by simp) 25 #[.int .i64 c, .int .i64 fd, .int .i64 fp, .bool x]) |>.keep b1
  have B1 : Hid (Below w.heap.size w w1) := bel_trans (bel_alloc (bel_alloc (bel_alloc (Below.refl _ _) _) _) _) b1
  clear b1
  obtain ⟨q0, q1, q2, -, -, -, l1⟩ := X1.three
  go_wp2_with fail
  refine (putOrder_at HE2.out HX2.out).mono ?_
  rintro e w2 ⟨rfl, b2⟩
  have X0 := X0.keep b2
  have X1 := X1.keep b2
  have X2 := X2.keep b2
  have B2 : Hid (Below w.heap.size w w2) := bel_trans B1.out b2
  clear b2 B1 q0 q1 q2 l1
  go_upto_region 3 with fail
  go_cut [55] from 37 to 55 (fun s wx => s = .bool false ∧ Below w2.heap.size w2 wx)
  case first =>
    go_wp2_with fail
    refine (worded_true _).mono ?_
    rintro e w3 ⟨rfl, b3⟩
    have X0 := X0.keep b3
    have X1 := X1.keep b3
    have B3 : Hid (Below w2.heap.size w2 w3) := b3
    clear b3
    obtain ⟨i0, i1, i2, -, -, -, l0⟩ := X0.three
    obtain ⟨j0, j1, j2, -, -, -, l1⟩ := X1.three
    clear X0 X1 X2 B2
    by_cases h1 : e1 = 0
    rotate_left
    · have hq : (e1 == 0) = false := by simpa using h1
      clear h1
      go_wp2
      go_meet
      exact ⟨rfl, B3.out⟩
    by_cases h2 : e2 = 0
    rotate_left
    · have hq : (e2 == 0) = false := by simpa using h2
      subst h1
      clear h2
      go_wp2
      go_meet
      exact ⟨rfl, B3.out⟩
    subst h1 h2
    have hl := like_cases HE1.out HE2.out
    rw [HX1.out, HX2.out] at hl
    clear HE1 HE2 HX1 HX2
    rcases hl with ⟨a, a1, a2, a3⟩ | ⟨a, a1 | ⟨a1, a2⟩ | ⟨a1, a2, a3⟩⟩
    · subst a a1 a2 a3
      go_wp2
      go_meet
      exact ⟨rfl, B3.out⟩
    · go_wp2
      go_meet
      exact ⟨by rw [show (x1 == x2) = false by simpa using a], B3.out⟩
    · subst a1
      go_wp2
      go_meet
      exact ⟨by rw [show (x1 == x2) = false by simpa using a], B3.out⟩
    · subst a1 a2
      go_wp2
      go_meet
      exact ⟨by rw [show (x1 == x2) = false by simpa using a], B3.out⟩
  case rest =>
    obtain ⟨rfl, Bc⟩ := hcut
    have X0 := X0.keep Bc
    have X2 := X2.keep Bc
    have B3 : Hid (Below w.heap.size w wc) := bel_trans B2.out Bc
    obtain ⟨wA, rfl⟩ : ∃ wA, wA = wc := ⟨wc, rfl⟩
    clear Bc B2 X1 HE2 HX2
    go_upto_if 57 with fail
    go_cut [13, 14] from 56 to 69 (fun a b wx => Below wA.heap.size wA wx)
    case first =>
      by_cases h1 : e1 = 0
      rotate_left
      · have hq : (e1 == 0) = false := by simpa using h1
        clear h1
        go_wp2
        go_meet
        exact Below.refl _ _
      · subst h1
        have hb := o_back HE1.out
        rw [HX1.out] at hb
        have HB : Hid _ := hb
        clear hb HE1 HX1
        go_wp2_with fail
        refine (readOrder_at HB.out.1 HB.out.2).mono ?_
        rintro e w4 ⟨rfl, b4⟩
        have X0 := X0.keep b4
        have B4 : Hid (Below wA.heap.size wA w4) := b4
        clear b4 X2 B3 HB
        obtain ⟨i0, i1, i2, -, -, -, l0⟩ := X0.three
        go_wp2
        go_meet
        exact bel_alloc B4.out _
    case rest =>
      rename_i a13 a14 _
      have Bc := hcut
      have X2 := X2.keep Bc
      have B4 : Hid (Below w.heap.size w wc) := bel_trans B3.out Bc
      obtain ⟨wB, rfl⟩ : ∃ wB, wB = wc := ⟨wc, rfl⟩
      clear Bc hcut B3 X0 HE1 HX1
      obtain ⟨e3, hE3⟩ : ∃ e3, fE c fd fp = e3 := ⟨_, rfl⟩
      obtain ⟨x3, hX3⟩ : ∃ x3, fW c fd fp x = x3 := ⟨_, rfl⟩
      have HE3 : Hid _ := hE3
      have HX3 : Hid _ := hX3
      clear hE3 hX3
      obtain ⟨i0, i1, i2, i3, -, -, -, -, l0⟩ := X2.four
      go_wp2_with fail
      refine (putFault_at HE3.out HX3.out).mono ?_
      rintro e w5 ⟨rfl, b5⟩
      have X2 := X2.keep b5
      have B5 : Hid (Below w.heap.size w w5) := bel_trans B4.out b5
      clear b5 B4 i0 i1 i2 i3 l0
      go_upto_if 76 with fail
      go_cut [17, 18] from 75 to 88 (fun a b wx => Below w5.heap.size w5 wx)
      case first =>
        by_cases h1 : e3 = 0
        rotate_left
        · have hq : (e3 == 0) = false := by simpa using h1
          clear h1
          go_wp2
          go_meet
          exact Below.refl _ _
        · subst h1
          have hb := f_back (x := x) HE3.out
          rw [HX3.out] at hb
          have HB : Hid _ := hb
          clear hb HE3 HX3
          go_wp2_with fail
          refine (readFault_at HB.out.1 HB.out.2).mono ?_
          rintro e w6 ⟨rfl, b6⟩
          have X2 := X2.keep b6
          have B6 : Hid (Below w5.heap.size w5 w6) := b6
          clear b6 B5 HB
          obtain ⟨i0, i1, i2, i3, -, -, -, -, l0⟩ := X2.four
          go_wp2
          go_meet
          exact bel_alloc B6.out _
      case rest =>
        have Bc := hcut
        have B6 : Hid (Below w.heap.size w wc) := bel_trans B5.out Bc
        obtain ⟨wC, rfl⟩ : ∃ wC, wC = wc := ⟨wc, rfl⟩
        clear Bc hcut B5 X2 HE3 HX3
        obtain ⟨e7, hE7⟩ : ∃ e7, roE z = e7 := ⟨_, rfl⟩
        obtain ⟨k7, d7, p7, hX7⟩ : ∃ k7 d7 p7, roO z = (k7, d7, p7) := ⟨_, _, _, rfl⟩
        have HE7 : Hid _ := hE7
        have HX7 : Hid _ := hX7
        clear hE7 hX7
        go_wp2_with fail
        refine (readOrder_at HE7.out HX7.out).mono ?_
        rintro e w7 ⟨rfl, b7⟩
        have B7 : Hid (Below w.heap.size w w7) := bel_trans B6.out b7
        clear b7 B6
        go_upto_if 95 with fail
        have X7 := Box.newAt (w := w7) (n := w7.heap.size) rfl 23 #[.int .i64 k7, .int .i64 d7, .int .i64 p7]
        have B8 : Hid (Below w.heap.size w (w7.alloc (.cells #[.int .i64 k7, .int .i64 d7, .int .i64 p7] 23))) := bel_alloc B7.out _
        clear B7
        obtain ⟨n7, hn7⟩ : ∃ n7, w7.heap.size = n7 := ⟨_, rfl⟩
        rw [hn7] at X7 ⊢
        clear hn7
        generalize w7.alloc (.cells #[.int .i64 k7, .int .i64 d7, .int .i64 p7] 23) = w8 at *
        go_cut [21, 22] from 94 to 107 (fun a b wx => Below w8.heap.size w8 wx)
        case first =>
          by_cases h1 : e7 = 0
          rotate_left
          · have hq : (e7 == 0) = false := by simpa using h1
            clear h1
            go_wp2
            go_meet
            exact Below.refl _ _
          · subst h1
            have hb := o_read HE7.out HX7.out
            have HB : Hid _ := hb
            clear hb HE7 HX7
            obtain ⟨i0, i1, i2, -, -, -, l0⟩ := X7.three
            go_wp2_with fail
            refine (putOrder_at HB.out.1 HB.out.2).mono ?_
            rintro e w9 ⟨rfl, b9⟩
            have B9 : Hid (Below w8.heap.size w8 w9) := b9
            clear b9 B8 HB X7 i0 i1 i2 l0
            go_wp2
            go_meet
            exact B9.out
        case rest =>
          have Bc := hcut
          have B9 : Hid (Below w.heap.size w wc) := bel_trans B8.out Bc
          obtain ⟨wD, rfl⟩ : ∃ wD, wD = wc := ⟨wc, rfl⟩
          clear Bc hcut B8 X7 HE7 HX7
          obtain ⟨e8, hE8⟩ : ∃ e8, rfE z = e8 := ⟨_, rfl⟩
          obtain ⟨c8, d8, p8, y8, hX8⟩ : ∃ c8 d8 p8 y8, rfF z = (c8, d8, p8, y8) := ⟨_, _, _, _, rfl⟩
          have HE8 : Hid _ := hE8
          have HX8 : Hid _ := hX8
          clear hE8 hX8
          go_wp2_with fail
          refine (readFault_at HE8.out HX8.out).mono ?_
          rintro e w10 ⟨rfl, b10⟩
          have B10 : Hid (Below w.heap.size w w10) := bel_trans B9.out b10
          clear b10 B9
          by_cases h1 : e8 = 0
          rotate_left
          · have hq : (e8 == 0) = false := by simpa using h1
            clear h1
            go_wp2
            go_ret
            exact ⟨rfl, bel_alloc B10.out _⟩
          · subst h1
            have hb := f_read HE8.out HX8.out
            have HB : Hid _ := hb
            clear hb HE8 HX8
            go_wp2_with fail
            refine (putFault_at HB.out.1 HB.out.2).mono ?_
            rintro e w11 ⟨rfl, b11⟩
            have B11 : Hid (Below w.heap.size w w11) := bel_trans (bel_alloc B10.out _) b11
            clear b11 B10 HB
            go_wp2
            go_ret
            exact ⟨rfl, B11.out⟩
end Go.Proofs.Ytfcakngfahdhnab
