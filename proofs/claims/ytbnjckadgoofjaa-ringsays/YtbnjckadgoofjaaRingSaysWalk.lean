/-
  The walk of drawbridgelaw.RingSays: it answers true, whatever memory, ring and word it is given; nothing that was there turns.
-/
import Derived.Test.YtbnjckadgoofjaaRing6
import Derived.Test.YtbnjckadgoofjaaTurned
import Derived.Deep.RegionWith
namespace Go.Proofs.Ytbnjckadgoofjaa
open Go.RowKit

theorem push_at {v : Value} {zs zm : List Int} {p h t x e1 p1 h1 t1 : Int} {w : World} (hE : psE zs p h t x = e1) (hM : psM zs p h t x = zm) (hR : psR zs p h t x = (p1, h1, t1)) (hs : Sl w v zs) :
    Calls Try.prog 47 #[.agg #[v], .agg #[.int .i64 p, .int .i64 h, .int .i64 t], .int .i64 x] w fun e w' =>
      ∃ a c, e = .returned (.tuple #[.agg #[.slice a zm.length c], .agg #[.int .i64 p1, .int .i64 h1, .int .i64 t1], .int .i64 e1]) ∧ Sl w' (.slice a zm.length c) zm ∧ Fresh w.heap.size (.slice a zm.length c) ∧ Below w.heap.size w w' := by
  refine (push_any v zs p h t x w hs).mono ?_
  rintro e w' ⟨⟨v', p', h', t', rfl, hS, hF, hR'⟩, hb⟩
  rw [hR] at hR'
  simp only [Prod.mk.injEq] at hR'
  obtain ⟨rfl, rfl, rfl⟩ := hR'
  rw [hM] at hS
  obtain ⟨a, c, rfl⟩ := hS.shape
  rw [hE]
  exact ⟨a, c, rfl, hS, hF, hb⟩
theorem pushed_at {v : Value} {zs zm : List Int} {p h t x e1 p1 h1 t1 : Int} {w : World} (hE : psE zs p h t x = e1) (hM : psM zs p h t x = zm) (hR : psR zs p h t x = (p1, h1, t1)) (hs : Sl w v zs) :
    Calls Try.prog 49 #[.agg #[v], .agg #[.int .i64 p, .int .i64 h, .int .i64 t], .int .i64 x] w fun e w' =>
      ∃ a c, e = .returned (.tuple #[.agg #[.slice a zm.length c], .agg #[.int .i64 p1, .int .i64 h1, .int .i64 t1], .int .i64 e1]) ∧ Sl w' (.slice a zm.length c) zm ∧ Fresh w.heap.size (.slice a zm.length c) ∧ Below w.heap.size w w' := by
  refine (pushed_any v zs p h t x w hs).mono ?_
  rintro e w' ⟨⟨v', p', h', t', rfl, hS, hF, hR'⟩, hb⟩
  rw [hR] at hR'
  simp only [Prod.mk.injEq] at hR'
  obtain ⟨rfl, rfl, rfl⟩ := hR'
  rw [hM] at hS
  obtain ⟨a, c, rfl⟩ := hS.shape
  rw [hE]
  exact ⟨a, c, rfl, hS, hF, hb⟩
theorem pop_at {v : Value} {zs : List Int} {p h t y e1 p1 h1 t1 : Int} {w : World} (hE : ppE zs p h t = e1) (hV : ppV zs p h t = y) (hR : ppR zs p h t = (p1, h1, t1)) (hs : Sl w v zs) :
    Calls Try.prog 48 #[.agg #[v], .agg #[.int .i64 p, .int .i64 h, .int .i64 t]] w fun e w' =>
      e = .returned (.tuple #[.int .i64 y, .agg #[.int .i64 p1, .int .i64 h1, .int .i64 t1], .int .i64 e1]) ∧ Below w.heap.size w w' := by
  refine (pop_any v zs p h t w hs).mono ?_
  rintro e w' ⟨⟨p', h', t', rfl, hR'⟩, hb⟩
  rw [hR] at hR'
  simp only [Prod.mk.injEq] at hR'
  obtain ⟨rfl, rfl, rfl⟩ := hR'
  rw [hE, hV]
  exact ⟨rfl, hb⟩
theorem popped_at {v : Value} {zs : List Int} {p h t y e1 p1 h1 t1 : Int} {w : World} (hE : ppE zs p h t = e1) (hV : ppV zs p h t = y) (hR : ppR zs p h t = (p1, h1, t1)) (hs : Sl w v zs) :
    Calls Try.prog 50 #[.agg #[v], .agg #[.int .i64 p, .int .i64 h, .int .i64 t]] w fun e w' =>
      e = .returned (.tuple #[.int .i64 y, .agg #[.int .i64 p1, .int .i64 h1, .int .i64 t1], .int .i64 e1]) ∧ Below w.heap.size w w' := by
  refine (popped_any v zs p h t w hs).mono ?_
  rintro e w' ⟨⟨p', h', t', rfl, hR'⟩, hb⟩
  rw [hR] at hR'
  simp only [Prod.mk.injEq] at hR'
  obtain ⟨rfl, rfl, rfl⟩ := hR'
  rw [hE, hV]
  exact ⟨rfl, hb⟩

theorem limbT {A B C D : Prop} (h : A ∧ B ∧ C ∧ D) : D := h.2.2.2

set_option maxHeartbeats 4000000 in
theorem ringSays_walk (v : Value) (zs : List Int) (p h t x : Int) (w : World) (hs : Sl w v zs) :
    Calls Try.prog 13 #[.agg #[v], .agg #[.int .i64 p, .int .i64 h, .int .i64 t], .int .i64 x] w fun e w' => e = .returned (.bool true) ∧ Below w.heap.size w w' := by
  obtain ⟨a0, c0, rfl⟩ := hs.shape
  obtain ⟨e1, hE1⟩ : ∃ e1, psE zs p h t x = e1 := ⟨_, rfl⟩
  obtain ⟨zm, hM1⟩ : ∃ zm, psM zs p h t x = zm := ⟨_, rfl⟩
  obtain ⟨p1, h1, t1, hR1⟩ : ∃ p1 h1 t1, psR zs p h t x = (p1, h1, t1) := ⟨_, _, _, rfl⟩
  obtain ⟨e2, hE2⟩ : ∃ e2, ppE zs p h t = e2 := ⟨_, rfl⟩
  obtain ⟨y, hV2⟩ : ∃ y, ppV zs p h t = y := ⟨_, rfl⟩
  obtain ⟨p2, h2, t2, hR2⟩ : ∃ p2 h2 t2, ppR zs p h t = (p2, h2, t2) := ⟨_, _, _, rfl⟩
  have HE1 : Hid _ := hE1
  have HM1 : Hid _ := hM1
  have HR1 : Hid _ := hR1
  have HE2 : Hid _ := hE2
  have HV2 : Hid _ := hV2
  have HR2 : Hid _ := hR2
  clear hE1 hM1 hR1 hE2 hV2 hR2
  go_enter Try.func13, Try.ntmps13
  go_wp2_with fail
  refine (push_at HE1.out HM1.out HR1.out (hs.keep (bel_alloc (bel_alloc (Below.refl _ _) _) _))).mono ?_
  rintro e w1 ⟨a1, c1, rfl, s1, -, b1⟩
  have X0 := (Box.newAt (n := w.heap.size) (by simp) 28 #[.slice a0 zs.length c0]).past (.cells #[.int .i64 p, .int .i64 h, .int .i64 t] 71) |>.keep b1
  have X1 := (Box.newAt (w := w.alloc (.cells #[.slice a0 zs.length c0] 28)) (n := w.heap.size + 1) (by simp) 71 #[.int .i64 p, .int .i64 h, .int .i64 t]) |>.keep b1
  have B1 : Hid (Below w.heap.size w w1) := bel_trans (bel_alloc (bel_alloc (Below.refl _ _) _) _) b1
  have S1 : Hid (Sl w1 (.slice a1 zm.length c1) zm) := s1
  clear b1 s1
  obtain ⟨q0, -, l0⟩ := X0.one
  obtain ⟨q1, q2, q3, -, -, -, l1⟩ := X1.three
  go_wp2_with fail
  refine (pop_at HE2.out HV2.out HR2.out (hs.keep (bel_alloc (bel_alloc B1.out _) _))).mono ?_
  rintro e w2 ⟨rfl, b2⟩
  have X0 := ((X0.past _).past _).keep b2
  have X1 := ((X1.past _).past _).keep b2
  have X2 := ((Box.newAt (w := w1) (n := w1.heap.size) rfl 28 #[.slice a1 zm.length c1]).past (.cells #[.int .i64 p1, .int .i64 h1, .int .i64 t1] 71)).keep b2
  have X3 := (Box.newAt (w := w1.alloc (.cells #[.slice a1 zm.length c1] 28)) (n := w1.heap.size + 1) (by simp) 71 #[.int .i64 p1, .int .i64 h1, .int .i64 t1]).keep b2
  have S2 : Hid (Sl w2 (.slice a1 zm.length c1) zm) := (S1.out.keep (bel_alloc (bel_alloc (Below.refl _ _) _) _)).keep b2
  have B2 : Hid (Below w.heap.size w w2) := bel_trans (bel_alloc (bel_alloc B1.out _) _) b2
  clear b2 B1 S1 q0 q1 q2 q3 l0 l1
  obtain ⟨q0, -, l0⟩ := X0.one
  obtain ⟨q1, q2, q3, -, -, -, l1⟩ := X1.three
  go_wp2_with fail
  refine (pushed_at HE1.out HM1.out HR1.out (hs.keep (bel_alloc B2.out _))).mono ?_
  rintro e w3 ⟨a3, c3, rfl, s3, -, b3⟩
  have X0 := (X0.past _).keep b3
  have X1 := (X1.past _).keep b3
  have X2 := (X2.past _).keep b3
  have X3 := (X3.past _).keep b3
  have X4 := (Box.newAt (w := w2) (n := w2.heap.size) rfl 71 #[.int .i64 p2, .int .i64 h2, .int .i64 t2]).keep b3
  have S3 : Hid (Sl w3 (.slice a1 zm.length c1) zm) := (S2.out.keep (bel_alloc (Below.refl _ _) _)).keep b3
  have T3 : Hid (Sl w3 (.slice a3 zm.length c3) zm) := s3
  have B3 : Hid (Below w.heap.size w w3) := bel_trans (bel_alloc B2.out _) b3
  clear b3 B2 S2 s3 q0 q1 q2 q3 l0 l1
  obtain ⟨q0, -, l0⟩ := X0.one
  obtain ⟨q1, q2, q3, -, -, -, l1⟩ := X1.three
  go_wp2_with fail
  refine (popped_at HE2.out HV2.out HR2.out (hs.keep (bel_alloc (bel_alloc B3.out _) _))).mono ?_
  rintro e w4 ⟨rfl, b4⟩
  have X1 := ((X1.past _).past _).keep b4
  have X2 := ((X2.past _).past _).keep b4
  have X3 := ((X3.past _).past _).keep b4
  have X4 := ((X4.past _).past _).keep b4
  have X5 := ((Box.newAt (w := w3) (n := w3.heap.size) rfl 28 #[.slice a3 zm.length c3]).past (.cells #[.int .i64 p1, .int .i64 h1, .int .i64 t1] 71)).keep b4
  have X6 := (Box.newAt (w := w3.alloc (.cells #[.slice a3 zm.length c3] 28)) (n := w3.heap.size + 1) (by simp) 71 #[.int .i64 p1, .int .i64 h1, .int .i64 t1]).keep b4
  have S4 : Hid (Sl w4 (.slice a1 zm.length c1) zm) := (S3.out.keep (bel_alloc (bel_alloc (Below.refl _ _) _) _)).keep b4
  have T4 : Hid (Sl w4 (.slice a3 zm.length c3) zm) := (T3.out.keep (bel_alloc (bel_alloc (Below.refl _ _) _) _)).keep b4
  have B4 : Hid (Below w.heap.size w w4) := bel_trans (bel_alloc (bel_alloc B3.out _) _) b4
  clear b4 B3 S3 T3 q0 q1 q2 q3 l0 l1 X0
  go_upto_region 5 with fail
  have X1 := X1.past (.cells #[.int .i64 p2, .int .i64 h2, .int .i64 t2] 71)
  have X2 := X2.past (.cells #[.int .i64 p2, .int .i64 h2, .int .i64 t2] 71)
  have X3 := X3.past (.cells #[.int .i64 p2, .int .i64 h2, .int .i64 t2] 71)
  have X4 := X4.past (.cells #[.int .i64 p2, .int .i64 h2, .int .i64 t2] 71)
  have X5 := X5.past (.cells #[.int .i64 p2, .int .i64 h2, .int .i64 t2] 71)
  have X6 := X6.past (.cells #[.int .i64 p2, .int .i64 h2, .int .i64 t2] 71)
  have X7 := Box.newAt (w := w4) (n := w4.heap.size) rfl 71 #[.int .i64 p2, .int .i64 h2, .int .i64 t2]
  have S5 : Hid (Sl (w4.alloc (.cells #[.int .i64 p2, .int .i64 h2, .int .i64 t2] 71)) (.slice a1 zm.length c1) zm) := S4.out.keep (bel_alloc (Below.refl _ _) (.cells #[.int .i64 p2, .int .i64 h2, .int .i64 t2] 71))
  have T5 : Hid (Sl (w4.alloc (.cells #[.int .i64 p2, .int .i64 h2, .int .i64 t2] 71)) (.slice a3 zm.length c3) zm) := T4.out.keep (bel_alloc (Below.refl _ _) (.cells #[.int .i64 p2, .int .i64 h2, .int .i64 t2] 71))
  have B5 : Hid (Below w.heap.size w _) := bel_alloc B4.out (.cells #[.int .i64 p2, .int .i64 h2, .int .i64 t2] 71)
  clear B4 S4 T4
  generalize w4.alloc (.cells #[.int .i64 p2, .int .i64 h2, .int .i64 t2] 71) = W at *
  obtain ⟨q1, q2, q3, -, -, -, l1⟩ := X1.three
  go_cut [69] from 49 to 69 (fun s wx => s = .bool false ∧ Below W.heap.size W wx)
  case first =>
    rcases chkR_cases p h t with hr | hr
    · obtain ⟨rp, rh, rt⟩ := chkR_ok hr
      have Rh := stepR_in rh
      have Rt := stepR_in rt
      obtain ⟨ln, hln⟩ : ∃ ln, lenR h t = ln := ⟨_, rfl⟩
      have HLn : Hid (lenR h t = ln) := hln
      have HRr : Hid (chkR p h t = 0) := hr
      clear hln hr rp rh rt X2 X3 X4 X5 X6 X7 S5 T5 B5 HE1 HM1 HR1 HE2 HV2 HR2 hs
      go_region_held3 (fun w' => w'.cell? ⟨w.heap.size + 1, 0, none⟩ = some (.int .i64 p) ∧ w'.cell? ⟨w.heap.size + 1, 1, none⟩ = some (.int .i64 h) ∧ w'.cell? ⟨w.heap.size + 1, 2, none⟩ = some (.int .i64 t) ∧ Below W.heap.size W w')
        (with_reducible refine keepT q1 q2 q3 l1 ?_; (repeat (first | with_reducible assumption | (with_reducible (refine limbT (?_ : _ ∧ _ ∧ _ ∧ _); assumption)) | with_reducible exact Below.refl _ _ | with_reducible refine Below.drew ?_ | with_reducible refine bel_drewN ?_ _ | with_reducible refine bel_alloc ?_ _ | with_reducible refine bel_trans ?_ (by assumption))))
        (first
          | (go_at_call 51; refine (turned_true _).mono ?_; rintro e w5 ⟨rfl, b5⟩)
          | (go_at_call 52; refine (rCheck_any p h t _).mono ?_; rintro e w6 ⟨rfl, rfl⟩; rw [HRr.out])
          | (go_at_call 53; refine (checkRing_any p h t _).mono ?_; rintro e w6 ⟨rfl, rfl⟩; rw [HRr.out])
          | (go_at_call 54; refine (length_any p h t _ Rh Rt).mono ?_; rintro e w6 ⟨rfl, rfl⟩; rw [HLn.out])
          | (go_at_call 55; refine (lengthOf_any p h t _ Rh Rt).mono ?_; rintro e w6 ⟨rfl, rfl⟩; rw [HLn.out]))
      all_goals
        go_wp2_with fail
        go_meet
        exact ⟨rfl, limbT (by with_reducible assumption)⟩
    · have HRr : Hid (chkR p h t = 2) := hr
      clear hr X2 X3 X4 X5 X6 X7 S5 T5 B5 HE1 HM1 HR1 HE2 HV2 HR2 hs
      go_region_with (first
          | (go_at_call 51; refine (turned_true _).mono ?_; rintro e w5 ⟨rfl, b5⟩; obtain ⟨y1, y2, y3, -, -, -, k1⟩ := (X1.drew.keep b5).three; have k2 := Nat.lt_of_succ_lt k1; have k3 := Nat.lt_succ_of_lt k2)
          | (go_at_call 52; refine (rCheck_any p h t _).mono ?_; rintro e w6 ⟨rfl, rfl⟩; rw [HRr.out])
          | (go_at_call 53; refine (checkRing_any p h t _).mono ?_; rintro e w6 ⟨rfl, rfl⟩; rw [HRr.out]))
      all_goals
        go_wp2_with fail
        go_meet
        refine ⟨rfl, ?_⟩
        (repeat (first | with_reducible assumption | (with_reducible (refine limbT (?_ : _ ∧ _ ∧ _ ∧ _); assumption)) | with_reducible exact Below.refl _ _ | with_reducible refine Below.drew ?_ | with_reducible refine bel_drewN ?_ _ | with_reducible refine bel_alloc ?_ _ | with_reducible refine bel_trans ?_ (by assumption)))
  case rest =>
    obtain ⟨rfl, Bc⟩ := hcut
    have X2 := X2.keep Bc
    have X3 := X3.keep Bc
    have X4 := X4.keep Bc
    have X5 := X5.keep Bc
    have X6 := X6.keep Bc
    have X7 := X7.keep Bc
    have S6 : Hid (Sl wc (.slice a1 zm.length c1) zm) := S5.out.keep Bc
    have T6 : Hid (Sl wc (.slice a3 zm.length c3) zm) := T5.out.keep Bc
    have B6 : Hid (Below w.heap.size w wc) := bel_trans B5.out Bc
    clear Bc S5 T5 B5 q1 q2 q3 l1 X1
    obtain ⟨i2, -, j2⟩ := X2.one
    obtain ⟨i3, k3, m3, -, -, -, j3⟩ := X3.three
    obtain ⟨i4, k4, m4, -, -, -, j4⟩ := X4.three
    obtain ⟨i5, -, j5⟩ := X5.one
    obtain ⟨i6, k6, m6, -, -, -, j6⟩ := X6.three
    obtain ⟨i7, k7, m7, -, -, -, j7⟩ := X7.three
    go_wp2_with fail
    refine (equal_any _ _ zm zm _ S6.out T6.out).mono ?_
    rintro e w9 ⟨rfl, n9, rfl⟩
    rw [show decide (zm = zm) = true by simp]
    go_wp2
    go_ret
    exact ⟨rfl, bel_drewN B6.out _⟩
end Go.Proofs.Ytbnjckadgoofjaa
