/-
  What ReadFault answers, and drawbridgeref's OrderOf, FaultOf: the same as ReadOrder, ReadFault; none turns memory that was there.
-/
import Derived.Test.YtfcakngfahdhnabWord3
namespace Go.Proofs.Ytfcakngfahdhnab
open Go.RowKit

set_option maxHeartbeats 2000000 in
theorem readFault_any (z : Int) (w : World) :
    Calls Try.prog 8 #[.int .i64 z] w fun e w' => (∃ c d p x, e = .returned (.tuple #[.agg #[.int .i64 c, .int .i64 d, .int .i64 p, .bool x], .int .i64 (rfE z)]) ∧ rfF z = (c, d, p, x)) ∧ Below w.heap.size w w' := by
  cases hw : betweenB 0 65535 z
  · have hr : rfE z = 2 := rfE_out (of_decide_eq_false hw)
    have HO : Hid (rfF z = (0, 0, 0, false)) := rfF_bad hr (by decide)
    rw [hr]
    clear hr
    go_enter Try.func8, Try.ntmps8
    go_wp2_with fail
    refine (oIsWord_any _ _).mono ?_
    rintro e w1 ⟨rfl, rfl⟩
    rw [hw]
    go_wp2
    refine bodyPost_ret (v := .tuple #[.agg #[.int .i64 0, .int .i64 0, .int .i64 0, .bool false], .int .i64 2]) (by simp [results, Try.results8, go_sem]) rfl ⟨⟨_, _, _, _, rfl, HO.out⟩, ?_⟩
    exact bel_alloc (Below.refl _ _) _
  have hz := of_between hw
  have hway := rf_way hz
  obtain ⟨h0, h1⟩ := hz
  obtain ⟨eo, heo⟩ : ∃ eo, fE (z % 8) (z / 8 % 8) (z / 64 % 64) = eo := ⟨_, rfl⟩
  obtain ⟨xo, hxo⟩ : ∃ xo, fW (z % 8) (z / 8 % 8) (z / 64 % 64) (z / 4096 % 2 == 1) = xo := ⟨_, rfl⟩
  rw [heo, hxo] at hway
  have HW : Hid _ := hway
  have HE : Hid _ := heo
  have HX : Hid _ := hxo
  clear hway heo hxo
  go_enter Try.func8, Try.ntmps8
  go_wp2_with fail
  refine (oIsWord_any _ _).mono ?_
  rintro e w1 ⟨rfl, rfl⟩
  rw [hw]
  go_wp2_with fail
  refine (putFault_any _ _ _ _ _).mono ?_
  rintro e w1 ⟨rfl, b1⟩
  rw [HE.out, HX.out]
  have X0 := (Box.newAt (n := w.heap.size) (by simp) 25 #[.int .i64 0, .int .i64 0, .int .i64 0, .bool false]).past (.cells #[.int .i64 (z % 8), .int .i64 (z / 8 % 8), .int .i64 (z / 64 % 64), .bool (z / 4096 % 2 == 1)] 25) |>.keep b1
  have X1 := (Box.newAt (w := w.alloc (.cells #[.int .i64 0, .int .i64 0, .int .i64 0, .bool false] 25)) (n := w.heap.size + 1) (by simp) 25 #[.int .i64 (z % 8), .int .i64 (z / 8 % 8), .int .i64 (z / 64 % 64), .bool (z / 4096 % 2 == 1)]).keep b1
  have B1 : Hid (Below w.heap.size w w1) := bel_trans (bel_alloc (bel_alloc (Below.refl _ _) _) _) b1
  clear b1
  obtain ⟨u0, u1, u2, u3, g0, g1, g2, g3, s0⟩ := X0.four
  obtain ⟨q0, q1, q2, q3, -, -, -, -, s1⟩ := X1.four
  clear X0 X1
  rcases HW.out with ⟨hr, ho, hk | ⟨hk, hx⟩⟩ | ⟨hr, ho, hk, hx⟩
  · have HR : Hid _ := hr
    have HO : Hid _ := ho
    have hq : (eo != 0) = true := by simpa using hk
    clear hr ho HW HE HX hk
    go_wp2
    refine bodyPost_ret (v := .tuple #[.agg #[.int .i64 0, .int .i64 0, .int .i64 0, .bool false], .int .i64 3]) (by simp [results, Try.results8, go_sem, *]) rfl ⟨⟨_, _, _, _, by rw [HR.out], HO.out⟩, ?_⟩
    exact bel_set4 (by omega) B1.out _ _ _ _
  · have HR : Hid _ := hr
    have HO : Hid _ := ho
    have hq : (xo != z) = true := by simpa using hx
    clear hr ho HW HE HX hx
    subst hk
    go_wp2
    refine bodyPost_ret (v := .tuple #[.agg #[.int .i64 0, .int .i64 0, .int .i64 0, .bool false], .int .i64 3]) (by simp [results, Try.results8, go_sem, *]) rfl ⟨⟨_, _, _, _, by rw [HR.out], HO.out⟩, ?_⟩
    exact bel_set4 (by omega) B1.out _ _ _ _
  · have HR : Hid _ := hr
    have HO : Hid _ := ho
    clear hr ho HW HE HX
    subst hk hx
    go_wp2
    refine bodyPost_ret (v := .tuple #[.agg #[.int .i64 (xo % 8), .int .i64 (xo / 8 % 8), .int .i64 (xo / 64 % 64), .bool (xo / 4096 % 2 == 1)], .int .i64 0]) (by simp [results, Try.results8, go_sem, *]) rfl ⟨⟨_, _, _, _, by rw [HR.out], HO.out⟩, ?_⟩
    exact bel_set4 (by omega) B1.out _ _ _ _

/-- The reference's way. -/
theorem rof_way {z : Int} (h : 0 ≤ z ∧ z ≤ 65535) :
    (roE z = 3 ∧ roO z = (0, 0, 0) ∧ ¬ oE (z % 4) (z / 4 % 8) (z / 32) = 0) ∨ (roE z = 0 ∧ roO z = (z % 4, z / 4 % 8, z / 32) ∧ oE (z % 4) (z / 4 % 8) (z / 32) = 0) := by
  by_cases hk : oE (z % 4) (z / 4 % 8) (z / 32) = 0
  · have hr := roE_mk h hk
    exact .inr ⟨hr, roO_ok hr, hk⟩
  · have hr := roE_bad h hk
    exact .inl ⟨hr, roO_bad hr (by decide), hk⟩
theorem rff_way {z : Int} (h : 0 ≤ z ∧ z ≤ 65535) :
    (rfE z = 3 ∧ rfF z = (0, 0, 0, false) ∧ (¬ fE (z % 8) (z / 8 % 8) (z / 64 % 64) = 0 ∨ (fE (z % 8) (z / 8 % 8) (z / 64 % 64) = 0 ∧ 8192 ≤ z))) ∨
    (rfE z = 0 ∧ rfF z = (z % 8, z / 8 % 8, z / 64 % 64, (z / 4096 == 1)) ∧ fE (z % 8) (z / 8 % 8) (z / 64 % 64) = 0 ∧ ¬ 8192 ≤ z) := by
  by_cases hk : fE (z % 8) (z / 8 % 8) (z / 64 % 64) = 0
  · by_cases hs : z < 8192
    · have hr := rfE_mk h hk hs
      exact .inr ⟨hr, rfF_ok hr, hk, by omega⟩
    · have hr : rfE z = 3 := rfE_bad h fun x => hs x.2
      exact .inl ⟨hr, rfF_bad hr (by decide), .inr ⟨hk, by omega⟩⟩
  · have hr : rfE z = 3 := rfE_bad h fun x => hk x.1
    exact .inl ⟨hr, rfF_bad hr (by decide), .inl hk⟩

set_option maxHeartbeats 2000000 in
theorem orderOf_any (z : Int) (w : World) :
    Calls Try.prog 10 #[.int .i64 z] w fun e w' => (∃ k d p, e = .returned (.tuple #[.agg #[.int .i64 k, .int .i64 d, .int .i64 p], .int .i64 (roE z)]) ∧ roO z = (k, d, p)) ∧ Below w.heap.size w w' := by
  cases hw : betweenB 0 65535 z
  · have hr : roE z = 2 := roE_out (of_decide_eq_false hw)
    have HO : Hid (roO z = (0, 0, 0)) := roO_bad hr (by decide)
    rw [hr]
    clear hr
    go_enter Try.func10, Try.ntmps10
    go_wp2_with fail
    refine (in_any _ _ _ _).mono ?_
    rintro e w1 ⟨rfl, rfl⟩
    rw [hw]
    go_wp2
    refine bodyPost_ret (v := .tuple #[.agg #[.int .i64 0, .int .i64 0, .int .i64 0], .int .i64 2]) (by simp [results, Try.results10, go_sem]) rfl ⟨⟨_, _, _, rfl, HO.out⟩, ?_⟩
    exact bel_alloc (Below.refl _ _) _
  have hz := of_between hw
  have hway := rof_way hz
  obtain ⟨h0, h1⟩ := hz
  obtain ⟨eo, heo⟩ : ∃ eo, oE (z % 4) (z / 4 % 8) (z / 32) = eo := ⟨_, rfl⟩
  obtain ⟨xo, hxo⟩ : ∃ xo, oW (z % 4) (z / 4 % 8) (z / 32) = xo := ⟨_, rfl⟩
  rw [heo] at hway
  have HW : Hid _ := hway
  have HE : Hid _ := heo
  have HX : Hid _ := hxo
  clear hway heo hxo
  go_enter Try.func10, Try.ntmps10
  go_wp2_with fail
  refine (in_any _ _ _ _).mono ?_
  rintro e w1 ⟨rfl, rfl⟩
  rw [hw]
  go_wp2_with fail
  refine (orderWord_any _ _ _ _).mono ?_
  rintro e w1 ⟨rfl, b1⟩
  rw [HE.out, HX.out]
  have X0 := (Box.newAt (n := w.heap.size) (by simp) 23 #[.int .i64 0, .int .i64 0, .int .i64 0]).past (.cells #[.int .i64 (z % 4), .int .i64 (z / 4 % 8), .int .i64 (z / 32)] 23) |>.keep b1
  have X1 := (Box.newAt (w := w.alloc (.cells #[.int .i64 0, .int .i64 0, .int .i64 0] 23)) (n := w.heap.size + 1) (by simp) 23 #[.int .i64 (z % 4), .int .i64 (z / 4 % 8), .int .i64 (z / 32)]).keep b1
  have B1 : Hid (Below w.heap.size w w1) := bel_trans (bel_alloc (bel_alloc (Below.refl _ _) _) _) b1
  clear b1
  obtain ⟨u0, u1, u2, g0, g1, g2, s0⟩ := X0.three
  obtain ⟨q0, q1, q2, -, -, -, s1⟩ := X1.three
  clear X0 X1
  clear HX
  rcases HW.out with ⟨hr, ho, hk⟩ | ⟨hr, ho, hk⟩
  · have HR : Hid _ := hr
    have HO : Hid _ := ho
    have hq : (eo != 0) = true := by simpa using hk
    clear hr ho HW HE hk
    go_wp2
    refine bodyPost_ret (v := .tuple #[.agg #[.int .i64 0, .int .i64 0, .int .i64 0], .int .i64 3]) (by simp [results, Try.results10, go_sem, *]) rfl ⟨⟨_, _, _, by rw [HR.out], HO.out⟩, ?_⟩
    exact bel_set3 (by omega) B1.out _ _ _
  · have HR : Hid _ := hr
    have HO : Hid _ := ho
    clear hr ho HW HE
    subst hk
    go_wp2
    refine bodyPost_ret (v := .tuple #[.agg #[.int .i64 (z % 4), .int .i64 (z / 4 % 8), .int .i64 (z / 32)], .int .i64 0]) (by simp [results, Try.results10, go_sem, *]) rfl ⟨⟨_, _, _, by rw [HR.out], HO.out⟩, ?_⟩
    exact bel_set3 (by omega) B1.out _ _ _

set_option maxHeartbeats 2000000 in
theorem faultOf_any (z : Int) (w : World) :
    Calls Try.prog 12 #[.int .i64 z] w fun e w' => (∃ c d p x, e = .returned (.tuple #[.agg #[.int .i64 c, .int .i64 d, .int .i64 p, .bool x], .int .i64 (rfE z)]) ∧ rfF z = (c, d, p, x)) ∧ Below w.heap.size w w' := by
  cases hw : betweenB 0 65535 z
  · have hr : rfE z = 2 := rfE_out (of_decide_eq_false hw)
    have HO : Hid (rfF z = (0, 0, 0, false)) := rfF_bad hr (by decide)
    rw [hr]
    clear hr
    go_enter Try.func12, Try.ntmps12
    go_wp2_with fail
    refine (in_any _ _ _ _).mono ?_
    rintro e w1 ⟨rfl, rfl⟩
    rw [hw]
    go_wp2
    refine bodyPost_ret (v := .tuple #[.agg #[.int .i64 0, .int .i64 0, .int .i64 0, .bool false], .int .i64 2]) (by simp [results, Try.results12, go_sem]) rfl ⟨⟨_, _, _, _, rfl, HO.out⟩, ?_⟩
    exact bel_alloc (Below.refl _ _) _
  have hz := of_between hw
  have hway := rff_way hz
  obtain ⟨h0, h1⟩ := hz
  obtain ⟨eo, heo⟩ : ∃ eo, fE (z % 8) (z / 8 % 8) (z / 64 % 64) = eo := ⟨_, rfl⟩
  obtain ⟨xo, hxo⟩ : ∃ xo, fW (z % 8) (z / 8 % 8) (z / 64 % 64) (z / 4096 == 1) = xo := ⟨_, rfl⟩
  rw [heo] at hway
  have HW : Hid _ := hway
  have HE : Hid _ := heo
  have HX : Hid _ := hxo
  clear hway heo hxo
  go_enter Try.func12, Try.ntmps12
  go_wp2_with fail
  refine (in_any _ _ _ _).mono ?_
  rintro e w1 ⟨rfl, rfl⟩
  rw [hw]
  go_wp2_with fail
  refine (faultWord_any _ _ _ _ _).mono ?_
  rintro e w1 ⟨rfl, b1⟩
  rw [HE.out, HX.out]
  have X0 := (Box.newAt (n := w.heap.size) (by simp) 25 #[.int .i64 0, .int .i64 0, .int .i64 0, .bool false]).past (.cells #[.int .i64 (z % 8), .int .i64 (z / 8 % 8), .int .i64 (z / 64 % 64), .bool (z / 4096 == 1)] 25) |>.keep b1
  have X1 := (Box.newAt (w := w.alloc (.cells #[.int .i64 0, .int .i64 0, .int .i64 0, .bool false] 25)) (n := w.heap.size + 1) (by simp) 25 #[.int .i64 (z % 8), .int .i64 (z / 8 % 8), .int .i64 (z / 64 % 64), .bool (z / 4096 == 1)]).keep b1
  have B1 : Hid (Below w.heap.size w w1) := bel_trans (bel_alloc (bel_alloc (Below.refl _ _) _) _) b1
  clear b1
  obtain ⟨u0, u1, u2, u3, g0, g1, g2, g3, s0⟩ := X0.four
  obtain ⟨q0, q1, q2, q3, -, -, -, -, s1⟩ := X1.four
  clear X0 X1
  clear HX
  rcases HW.out with ⟨hr, ho, hk | ⟨hk, hx⟩⟩ | ⟨hr, ho, hk, hx⟩
  · have HR : Hid _ := hr
    have HO : Hid _ := ho
    have hq : (eo != 0) = true := by simpa using hk
    clear hr ho HW HE hk
    go_wp2
    refine bodyPost_ret (v := .tuple #[.agg #[.int .i64 0, .int .i64 0, .int .i64 0, .bool false], .int .i64 3]) (by simp [results, Try.results12, go_sem, *]) rfl ⟨⟨_, _, _, _, by rw [HR.out], HO.out⟩, ?_⟩
    exact bel_set4 (by omega) B1.out _ _ _ _
  · have HR : Hid _ := hr
    have HO : Hid _ := ho
    clear hr ho HW HE
    subst hk
    go_wp2
    refine bodyPost_ret (v := .tuple #[.agg #[.int .i64 0, .int .i64 0, .int .i64 0, .bool false], .int .i64 3]) (by simp [results, Try.results12, go_sem, *]) rfl ⟨⟨_, _, _, _, by rw [HR.out], HO.out⟩, ?_⟩
    exact bel_set4 (by omega) B1.out _ _ _ _
  · have HR : Hid _ := hr
    have HO : Hid _ := ho
    clear hr ho HW HE
    subst hk
    go_wp2
    refine bodyPost_ret (v := .tuple #[.agg #[.int .i64 (z % 8), .int .i64 (z / 8 % 8), .int .i64 (z / 64 % 64), .bool (z / 4096 == 1)], .int .i64 0]) (by simp [results, Try.results12, go_sem, *]) rfl ⟨⟨_, _, _, _, by rw [HR.out], HO.out⟩, ?_⟩
    exact bel_set4 (by omega) B1.out _ _ _ _

end Go.Proofs.Ytfcakngfahdhnab
