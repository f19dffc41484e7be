/-
  What ReadOrder, ReadFault answer, and drawbridgeref's OrderOf, FaultOf: the same; none turns memory that was there.
-/
import Derived.Test.YtfcakngfahdhnabWord2
import Derived.Test.YtfcakngfahdhnabBox
namespace Go.Proofs.Ytfcakngfahdhnab
open Go.RowKit

theorem roE_out {z : Int} (h : ¬ (0 ≤ z ∧ z ≤ 65535)) : roE z = 2 := if_neg h
theorem roE_bad {z : Int} (h : 0 ≤ z ∧ z ≤ 65535) (k : ¬ oE (z % 4) (z / 4 % 8) (z / 32) = 0) : roE z = 3 := by rw [roE, if_pos h, if_neg k]
theorem roO_bad {z e : Int} (h : roE z = e) (hn : ¬ e = 0) : roO z = (0, 0, 0) := if_neg (fun x => hn (h.symm.trans x))
theorem roO_ok {z : Int} (h : roE z = 0) : roO z = (z % 4, z / 4 % 8, z / 32) := if_pos h
theorem rfE_out {z : Int} (h : ¬ (0 ≤ z ∧ z ≤ 65535)) : rfE z = 2 := if_neg h
theorem rfE_bad {z : Int} (h : 0 ≤ z ∧ z ≤ 65535) (k : ¬ (fE (z % 8) (z / 8 % 8) (z / 64 % 64) = 0 ∧ z < 8192)) : rfE z = 3 := by rw [rfE, if_pos h, if_neg k]
theorem rfF_bad {z e : Int} (h : rfE z = e) (hn : ¬ e = 0) : rfF z = (0, 0, 0, false) := if_neg (fun x => hn (h.symm.trans x))
theorem rfF_ok {z : Int} (h : rfE z = 0) : rfF z = (z % 8, z / 8 % 8, z / 64 % 64, decide (z / 4096 = 1)) := if_pos h

/-- The project's way: what is read is put, and must be as it was. -/
theorem ro_way {z : Int} (h : 0 ≤ z ∧ z ≤ 65535) :
    (roE z = 3 ∧ roO z = (0, 0, 0) ∧ (¬ oE (z % 4) (z / 4 % 8) (z / 32 % 64) = 0 ∨ (oE (z % 4) (z / 4 % 8) (z / 32 % 64) = 0 ∧ ¬ oW (z % 4) (z / 4 % 8) (z / 32 % 64) = z))) ∨
    (roE z = 0 ∧ roO z = (z % 4, z / 4 % 8, z / 32 % 64) ∧ oE (z % 4) (z / 4 % 8) (z / 32 % 64) = 0 ∧ oW (z % 4) (z / 4 % 8) (z / 32 % 64) = z) := by
  by_cases hs : z < 2048
  · have e : z / 32 % 64 = z / 32 := by omega
    rw [e]
    by_cases hk : oE (z % 4) (z / 4 % 8) (z / 32) = 0
    · have hr := roE_mk h hk
      exact .inr ⟨hr, roO_ok hr, hk, by rw [oW_ok hk]; omega⟩
    · have hr := roE_bad h hk
      exact .inl ⟨hr, roO_bad hr (by decide), .inl hk⟩
  · have hr : roE z = 3 := roE_bad h fun hk => by have := (oE_ok hk).2.2.1; omega
    refine .inl ⟨hr, roO_bad hr (by decide), ?_⟩
    by_cases hk : oE (z % 4) (z / 4 % 8) (z / 32 % 64) = 0
    · exact .inr ⟨hk, by rw [oW_ok hk]; omega⟩
    · exact .inl hk
theorem rf_way {z : Int} (h : 0 ≤ z ∧ z ≤ 65535) :
    (rfE z = 3 ∧ rfF z = (0, 0, 0, false) ∧ (¬ fE (z % 8) (z / 8 % 8) (z / 64 % 64) = 0 ∨ (fE (z % 8) (z / 8 % 8) (z / 64 % 64) = 0 ∧ ¬ fW (z % 8) (z / 8 % 8) (z / 64 % 64) (z / 4096 % 2 == 1) = z))) ∨
    (rfE z = 0 ∧ rfF z = (z % 8, z / 8 % 8, z / 64 % 64, (z / 4096 % 2 == 1)) ∧ fE (z % 8) (z / 8 % 8) (z / 64 % 64) = 0 ∧ fW (z % 8) (z / 8 % 8) (z / 64 % 64) (z / 4096 % 2 == 1) = z) := by
  have hb : (z / 4096 % 2 == 1) = decide (z / 4096 % 2 = 1) := rfl
  rw [hb]
  by_cases hk : fE (z % 8) (z / 8 % 8) (z / 64 % 64) = 0
  · by_cases hs : z < 8192
    · have hr := rfE_mk h hk hs
      have e : z / 4096 % 2 = z / 4096 := by omega
      have hq := rfF_ok hr
      rw [e]
      exact .inr ⟨hr, hq, hk, (f_read hr hq).2⟩
    · have hr : rfE z = 3 := rfE_bad h fun x => hs x.2
      refine .inl ⟨hr, rfF_bad hr (by decide), .inr ⟨hk, ?_⟩⟩
      rw [fW_ok hk]
      rcases fX_cases (decide (z / 4096 % 2 = 1)) with ⟨_, e⟩ | ⟨_, e⟩ <;> rw [e] <;> omega
  · have hr : rfE z = 3 := rfE_bad h fun x => hk x.1
    exact .inl ⟨hr, rfF_bad hr (by decide), .inl hk⟩

set_option maxHeartbeats 2000000 in
theorem readOrder_any (z : Int) (w : World) :
    Calls Try.prog 6 #[.int .i64 z] w fun e w' => (∃ k d p, e = .returned (.tuple #[.agg #[.int .i64 k, .int .i64 d, .int .i64 p], .int .i64 (roE z)]) ∧ roO z = (k, d, p)) ∧ Below w.heap.size w w' := by
  cases hw : betweenB 0 65535 z
  · have hr : roE z = 2 := roE_out (of_decide_eq_false hw)
    have HO : Hid (roO z = (0, 0, 0)) := roO_bad hr (by decide)
    rw [hr]
    clear hr
    go_enter Try.func6, Try.ntmps6
    go_wp2_with fail
    refine (oIsWord_any _ _).mono ?_
    rintro e w1 ⟨rfl, rfl⟩
    rw [hw]
    go_wp2
    refine bodyPost_ret (v := .tuple #[.agg #[.int .i64 0, .int .i64 0, .int .i64 0], .int .i64 2]) (by simp [results, Try.results6, go_sem]) rfl ⟨⟨_, _, _, rfl, HO.out⟩, ?_⟩
    exact bel_alloc (Below.refl _ _) _
  have hz := of_between hw
  have hway := ro_way hz
  obtain ⟨h0, h1⟩ := hz
  obtain ⟨eo, heo⟩ : ∃ eo, oE (z % 4) (z / 4 % 8) (z / 32 % 64) = eo := ⟨_, rfl⟩
  obtain ⟨xo, hxo⟩ : ∃ xo, oW (z % 4) (z / 4 % 8) (z / 32 % 64) = xo := ⟨_, rfl⟩
  rw [heo, hxo] at hway
  have HW : Hid _ := hway
  have HE : Hid _ := heo
  have HX : Hid _ := hxo
  clear hway heo hxo
  go_enter Try.func6, Try.ntmps6
  go_wp2_with fail
  refine (oIsWord_any _ _).mono ?_
  rintro e w1 ⟨rfl, rfl⟩
  rw [hw]
  go_wp2_with fail
  refine (putOrder_any _ _ _ _).mono ?_
  rintro e w1 ⟨rfl, b1⟩
  rw [HE.out, HX.out]
  have X0 := (Box.newAt (n := w.heap.size) (by simp) 23 #[.int .i64 0, .int .i64 0, .int .i64 0]).past (.cells #[.int .i64 (z % 4), .int .i64 (z / 4 % 8), .int .i64 (z / 32 % 64)] 23) |>.keep b1
  have X1 := (Box.newAt (w := w.alloc (.cells #[.int .i64 0, .int .i64 0, .int .i64 0] 23)) (n := w.heap.size + 1) (by simp) 23 #[.int .i64 (z % 4), .int .i64 (z / 4 % 8), .int .i64 (z / 32 % 64)]).keep b1
  have B1 : Hid (Below w.heap.size w w1) := bel_trans (bel_alloc (bel_alloc (Below.refl _ _) _) _) b1
  clear b1
  obtain ⟨u0, u1, u2, g0, g1, g2, s0⟩ := X0.three
  obtain ⟨q0, q1, q2, -, -, -, s1⟩ := X1.three
  clear X0 X1
  rcases HW.out with ⟨hr, ho, hk | ⟨hk, hx⟩⟩ | ⟨hr, ho, hk, hx⟩
  · have HR : Hid _ := hr
    have HO : Hid _ := ho
    have hq : (eo != 0) = true := by simpa using hk
    clear hr ho HW HE HX hk
    go_wp2
    refine bodyPost_ret (v := .tuple #[.agg #[.int .i64 0, .int .i64 0, .int .i64 0], .int .i64 3]) (by simp [results, Try.results6, go_sem, *]) rfl ⟨⟨_, _, _, by rw [HR.out], HO.out⟩, ?_⟩
    exact bel_set3 (by omega) B1.out _ _ _
  · have HR : Hid _ := hr
    have HO : Hid _ := ho
    have hq : (xo != z) = true := by simpa using hx
    clear hr ho HW HE HX hx
    subst hk
    go_wp2
    refine bodyPost_ret (v := .tuple #[.agg #[.int .i64 0, .int .i64 0, .int .i64 0], .int .i64 3]) (by simp [results, Try.results6, go_sem, *]) rfl ⟨⟨_, _, _, by rw [HR.out], HO.out⟩, ?_⟩
    exact bel_set3 (by omega) B1.out _ _ _
  · have HR : Hid _ := hr
    have HO : Hid _ := ho
    clear hr ho HW HE HX
    subst hk hx
    go_wp2
    refine bodyPost_ret (v := .tuple #[.agg #[.int .i64 (xo % 4), .int .i64 (xo / 4 % 8), .int .i64 (xo / 32 % 64)], .int .i64 0]) (by simp [results, Try.results6, go_sem, *]) rfl ⟨⟨_, _, _, by rw [HR.out], HO.out⟩, ?_⟩
    exact bel_set3 (by omega) B1.out _ _ _
end Go.Proofs.Ytfcakngfahdhnab
