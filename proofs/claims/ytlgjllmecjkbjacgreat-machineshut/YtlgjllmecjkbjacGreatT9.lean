/-
  Laid together: HStore, Late.
-/
import Derived.Test.YtlgjllmecjkbjacGreatT8
import Derived.Deep.RegionHeld3
/-
  Package hart: store: a register into a word of memory, or not; nothing that was there turns.
-/
namespace Go.Proofs.YtlgjllmecjkbjacGreat
open Go.RowKit
section
open Go
variable {P : Program} {ops : Array Oper} {Q : Exit → Act → World → Prop} {md : Region.Mode} {S : World → Prop}
theorem wpHeld_twoL {i j : Nat} {o o2 : Oper} {n : Nat} {listed : Array Bool} {a : Act} {w : World} (hr : Region.ready md ops listed = [i, j]) (ho : opL ops.toList i = some o) (ho2 : opL ops.toList j = some o2)
    (h : ∀ K' : Act → World → Prop, Shut (∀ a w, S w → (S w → wpAnyH P md ops Q S n (listed.setIfInBounds i true) a w) → K' a w) → if Region.wanted o (yielded ops a.tmps) = true then Oper.wp P o a w K' Q else K' (a.put o.dst undef) w)
    (h2 : ∀ K' : Act → World → Prop, Shut (∀ a w, S w → (S w → wpAnyH P md ops Q S n (listed.setIfInBounds j true) a w) → K' a w) → if Region.wanted o2 (yielded ops a.tmps) = true then Oper.wp P o2 a w K' Q else K' (a.put o2.dst undef) w) :
    wpAnyH P md ops Q S (n + 1) listed a w := wpAnyH_ready hr (by simp) (AllReadyH.cons (opL_spec ho) h (AllReadyH.cons (opL_spec ho2) h2 AllReadyH.nil))
end
theorem write_at (v : Value) (zs : List Int) (k x : Int) (w : World) (h : Sl w v zs) (hk : chk zs = 0) (hx : wordB x = true) :
    Calls Tryz.prog 153 #[.agg #[v], .int .i64 k, .int .i64 x] w fun e w' => ∃ a n c, e = .returned (.tuple #[.agg #[.slice a n c], .int .i64 (if placeB k = true then 0 else 4)]) ∧ (placeB k = true → Sl w' (.slice a n c) (zs.set k.toNat x) ∧ Fresh w.heap.size (.slice a n c)) ∧ Below w.heap.size w w' := by
  by_cases hp : placeB k = true
  · refine (write_okN v zs k x w h hk hp hx).mono ?_
    rintro e w' ⟨v', rfl, h1, hf, h2⟩
    have h3 := h1
    obtain ⟨a, c, rfl, -⟩ := h1
    exact ⟨a, _, c, by rw [if_pos hp], fun _ => ⟨h3, hf⟩, h2⟩
  · refine (write_err v zs k x w h (fun q => hp q.2.1)).mono ?_
    rintro e w' ⟨rfl, h2⟩
    refine ⟨none, 0, 0, ?_, fun q => absurd q hp, h2⟩
    rw [if_neg hp, wrE, if_pos hk, if_neg hp]
set_option maxRecDepth 10000 in
set_option maxHeartbeats 4000000 in
theorem store_any (am : Option Addr) (nm cm : Nat) (zs : List Int) (pc : Int) (rs : List Int) (mo ba op oh ot fe fp fh ft : Int) (st lo : Bool) (ca : Option Addr) (ck cc : Nat) (k x y i : Int) (w : World) (hs : Sl w (.slice am nm cm) zs) (hz : chk zs = 0) (h8 : rs.length = 8) (hw : ∀ j, j < 8 → 0 ≤ nth rs j ∧ nth rs j ≤ 65535) (hx : 0 ≤ x ∧ x ≤ 7) (hy : 0 ≤ y ∧ y ≤ 7) (hi : 0 ≤ i ∧ i ≤ 63) :
    Calls Tryz.prog 143 #[.agg #[.slice am nm cm, .int .i64 pc, .int .i64 (nth rs 0), .int .i64 (nth rs 1), .int .i64 (nth rs 2), .int .i64 (nth rs 3), .int .i64 (nth rs 4), .int .i64 (nth rs 5), .int .i64 (nth rs 6), .int .i64 (nth rs 7), .int .i64 mo, .int .i64 ba, .slice ca ck cc, .int .i64 op, .int .i64 oh, .int .i64 ot, .bool st, .int .i64 fe, .int .i64 fp, .int .i64 fh, .int .i64 ft, .bool lo], .agg #[.int .i64 k, .int .i64 x, .int .i64 y, .int .i64 i]] w fun e w' =>
      ∃ a1 n1 c1, e = .returned (.tuple #[.agg #[.slice a1 n1 c1, .int .i64 pc, .int .i64 (nth rs 0), .int .i64 (nth rs 1), .int .i64 (nth rs 2), .int .i64 (nth rs 3), .int .i64 (nth rs 4), .int .i64 (nth rs 5), .int .i64 (nth rs 6), .int .i64 (nth rs 7), .int .i64 mo, .int .i64 ba, .slice ca ck cc, .int .i64 op, .int .i64 oh, .int .i64 ot, .bool st, .int .i64 fe, .int .i64 fp, .int .i64 fh, .int .i64 ft, .bool lo], .bool (decide (nth rs y.toNat + i ≤ 511))]) ∧ (nth rs y.toNat + i ≤ 511 → Sl w' (.slice a1 n1 c1) (zs.set (nth rs y.toNat + i).toNat (nth rs x.toNat)) ∧ Fresh w.heap.size (.slice a1 n1 c1)) ∧ Below w.heap.size w w' := by
  have HM : Hid (Sl w (.slice am nm cm) zs) := hs
  have HZ : Hid (chk zs = 0) := hz
  obtain ⟨hx0, hx1⟩ := hx
  obtain ⟨hy0, hy1⟩ := hy
  obtain ⟨hi0, hi1⟩ := hi
  have hx9 : x < 8 := by omega
  have hy9 : y < 8 := by omega
  have hx8 : x.toNat < 8 := by omega
  have hy8 : y.toNat < 8 := by omega
  have H8 : Hid (rs.length = 8) := h8
  have rx := hw x.toNat hx8
  have ry := hw y.toNat hy8
  obtain ⟨one, h1⟩ : ∃ one, nth rs x.toNat = one := ⟨_, rfl⟩
  obtain ⟨two, h2⟩ : ∃ two, nth rs y.toNat = two := ⟨_, rfl⟩
  have H1 : Hid (nth rs x.toNat = one) := h1
  have H2 : Hid (nth rs y.toNat = two) := h2
  rw [h1] at rx
  rw [h2] at ry
  rw [h1, h2]
  have HX : Hid (wordB one = true) := decide_eq_true rx
  have HP : Hid (placeB (two + i) = decide (two + i ≤ 511)) := by
    show _ = _
    unfold placeB
    by_cases e : two + i ≤ 511
    · rw [decide_eq_true e, decide_eq_true (by omega)]
    · rw [decide_eq_false e, decide_eq_false (by omega)]
  obtain ⟨ee, he1⟩ : ∃ ee : Int, (if placeB (two + i) = true then (0 : Int) else 4) = ee := ⟨_, rfl⟩
  have HE1 : Hid _ := he1
  have HOK : Hid ((ee == 0) = decide (two + i ≤ 511)) := by
    show _ = _
    rw [← he1, HP.out]
    by_cases e : two + i ≤ 511
    · rw [decide_eq_true e]; rfl
    · rw [decide_eq_false e]; rfl
  obtain ⟨ok, hok⟩ : ∃ ok, (ee == 0) = ok := ⟨_, rfl⟩
  have hwr : IntKind.i64.wrap (two + i) = two + i := wraps_i64 _ (by omega) (by omega)
  clear he1 h1 h2 hs h8 hw hz
  go_enter Tryz.func143, Tryz.ntmps143
  go_upto_region 1 with fail
  have X0 := ((Box.newAt (w := w) (n := w.heap.size) rfl 135 #[.slice am nm cm, .int .i64 pc, .int .i64 (nth rs 0), .int .i64 (nth rs 1), .int .i64 (nth rs 2), .int .i64 (nth rs 3), .int .i64 (nth rs 4), .int .i64 (nth rs 5), .int .i64 (nth rs 6), .int .i64 (nth rs 7), .int .i64 mo, .int .i64 ba, .slice ca ck cc, .int .i64 op, .int .i64 oh, .int .i64 ot, .bool st, .int .i64 fe, .int .i64 fp, .int .i64 fh, .int .i64 ft, .bool lo]).past (.cells #[.int .i64 k, .int .i64 x, .int .i64 y, .int .i64 i] 115)).past (.cells #[.slice none 0 0, .int .i64 0, .int .i64 0, .int .i64 0, .int .i64 0, .int .i64 0, .int .i64 0, .int .i64 0, .int .i64 0, .int .i64 0, .int .i64 0, .int .i64 0, .slice none 0 0, .int .i64 0, .int .i64 0, .int .i64 0, .bool false, .int .i64 0, .int .i64 0, .int .i64 0, .int .i64 0, .bool false] 135)
  have X1 := (Box.newAt (w := w.alloc (.cells #[.slice am nm cm, .int .i64 pc, .int .i64 (nth rs 0), .int .i64 (nth rs 1), .int .i64 (nth rs 2), .int .i64 (nth rs 3), .int .i64 (nth rs 4), .int .i64 (nth rs 5), .int .i64 (nth rs 6), .int .i64 (nth rs 7), .int .i64 mo, .int .i64 ba, .slice ca ck cc, .int .i64 op, .int .i64 oh, .int .i64 ot, .bool st, .int .i64 fe, .int .i64 fp, .int .i64 fh, .int .i64 ft, .bool lo] 135)) (n := w.heap.size + 1) (by simp) 115 #[.int .i64 k, .int .i64 x, .int .i64 y, .int .i64 i]).past (.cells #[.slice none 0 0, .int .i64 0, .int .i64 0, .int .i64 0, .int .i64 0, .int .i64 0, .int .i64 0, .int .i64 0, .int .i64 0, .int .i64 0, .int .i64 0, .int .i64 0, .slice none 0 0, .int .i64 0, .int .i64 0, .int .i64 0, .bool false, .int .i64 0, .int .i64 0, .int .i64 0, .int .i64 0, .bool false] 135)
  have X2 := Box.newAt (w := (w.alloc (.cells #[.slice am nm cm, .int .i64 pc, .int .i64 (nth rs 0), .int .i64 (nth rs 1), .int .i64 (nth rs 2), .int .i64 (nth rs 3), .int .i64 (nth rs 4), .int .i64 (nth rs 5), .int .i64 (nth rs 6), .int .i64 (nth rs 7), .int .i64 mo, .int .i64 ba, .slice ca ck cc, .int .i64 op, .int .i64 oh, .int .i64 ot, .bool st, .int .i64 fe, .int .i64 fp, .int .i64 fh, .int .i64 ft, .bool lo] 135)).alloc (.cells #[.int .i64 k, .int .i64 x, .int .i64 y, .int .i64 i] 115)) (n := w.heap.size + 1 + 1) (by simp) 135 #[.slice none 0 0, .int .i64 0, .int .i64 0, .int .i64 0, .int .i64 0, .int .i64 0, .int .i64 0, .int .i64 0, .int .i64 0, .int .i64 0, .int .i64 0, .int .i64 0, .slice none 0 0, .int .i64 0, .int .i64 0, .int .i64 0, .bool false, .int .i64 0, .int .i64 0, .int .i64 0, .int .i64 0, .bool false]
  have B0 : Hid (Below w.heap.size w _) := bel_alloc (bel_alloc (bel_alloc (Below.refl w.heap.size w) (.cells #[.slice am nm cm, .int .i64 pc, .int .i64 (nth rs 0), .int .i64 (nth rs 1), .int .i64 (nth rs 2), .int .i64 (nth rs 3), .int .i64 (nth rs 4), .int .i64 (nth rs 5), .int .i64 (nth rs 6), .int .i64 (nth rs 7), .int .i64 mo, .int .i64 ba, .slice ca ck cc, .int .i64 op, .int .i64 oh, .int .i64 ot, .bool st, .int .i64 fe, .int .i64 fp, .int .i64 fh, .int .i64 ft, .bool lo] 135)) (.cells #[.int .i64 k, .int .i64 x, .int .i64 y, .int .i64 i] 115)) (.cells #[.slice none 0 0, .int .i64 0, .int .i64 0, .int .i64 0, .int .i64 0, .int .i64 0, .int .i64 0, .int .i64 0, .int .i64 0, .int .i64 0, .int .i64 0, .int .i64 0, .slice none 0 0, .int .i64 0, .int .i64 0, .int .i64 0, .bool false, .int .i64 0, .int .i64 0, .int .i64 0, .int .i64 0, .bool false] 135)
  have W3 : Hid ((((w.alloc (.cells #[.slice am nm cm, .int .i64 pc, .int .i64 (nth rs 0), .int .i64 (nth rs 1), .int .i64 (nth rs 2), .int .i64 (nth rs 3), .int .i64 (nth rs 4), .int .i64 (nth rs 5), .int .i64 (nth rs 6), .int .i64 (nth rs 7), .int .i64 mo, .int .i64 ba, .slice ca ck cc, .int .i64 op, .int .i64 oh, .int .i64 ot, .bool st, .int .i64 fe, .int .i64 fp, .int .i64 fh, .int .i64 ft, .bool lo] 135)).alloc (.cells #[.int .i64 k, .int .i64 x, .int .i64 y, .int .i64 i] 115)).alloc (.cells #[.slice none 0 0, .int .i64 0, .int .i64 0, .int .i64 0, .int .i64 0, .int .i64 0, .int .i64 0, .int .i64 0, .int .i64 0, .int .i64 0, .int .i64 0, .int .i64 0, .slice none 0 0, .int .i64 0, .int .i64 0, .int .i64 0, .bool false, .int .i64 0, .int .i64 0, .int .i64 0, .int .i64 0, .bool false] 135)).heap.size = w.heap.size + 1 + 1 + 1) := by show _ = _; simp
  generalize (((w.alloc (.cells #[.slice am nm cm, .int .i64 pc, .int .i64 (nth rs 0), .int .i64 (nth rs 1), .int .i64 (nth rs 2), .int .i64 (nth rs 3), .int .i64 (nth rs 4), .int .i64 (nth rs 5), .int .i64 (nth rs 6), .int .i64 (nth rs 7), .int .i64 mo, .int .i64 ba, .slice ca ck cc, .int .i64 op, .int .i64 oh, .int .i64 ot, .bool st, .int .i64 fe, .int .i64 fp, .int .i64 fh, .int .i64 ft, .bool lo] 135)).alloc (.cells #[.int .i64 k, .int .i64 x, .int .i64 y, .int .i64 i] 115)).alloc (.cells #[.slice none 0 0, .int .i64 0, .int .i64 0, .int .i64 0, .int .i64 0, .int .i64 0, .int .i64 0, .int .i64 0, .int .i64 0, .int .i64 0, .int .i64 0, .int .i64 0, .slice none 0 0, .int .i64 0, .int .i64 0, .int .i64 0, .bool false, .int .i64 0, .int .i64 0, .int .i64 0, .int .i64 0, .bool false] 135)) = W at *
  refine wp_region_held_drew (S := fun w' => Below W.heap.size W w') (by kernel_rfl) (Below.drew (Below.refl _ _)) (fun hHeld => ?_)
  refine wpHeld_takeL (i := 0) (v := ?_) rfl (by kernel_rfl) (by kernel_rfl) (by kernel_rfl) (fun _ _ _ h => h) (Or.inl ⟨by kernel_rfl, ?_⟩) (by assumption) ?_
  rotate_left 1
  focus (intro wz hSz; (try dsimp only at hSz); (obtain ⟨⟨q0, q1, q2, q3, q4, q5, q6, q7, q8, q9⟩, ⟨g0, g1, g2, g3, g4, g5, g6, g7, g8, g9, g10, g11⟩, s0⟩ := (X0.keep hSz).state); (obtain ⟨i0, i1, i2, i3, -, -, -, -, s1⟩ := (X1.keep hSz).four); (have gx := (X0.keep hSz).reg hx8); (rw [H1.out] at gx); (have gy := (X0.keep hSz).reg hy8); (rw [H2.out] at gy); go_simp; (try with_reducible rfl))
  simp only [Act.put, List.setIfInBounds_toArray, List.set_cons_zero, List.set_cons_succ]
  refine wpHeld_takeL (i := 1) (v := ?_) rfl (by kernel_rfl) (by kernel_rfl) (by kernel_rfl) (fun _ _ _ h => h) (Or.inl ⟨by kernel_rfl, ?_⟩) (by assumption) ?_
  rotate_left 1
  focus (intro wz hSz; (try dsimp only at hSz); (obtain ⟨⟨q0, q1, q2, q3, q4, q5, q6, q7, q8, q9⟩, ⟨g0, g1, g2, g3, g4, g5, g6, g7, g8, g9, g10, g11⟩, s0⟩ := (X0.keep hSz).state); (obtain ⟨i0, i1, i2, i3, -, -, -, -, s1⟩ := (X1.keep hSz).four); (have gx := (X0.keep hSz).reg hx8); (rw [H1.out] at gx); (have gy := (X0.keep hSz).reg hy8); (rw [H2.out] at gy); go_simp; (try with_reducible rfl))
  simp only [Act.put, List.setIfInBounds_toArray, List.set_cons_zero, List.set_cons_succ]
  refine wpHeld_takeL (i := 2) (v := ?_) rfl (by kernel_rfl) (by kernel_rfl) (by kernel_rfl) (fun _ _ _ h => h) (Or.inl ⟨by kernel_rfl, ?_⟩) (by assumption) ?_
  rotate_left 1
  focus (intro wz hSz; (try dsimp only at hSz); (obtain ⟨⟨q0, q1, q2, q3, q4, q5, q6, q7, q8, q9⟩, ⟨g0, g1, g2, g3, g4, g5, g6, g7, g8, g9, g10, g11⟩, s0⟩ := (X0.keep hSz).state); (obtain ⟨i0, i1, i2, i3, -, -, -, -, s1⟩ := (X1.keep hSz).four); (have gx := (X0.keep hSz).reg hx8); (rw [H1.out] at gx); (have gy := (X0.keep hSz).reg hy8); (rw [H2.out] at gy); go_simp; (try with_reducible rfl))
  simp only [Act.put, List.setIfInBounds_toArray, List.set_cons_zero, List.set_cons_succ]
  refine wpHeld_takeL (i := 3) (v := ?_) rfl (by kernel_rfl) (by kernel_rfl) (by kernel_rfl) (fun _ _ _ h => h) (Or.inl ⟨by kernel_rfl, ?_⟩) (by assumption) ?_
  rotate_left 1
  focus (intro wz hSz; (try dsimp only at hSz); (obtain ⟨⟨q0, q1, q2, q3, q4, q5, q6, q7, q8, q9⟩, ⟨g0, g1, g2, g3, g4, g5, g6, g7, g8, g9, g10, g11⟩, s0⟩ := (X0.keep hSz).state); (obtain ⟨i0, i1, i2, i3, -, -, -, -, s1⟩ := (X1.keep hSz).four); (have gx := (X0.keep hSz).reg hx8); (rw [H1.out] at gx); (have gy := (X0.keep hSz).reg hy8); (rw [H2.out] at gy); go_simp; (try with_reducible rfl))
  simp only [Act.put, List.setIfInBounds_toArray, List.set_cons_zero, List.set_cons_succ]
  refine wpHeld_takeL (i := 4) (v := ?_) rfl (by kernel_rfl) (by kernel_rfl) (by kernel_rfl) (fun _ _ _ h => h) (Or.inl ⟨by kernel_rfl, ?_⟩) (by assumption) ?_
  rotate_left 1
  focus (intro wz hSz; (try dsimp only at hSz); (obtain ⟨⟨q0, q1, q2, q3, q4, q5, q6, q7, q8, q9⟩, ⟨g0, g1, g2, g3, g4, g5, g6, g7, g8, g9, g10, g11⟩, s0⟩ := (X0.keep hSz).state); (obtain ⟨i0, i1, i2, i3, -, -, -, -, s1⟩ := (X1.keep hSz).four); (have gx := (X0.keep hSz).reg hx8); (rw [H1.out] at gx); (have gy := (X0.keep hSz).reg hy8); (rw [H2.out] at gy); go_simp; (try with_reducible rfl))
  simp only [Act.put, List.setIfInBounds_toArray, List.set_cons_zero, List.set_cons_succ]
  refine wpHeld_takeL (i := 5) (v := ?_) rfl (by kernel_rfl) (by kernel_rfl) (by kernel_rfl) (fun _ _ _ h => h) (Or.inl ⟨by kernel_rfl, ?_⟩) (by assumption) ?_
  rotate_left 1
  focus (intro wz hSz; (try dsimp only at hSz); (obtain ⟨⟨q0, q1, q2, q3, q4, q5, q6, q7, q8, q9⟩, ⟨g0, g1, g2, g3, g4, g5, g6, g7, g8, g9, g10, g11⟩, s0⟩ := (X0.keep hSz).state); (obtain ⟨i0, i1, i2, i3, -, -, -, -, s1⟩ := (X1.keep hSz).four); (have gx := (X0.keep hSz).reg hx8); (rw [H1.out] at gx); (have gy := (X0.keep hSz).reg hy8); (rw [H2.out] at gy); go_simp; (try with_reducible rfl))
  simp only [Act.put, List.setIfInBounds_toArray, List.set_cons_zero, List.set_cons_succ]
  refine wpHeld_takeL (i := 6) (v := ?_) rfl (by kernel_rfl) (by kernel_rfl) (by kernel_rfl) (fun _ _ _ h => h) (Or.inl ⟨by kernel_rfl, ?_⟩) (by assumption) ?_
  rotate_left 1
  focus (intro wz hSz; (try dsimp only at hSz); (obtain ⟨⟨q0, q1, q2, q3, q4, q5, q6, q7, q8, q9⟩, ⟨g0, g1, g2, g3, g4, g5, g6, g7, g8, g9, g10, g11⟩, s0⟩ := (X0.keep hSz).state); (obtain ⟨i0, i1, i2, i3, -, -, -, -, s1⟩ := (X1.keep hSz).four); (have gx := (X0.keep hSz).reg hx8); (rw [H1.out] at gx); (have gy := (X0.keep hSz).reg hy8); (rw [H2.out] at gy); go_simp; (try with_reducible rfl))
  simp only [Act.put, List.setIfInBounds_toArray, List.set_cons_zero, List.set_cons_succ]
  refine wpHeld_takeL (i := 7) (v := ?_) rfl (by kernel_rfl) (by kernel_rfl) (by kernel_rfl) (fun _ _ _ h => h) (Or.inl ⟨by kernel_rfl, ?_⟩) (by assumption) ?_
  rotate_left 1
  focus (intro wz hSz; (try dsimp only at hSz); (obtain ⟨⟨q0, q1, q2, q3, q4, q5, q6, q7, q8, q9⟩, ⟨g0, g1, g2, g3, g4, g5, g6, g7, g8, g9, g10, g11⟩, s0⟩ := (X0.keep hSz).state); (obtain ⟨i0, i1, i2, i3, -, -, -, -, s1⟩ := (X1.keep hSz).four); (have gx := (X0.keep hSz).reg hx8); (rw [H1.out] at gx); (have gy := (X0.keep hSz).reg hy8); (rw [H2.out] at gy); go_simp; (try with_reducible rfl))
  simp only [Act.put, List.setIfInBounds_toArray, List.set_cons_zero, List.set_cons_succ]
  refine wpHeld_takeL (i := 8) (v := ?_) rfl (by kernel_rfl) (by kernel_rfl) (by kernel_rfl) (fun _ _ _ h => h) (Or.inl ⟨by kernel_rfl, ?_⟩) (by assumption) ?_
  rotate_left 1
  focus (intro wz hSz; (try dsimp only at hSz); (obtain ⟨⟨q0, q1, q2, q3, q4, q5, q6, q7, q8, q9⟩, ⟨g0, g1, g2, g3, g4, g5, g6, g7, g8, g9, g10, g11⟩, s0⟩ := (X0.keep hSz).state); (obtain ⟨i0, i1, i2, i3, -, -, -, -, s1⟩ := (X1.keep hSz).four); (have gx := (X0.keep hSz).reg hx8); (rw [H1.out] at gx); (have gy := (X0.keep hSz).reg hy8); (rw [H2.out] at gy); go_simp; (try with_reducible rfl))
  simp only [Act.put, List.setIfInBounds_toArray, List.set_cons_zero, List.set_cons_succ]
  refine wpHeld_takeL (i := 9) (v := ?_) rfl (by kernel_rfl) (by kernel_rfl) (by kernel_rfl) (fun _ _ _ h => h) (Or.inl ⟨by kernel_rfl, ?_⟩) (by assumption) ?_
  rotate_left 1
  focus (intro wz hSz; (try dsimp only at hSz); (obtain ⟨⟨q0, q1, q2, q3, q4, q5, q6, q7, q8, q9⟩, ⟨g0, g1, g2, g3, g4, g5, g6, g7, g8, g9, g10, g11⟩, s0⟩ := (X0.keep hSz).state); (obtain ⟨i0, i1, i2, i3, -, -, -, -, s1⟩ := (X1.keep hSz).four); (have gx := (X0.keep hSz).reg hx8); (rw [H1.out] at gx); (have gy := (X0.keep hSz).reg hy8); (rw [H2.out] at gy); go_simp; (try with_reducible rfl))
  simp only [Act.put, List.setIfInBounds_toArray, List.set_cons_zero, List.set_cons_succ]
  refine wpHeld_takeL (i := 10) (v := ?_) rfl (by kernel_rfl) (by kernel_rfl) (by kernel_rfl) (fun _ _ _ h => h) (Or.inl ⟨by kernel_rfl, ?_⟩) (by assumption) ?_
  rotate_left 1
  focus (intro wz hSz; (try dsimp only at hSz); (obtain ⟨⟨q0, q1, q2, q3, q4, q5, q6, q7, q8, q9⟩, ⟨g0, g1, g2, g3, g4, g5, g6, g7, g8, g9, g10, g11⟩, s0⟩ := (X0.keep hSz).state); (obtain ⟨i0, i1, i2, i3, -, -, -, -, s1⟩ := (X1.keep hSz).four); (have gx := (X0.keep hSz).reg hx8); (rw [H1.out] at gx); (have gy := (X0.keep hSz).reg hy8); (rw [H2.out] at gy); go_simp; (try with_reducible rfl))
  simp only [Act.put, List.setIfInBounds_toArray, List.set_cons_zero, List.set_cons_succ]
  refine wpHeld_takeL (i := 11) (v := ?_) rfl (by kernel_rfl) (by kernel_rfl) (by kernel_rfl) (fun _ _ _ h => h) (Or.inl ⟨by kernel_rfl, ?_⟩) (by assumption) ?_
  rotate_left 1
  focus (intro wz hSz; (try dsimp only at hSz); (obtain ⟨⟨q0, q1, q2, q3, q4, q5, q6, q7, q8, q9⟩, ⟨g0, g1, g2, g3, g4, g5, g6, g7, g8, g9, g10, g11⟩, s0⟩ := (X0.keep hSz).state); (obtain ⟨i0, i1, i2, i3, -, -, -, -, s1⟩ := (X1.keep hSz).four); (have gx := (X0.keep hSz).reg hx8); (rw [H1.out] at gx); (have gy := (X0.keep hSz).reg hy8); (rw [H2.out] at gy); go_simp; (try with_reducible rfl))
  simp only [Act.put, List.setIfInBounds_toArray, List.set_cons_zero, List.set_cons_succ]
  refine wpHeld_takeL (i := 12) (v := ?_) rfl (by kernel_rfl) (by kernel_rfl) (by kernel_rfl) (fun _ _ _ h => h) (Or.inl ⟨by kernel_rfl, ?_⟩) (by assumption) ?_
  rotate_left 1
  focus (intro wz hSz; (try dsimp only at hSz); (obtain ⟨⟨q0, q1, q2, q3, q4, q5, q6, q7, q8, q9⟩, ⟨g0, g1, g2, g3, g4, g5, g6, g7, g8, g9, g10, g11⟩, s0⟩ := (X0.keep hSz).state); (obtain ⟨i0, i1, i2, i3, -, -, -, -, s1⟩ := (X1.keep hSz).four); (have gx := (X0.keep hSz).reg hx8); (rw [H1.out] at gx); (have gy := (X0.keep hSz).reg hy8); (rw [H2.out] at gy); go_simp; (try with_reducible rfl))
  simp only [Act.put, List.setIfInBounds_toArray, List.set_cons_zero, List.set_cons_succ]
  refine wpHeld_takeL (i := 13) (v := ?_) rfl (by kernel_rfl) (by kernel_rfl) (by kernel_rfl) (fun _ _ _ h => h) (Or.inl ⟨by kernel_rfl, ?_⟩) (by assumption) ?_
  rotate_left 1
  focus (intro wz hSz; (try dsimp only at hSz); (obtain ⟨⟨q0, q1, q2, q3, q4, q5, q6, q7, q8, q9⟩, ⟨g0, g1, g2, g3, g4, g5, g6, g7, g8, g9, g10, g11⟩, s0⟩ := (X0.keep hSz).state); (obtain ⟨i0, i1, i2, i3, -, -, -, -, s1⟩ := (X1.keep hSz).four); (have gx := (X0.keep hSz).reg hx8); (rw [H1.out] at gx); (have gy := (X0.keep hSz).reg hy8); (rw [H2.out] at gy); go_simp; (try with_reducible rfl))
  simp only [Act.put, List.setIfInBounds_toArray, List.set_cons_zero, List.set_cons_succ]
  refine wpHeld_takeL (i := 14) (v := ?_) rfl (by kernel_rfl) (by kernel_rfl) (by kernel_rfl) (fun _ _ _ h => h) (Or.inl ⟨by kernel_rfl, ?_⟩) (by assumption) ?_
  rotate_left 1
  focus (intro wz hSz; (try dsimp only at hSz); (obtain ⟨⟨q0, q1, q2, q3, q4, q5, q6, q7, q8, q9⟩, ⟨g0, g1, g2, g3, g4, g5, g6, g7, g8, g9, g10, g11⟩, s0⟩ := (X0.keep hSz).state); (obtain ⟨i0, i1, i2, i3, -, -, -, -, s1⟩ := (X1.keep hSz).four); (have gx := (X0.keep hSz).reg hx8); (rw [H1.out] at gx); (have gy := (X0.keep hSz).reg hy8); (rw [H2.out] at gy); go_simp; (try with_reducible rfl))
  simp only [Act.put, List.setIfInBounds_toArray, List.set_cons_zero, List.set_cons_succ]
  refine wpHeld_twoL (i := 15) (j := 19) (by kernel_rfl) (by rfl) (by rfl) (fun K hK => ?_) (fun K hK => ?_)
  · go_simp
    refine (write_at _ zs (two + i) one _ (HM.out.keep (bel_trans B0.out hHeld)) HZ.out HX.out).mono ?_
    rintro e w5 ⟨a1, n1, c1, rfl, hS1, b5⟩
    rw [HE1.out]
    go_wp2_with fail
    refine hK.out _ _ ?_ (fun hHeld2 => ?_)
    · exact bel_trans hHeld b5
    clear hK K hHeld
    have hHeld := hHeld2
    clear hHeld2
    refine wpHeld_takeL (i := 16) (v := ?_) rfl (by kernel_rfl) (by kernel_rfl) (by kernel_rfl) (fun _ _ _ h => h) (Or.inl ⟨by kernel_rfl, ?_⟩) (by assumption) ?_
    rotate_left 1
    focus (intro wz hSz; (try dsimp only at hSz); go_simp; (try with_reducible rfl))
    simp only [Act.put, List.setIfInBounds_toArray, List.set_cons_zero, List.set_cons_succ]
    refine wpHeld_takeL (i := 17) (v := ?_) rfl (by kernel_rfl) (by kernel_rfl) (by kernel_rfl) (fun _ _ _ h => h) (Or.inl ⟨by kernel_rfl, ?_⟩) (by assumption) ?_
    rotate_left 1
    focus (intro wz hSz; (try dsimp only at hSz); go_simp; (try with_reducible rfl))
    simp only [Act.put, List.setIfInBounds_toArray, List.set_cons_zero, List.set_cons_succ]
    refine wpHeld_takeL (i := 18) (v := ?_) rfl (by kernel_rfl) (by kernel_rfl) (by kernel_rfl) (fun _ _ _ h => h) (Or.inl ⟨by kernel_rfl, ?_⟩) (by assumption) ?_
    rotate_left 1
    focus (intro wz hSz; (try dsimp only at hSz); go_simp; (try with_reducible rfl))
    simp only [Act.put, List.setIfInBounds_toArray, List.set_cons_zero, List.set_cons_succ]
    refine wpHeld_oneL (i := 19) (by kernel_rfl) (by rfl) (fun K hK => ?_)
    go_simp
    refine hK.out _ _ ?_ (fun hHeld2 => ?_)
    · exact bel_alloc hHeld _
    clear hK K hHeld
    have hHeld := hHeld2
    clear hHeld2
    refine wpHeld_oneL (i := 20) (by kernel_rfl) (by rfl) (fun K hK => ?_)
    go_simp
    refine hK.out _ _ ?_ (fun hHeld2 => ?_)
    · exact bel_alloc (bel_trans (Below.drew (Below.refl _ _)) b5) _
    clear hK K hHeld
    have hHeld := hHeld2
    clear hHeld2
    refine wpHeld_takeL (i := 21) (v := ?_) rfl (by kernel_rfl) (by kernel_rfl) (by kernel_rfl) (fun _ _ _ h => h) (Or.inl ⟨by kernel_rfl, ?_⟩) (by assumption) ?_
    rotate_left 1
    focus (intro wz hSz; (try dsimp only at hSz); go_simp; (try with_reducible rfl))
    simp only [Act.put, List.setIfInBounds_toArray, List.set_cons_zero, List.set_cons_succ]
    refine wpAnyH_done (by kernel_rfl) ?_ _
    have X6 := Box.newAt (w := w5) (n := w5.heap.size) rfl 24 #[.slice a1 n1 c1]
    have HS1 : Hid (two + i ≤ 511 → Sl (w5.alloc (.cells #[.slice a1 n1 c1] 24)) (.slice a1 n1 c1) (zs.set (two + i).toNat one) ∧ Fresh (w.heap.size + 1 + 1 + 1) (.slice a1 n1 c1)) := fun q => let h := hS1 (by rw [HP.out]; exact decide_eq_true q); ⟨h.1.keep (bel_alloc (Below.refl _ _) _), h.2.mono (by have := W3.out; simp; omega)⟩
    have hN6 : w.heap.size + 1 + 1 < w5.heap.size := by have := b5.size; have w3 := W3.out; simp at this; omega
    clear hS1 b5
    generalize (w5.alloc (.cells #[.slice a1 n1 c1] 24)) = W5 at *
    generalize w5.heap.size = N6 at *
    have X0 := X0.keep hHeld
    have X2 := X2.keep hHeld
    have B5 : Hid (Below w.heap.size w W5) := bel_trans B0.out hHeld
    clear hHeld B0 X1
    have Y0 := Box.set X0 0 (.slice a1 n1 c1)
    have Y0 : Box (W5.setCell ⟨w.heap.size, 0, none⟩ (.slice a1 n1 c1)) w.heap.size 135 #[.slice a1 n1 c1, .int .i64 pc, .int .i64 (nth rs 0), .int .i64 (nth rs 1), .int .i64 (nth rs 2), .int .i64 (nth rs 3), .int .i64 (nth rs 4), .int .i64 (nth rs 5), .int .i64 (nth rs 6), .int .i64 (nth rs 7), .int .i64 mo, .int .i64 ba, .slice ca ck cc, .int .i64 op, .int .i64 oh, .int .i64 ot, .bool st, .int .i64 fe, .int .i64 fp, .int .i64 fh, .int .i64 ft, .bool lo] := Y0
    have Y2 := X2.other (p := ⟨w.heap.size, 0, none⟩) (by show w.heap.size + 1 + 1 ≠ w.heap.size; omega) (.slice a1 n1 c1)
    have B6 : Hid (Below w.heap.size w (W5.setCell ⟨w.heap.size, 0, none⟩ (.slice a1 n1 c1))) := bel_set (by show w.heap.size ≤ w.heap.size; omega) B5.out _
    have HS6 : Hid (two + i ≤ 511 → Sl (W5.setCell ⟨w.heap.size, 0, none⟩ (.slice a1 n1 c1)) (.slice a1 n1 c1) (zs.set (two + i).toNat one) ∧ Fresh (w.heap.size + 1 + 1 + 1) (.slice a1 n1 c1)) := fun q => ⟨Sl.setSlice (HS1.out q).1 X0.state0.1.1 _, (HS1.out q).2⟩
    obtain ⟨⟨q0, -⟩, -, s0⟩ := X0.state0
    have fx := X0.marksAll
    obtain ⟨u6, -, s6⟩ := X6.one
    go_upto_region 3 with fail
    clear q0 fx s0 u6 s6 X0 X2 X6
    generalize (W5.setCell ⟨w.heap.size, 0, none⟩ (.slice a1 n1 c1)) = W6 at *
    go_wp2_with (first
      | (refine wpList_load_row rfl 135 (.tmp 2) rfl w.heap.size rfl _ _ _ _ Y0 Tryz.underlying135 rfl infoState ?_)
      | (refine wpList_store_row rfl 135 (.tmp 4) (.tmp 29) rfl (w.heap.size + 1 + 1) _ rfl rfl _ _ Y2 infoState rfl (stateOne _ _ _ _ _ _ _ _ _ _ _ _ _ _ _ _ _ _ _ _ _ _ _ _ _ _) ?_))
    have hl := Box.loadState (Y2.setRow #[.slice a1 n1 c1, .int .i64 pc, .int .i64 (nth rs 0), .int .i64 (nth rs 1), .int .i64 (nth rs 2), .int .i64 (nth rs 3), .int .i64 (nth rs 4), .int .i64 (nth rs 5), .int .i64 (nth rs 6), .int .i64 (nth rs 7), .int .i64 mo, .int .i64 ba, .slice ca ck cc, .int .i64 op, .int .i64 oh, .int .i64 ot, .bool st, .int .i64 fe, .int .i64 fp, .int .i64 fh, .int .i64 ft, .bool lo]) rfl
    refine bodyPost_ret (v := .tuple #[.agg #[.slice a1 n1 c1, .int .i64 pc, .int .i64 (nth rs 0), .int .i64 (nth rs 1), .int .i64 (nth rs 2), .int .i64 (nth rs 3), .int .i64 (nth rs 4), .int .i64 (nth rs 5), .int .i64 (nth rs 6), .int .i64 (nth rs 7), .int .i64 mo, .int .i64 ba, .slice ca ck cc, .int .i64 op, .int .i64 oh, .int .i64 ot, .bool st, .int .i64 fe, .int .i64 fp, .int .i64 fh, .int .i64 ft, .bool lo], .bool ok]) (by simp [results, Tryz.results143, asAddr, hl]) rfl ⟨a1, n1, c1, by rw [← HOK.out, hok], fun q => ?_, ?_⟩
    · exact ⟨(HS6.out q).1.otherRow ((HS6.out q).2.ne (by omega)) _, (HS6.out q).2.mono (by omega)⟩
    · exact bel_setRow (by omega) B6.out _
  · go_simp
    refine hK.out _ _ ?_ (fun hHeld2 => ?_)
    · exact bel_alloc hHeld _
    clear hK K hHeld
    have hHeld := hHeld2
    clear hHeld2
    refine wpHeld_oneL (i := 15) (by kernel_rfl) (by rfl) (fun K hK => ?_)
    go_simp
    refine (write_at _ zs (two + i) one _ (HM.out.keep (bel_trans B0.out hHeld)) HZ.out HX.out).mono ?_
    rintro e w5 ⟨a1, n1, c1, rfl, hS1, b5⟩
    rw [HE1.out]
    have X6 := ((Box.newAt (w := W) (n := W.heap.size) rfl 24 #[.slice none 0 0]).drew.keep b5)
    go_wp2_with fail
    refine hK.out _ _ ?_ (fun hHeld2 => ?_)
    · exact bel_trans hHeld b5
    clear hK K hHeld
    have hHeld := hHeld2
    clear hHeld2
    refine wpHeld_takeL (i := 16) (v := ?_) rfl (by kernel_rfl) (by kernel_rfl) (by kernel_rfl) (fun _ _ _ h => h) (Or.inl ⟨by kernel_rfl, ?_⟩) (by assumption) ?_
    rotate_left 1
    focus (intro wz hSz; (try dsimp only at hSz); go_simp; (try with_reducible rfl))
    simp only [Act.put, List.setIfInBounds_toArray, List.set_cons_zero, List.set_cons_succ]
    refine wpHeld_takeL (i := 17) (v := ?_) rfl (by kernel_rfl) (by kernel_rfl) (by kernel_rfl) (fun _ _ _ h => h) (Or.inl ⟨by kernel_rfl, ?_⟩) (by assumption) ?_
    rotate_left 1
    focus (intro wz hSz; (try dsimp only at hSz); go_simp; (try with_reducible rfl))
    simp only [Act.put, List.setIfInBounds_toArray, List.set_cons_zero, List.set_cons_succ]
    refine wpHeld_takeL (i := 18) (v := ?_) rfl (by kernel_rfl) (by kernel_rfl) (by kernel_rfl) (fun _ _ _ h => h) (Or.inl ⟨by kernel_rfl, ?_⟩) (by assumption) ?_
    rotate_left 1
    focus (intro wz hSz; (try dsimp only at hSz); go_simp; (try with_reducible rfl))
    simp only [Act.put, List.setIfInBounds_toArray, List.set_cons_zero, List.set_cons_succ]
    obtain ⟨u6, f6, s6⟩ := X6.one
    refine wpHeld_oneL (i := 20) (by kernel_rfl) (by rfl) (fun K hK => ?_)
    go_simp
    refine hK.out _ _ ?_ (fun hHeld2 => ?_)
    · exact bel_set1 (Nat.le_refl _) hHeld _
    clear hK K hHeld
    have hHeld := hHeld2
    clear hHeld2
    refine wpHeld_takeL (i := 21) (v := ?_) rfl (by kernel_rfl) (by kernel_rfl) (by kernel_rfl) (fun _ _ _ h => h) (Or.inl ⟨by kernel_rfl, ?_⟩) (by assumption) ?_
    rotate_left 1
    focus (intro wz hSz; (try dsimp only at hSz); go_simp; (try with_reducible rfl))
    simp only [Act.put, List.setIfInBounds_toArray, List.set_cons_zero, List.set_cons_succ]
    refine wpAnyH_done (by kernel_rfl) ?_ _
    have X6 := X6.set1 (.slice a1 n1 c1)
    have HS1 : Hid (two + i ≤ 511 → Sl (w5.setCell ⟨W.heap.size, 0, none⟩ (.slice a1 n1 c1)) (.slice a1 n1 c1) (zs.set (two + i).toNat one) ∧ Fresh (w.heap.size + 1 + 1 + 1) (.slice a1 n1 c1)) := fun q => let h := hS1 (by rw [HP.out]; exact decide_eq_true q); ⟨Sl.setSlice h.1 u6 _, h.2.mono (by have := W3.out; simp; omega)⟩
    have hN6 : w.heap.size + 1 + 1 < W.heap.size := by have := W3.out; omega
    clear hS1 b5 u6 f6 s6
    generalize (w5.setCell ⟨W.heap.size, 0, none⟩ (.slice a1 n1 c1)) = W5 at *
    obtain ⟨N6, hWN⟩ : ∃ N6, W.heap.size = N6 := ⟨_, rfl⟩
    have HW6 := hHeld
    rw [hWN] at X6 hN6 ⊢
    clear hWN HW6
    have X0 := X0.keep hHeld
    have X2 := X2.keep hHeld
    have B5 : Hid (Below w.heap.size w W5) := bel_trans B0.out hHeld
    clear hHeld B0 X1
    have Y0 := Box.set X0 0 (.slice a1 n1 c1)
    have Y0 : Box (W5.setCell ⟨w.heap.size, 0, none⟩ (.slice a1 n1 c1)) w.heap.size 135 #[.slice a1 n1 c1, .int .i64 pc, .int .i64 (nth rs 0), .int .i64 (nth rs 1), .int .i64 (nth rs 2), .int .i64 (nth rs 3), .int .i64 (nth rs 4), .int .i64 (nth rs 5), .int .i64 (nth rs 6), .int .i64 (nth rs 7), .int .i64 mo, .int .i64 ba, .slice ca ck cc, .int .i64 op, .int .i64 oh, .int .i64 ot, .bool st, .int .i64 fe, .int .i64 fp, .int .i64 fh, .int .i64 ft, .bool lo] := Y0
    have Y2 := X2.other (p := ⟨w.heap.size, 0, none⟩) (by show w.heap.size + 1 + 1 ≠ w.heap.size; omega) (.slice a1 n1 c1)
    have B6 : Hid (Below w.heap.size w (W5.setCell ⟨w.heap.size, 0, none⟩ (.slice a1 n1 c1))) := bel_set (by show w.heap.size ≤ w.heap.size; omega) B5.out _
    have HS6 : Hid (two + i ≤ 511 → Sl (W5.setCell ⟨w.heap.size, 0, none⟩ (.slice a1 n1 c1)) (.slice a1 n1 c1) (zs.set (two + i).toNat one) ∧ Fresh (w.heap.size + 1 + 1 + 1) (.slice a1 n1 c1)) := fun q => ⟨Sl.setSlice (HS1.out q).1 X0.state0.1.1 _, (HS1.out q).2⟩
    obtain ⟨⟨q0, -⟩, -, s0⟩ := X0.state0
    have fx := X0.marksAll
    obtain ⟨u6, -, s6⟩ := X6.one
    go_upto_region 3 with fail
    clear q0 fx s0 u6 s6 X0 X2 X6
    generalize (W5.setCell ⟨w.heap.size, 0, none⟩ (.slice a1 n1 c1)) = W6 at *
    go_wp2_with (first
      | (refine wpList_load_row rfl 135 (.tmp 2) rfl w.heap.size rfl _ _ _ _ Y0 Tryz.underlying135 rfl infoState ?_)
      | (refine wpList_store_row rfl 135 (.tmp 4) (.tmp 29) rfl (w.heap.size + 1 + 1) _ rfl rfl _ _ Y2 infoState rfl (stateOne _ _ _ _ _ _ _ _ _ _ _ _ _ _ _ _ _ _ _ _ _ _ _ _ _ _) ?_))
    have hl := Box.loadState (Y2.setRow #[.slice a1 n1 c1, .int .i64 pc, .int .i64 (nth rs 0), .int .i64 (nth rs 1), .int .i64 (nth rs 2), .int .i64 (nth rs 3), .int .i64 (nth rs 4), .int .i64 (nth rs 5), .int .i64 (nth rs 6), .int .i64 (nth rs 7), .int .i64 mo, .int .i64 ba, .slice ca ck cc, .int .i64 op, .int .i64 oh, .int .i64 ot, .bool st, .int .i64 fe, .int .i64 fp, .int .i64 fh, .int .i64 ft, .bool lo]) rfl
    refine bodyPost_ret (v := .tuple #[.agg #[.slice a1 n1 c1, .int .i64 pc, .int .i64 (nth rs 0), .int .i64 (nth rs 1), .int .i64 (nth rs 2), .int .i64 (nth rs 3), .int .i64 (nth rs 4), .int .i64 (nth rs 5), .int .i64 (nth rs 6), .int .i64 (nth rs 7), .int .i64 mo, .int .i64 ba, .slice ca ck cc, .int .i64 op, .int .i64 oh, .int .i64 ot, .bool st, .int .i64 fe, .int .i64 fp, .int .i64 fh, .int .i64 ft, .bool lo], .bool ok]) (by simp [results, Tryz.results143, asAddr, hl]) rfl ⟨a1, n1, c1, by rw [← HOK.out, hok], fun q => ?_, ?_⟩
    · exact ⟨(HS6.out q).1.otherRow ((HS6.out q).2.ne (by omega)) _, (HS6.out q).2.mono (by omega)⟩
    · exact bel_setRow (by omega) B6.out _
end Go.Proofs.YtlgjllmecjkbjacGreat
/-
  A drawn region whose last operations (from number z on) turn cells that the region reads: what holds of the world is asked for behind every operation ahead of z; those from z on wait, straight or by others, for all that is taken first.
-/
namespace Go.Proofs.YtlgjllmecjkbjacGreat
open Go Go.RowKit
section
variable {P : Program} {ops : Array Oper} {Q : Exit → Act → World → Prop} {md : Region.Mode} {S : World → Prop} {z : Nat}
def wpLate (P : Program) (md : Region.Mode) (ops : Array Oper) (Q : Exit → Act → World → Prop) (S : World → Prop) (z : Nat) : Nat → Array Bool → Act → World → Prop
  | 0, listed, a, w => Region.ready md ops listed = [] ∧ Q .normal a w
  | n + 1, listed, a, w => (Region.ready md ops listed = [] → Q .normal a w) ∧
      ∀ i ∈ Region.ready md ops listed, wpOp P ops Q i (fun a' w' => (i < z → S w') ∧ wpLate P md ops Q S z n (listed.setIfInBounds i true) a' w') a w
theorem wpAny_of_late : ∀ (n : Nat) (listed : Array Bool) (a : Act) (w : World), wpLate P md ops Q S z n listed a w → wpAny P md ops Q n listed a w
  | 0, _, _, _, h => h
  | n + 1, _, _, _, h => ⟨h.1, fun i hi => wpOp_mono (fun a' w' h' => wpAny_of_late n _ a' w' h'.2) (h.2 i hi)⟩
def waitsT (md : Region.Mode) (ops : Array Oper) : Nat → Nat → Nat → Bool
  | 0, _, _ => false
  | n + 1, z, i => match ops[z]? with
    | some o => o.after.any (fun e => Region.binds md e && (e.on == i || waitsT md ops n e.on i))
    | none => false
def ShutL (md : Region.Mode) (ops : Array Oper) (listed : Array Bool) : Prop := ∀ (j : Nat) (o : Oper), ops[j]? = some o → listed.getD j false = true → ∀ e ∈ o.after, Region.binds md e = true → listed.getD e.on false = true
def shutB (md : Region.Mode) (ops : Array Oper) (listed : Array Bool) : Bool := (List.range ops.size).all fun j => match ops[j]? with
  | some o => !(listed.getD j false) || o.after.all (fun e => !(Region.binds md e) || listed.getD e.on false)
  | none => true
theorem shutB_spec {listed : Array Bool} (h : shutB md ops listed = true) : ShutL md ops listed := by
  intro j o ho hj e he hb
  unfold shutB at h
  rw [List.all_eq_true] at h
  have hlt : j < ops.size := by
    rcases Nat.lt_or_ge j ops.size with k | k
    · exact k
    · rw [Array.getElem?_eq_none k] at ho; cases ho
  have := h j (List.mem_range.2 hlt)
  rw [ho] at this
  simp only [hj, Bool.not_true, Bool.false_or, Array.all_eq_true] at this
  obtain ⟨k, hk, rfl⟩ := Array.mem_iff_getElem.1 he
  have h2 := this k hk
  rw [hb] at h2
  simpa using h2
theorem getD_both {listed : Array Bool} {i : Nat} (h1 : listed.getD i false = true) (h2 : listed.getD i true = false) : False := by
  rcases Nat.lt_or_ge i listed.size with h' | h'
  · simp [h'] at h1 h2; rw [h1] at h2; cases h2
  · simp [Array.getElem?_eq_none h'] at h1
theorem ShutL.set {listed : Array Bool} (h : ShutL md ops listed) {j : Nat} (hj : j ∈ Region.ready md ops listed) : ShutL md ops (listed.setIfInBounds j true) := by
  obtain ⟨_, oj, hoj, hall⟩ := mem_ready.1 hj
  have mono : ∀ k, listed.getD k false = true → (listed.setIfInBounds j true).getD k false = true := by
    intro k hk
    by_cases e : j = k
    · subst e
      rcases Nat.lt_or_ge j listed.size with h' | h'
      · simp [h']
      · simp [Array.getElem?_eq_none h'] at hk
    · rw [getD_set_ne false e]; exact hk
  intro k o ho hk e he hb
  by_cases hjk : j = k
  · subst hjk
    rw [hoj] at ho
    cases ho
    exact mono _ (hall e he hb)
  · rw [getD_set_ne false hjk] at hk
    exact mono _ (h k o ho hk e he hb)
theorem waitsT_spec {listed : Array Bool} (hc : ShutL md ops listed) {i : Nat} : ∀ (n z : Nat) (o : Oper), ops[z]? = some o → (∀ e ∈ o.after, Region.binds md e = true → listed.getD e.on false = true) → waitsT md ops n z i = true → listed.getD i false = true
  | 0, _, _, _, _, h => by simp [waitsT] at h
  | n + 1, z, o, ho, hall, h => by
    rw [waitsT, ho] at h
    simp only [Array.any_eq_true] at h
    obtain ⟨j, hj, he⟩ := h
    rw [Bool.and_eq_true] at he
    have h1 := hall _ (Array.getElem_mem hj) he.1
    rcases Bool.or_eq_true _ _ ▸ he.2 with h2 | h2
    · rw [beq_iff_eq] at h2
      rw [← h2]; exact h1
    · cases ho2 : ops[o.after[j].on]? with
      | none =>
        cases n with
        | zero => simp [waitsT] at h2
        | succ n => rw [waitsT, ho2] at h2; cases h2
      | some o2 => exact waitsT_spec hc n _ o2 ho2 (hc _ o2 ho2 h1) h2
def lateB (md : Region.Mode) (ops : Array Oper) (z i : Nat) : Bool := (List.range ops.size).all fun j => decide (j < z) || waitsT md ops 5 j i
theorem wpLate_first {i : Nat} {oi : Oper} {v : Value} (hi : ops[i]? = some oi) (hsel : ∀ (j : Nat) (o : Oper) cs b, ops[j]? = some o → o.op ≠ .select cs b) (hwt : lateB md ops z i = true)
    (hQ : ∀ c a w, Q (.panic c) (a.put oi.dst v) w → Q (.panic c) a w) :
    ∀ (n : Nat) (listed : Array Bool) (a : Act) (w : World), ShutL md ops listed →
      (∀ j oj, ops[j]? = some oj → j ≠ i → listed.getD j true = false → (∀ e ∈ oj.after, Region.binds md e = true → e.on ≠ i) → oi.apart ops oj = true) →
      i ∈ Region.ready md ops listed → YieldsIf P ops S oi v a → S w →
      wpLate P md ops Q S z n (listed.setIfInBounds i true) (a.put oi.dst v) w → wpLate P md ops Q S z (n + 1) listed a w := by
  intro n
  induction n with
  | zero =>
    intro listed a w _ _ hr hy hS H
    refine ⟨fun h => (by rw [h] at hr; cases hr), fun j hj => ?_⟩
    by_cases e : j = i
    · subst e; exact hy.wpOp hi hS ⟨fun _ => hS, H⟩
    · have := ready_mono hj e
      rw [H.1] at this
      cases this
  | succ n ih =>
    intro listed a w hcl hfree hr hy hS H
    refine ⟨fun h => (by rw [h] at hr; cases hr), fun j hj => ?_⟩
    by_cases e : j = i
    · subst e; exact hy.wpOp hi hS ⟨fun _ => hS, H⟩
    · have hun : listed.getD i true = false := (mem_ready.1 hr).1
      obtain ⟨hjun, oj, hoj, hall⟩ := mem_ready.1 hj
      have hjz : j < z := by
        rcases Nat.lt_or_ge j z with k | k
        · exact k
        · exfalso
          have hlt : j < ops.size := by
            rcases Nat.lt_or_ge j ops.size with k | k
            · exact k
            · rw [Array.getElem?_eq_none k] at hoj; cases hoj
          unfold lateB at hwt
          rw [List.all_eq_true] at hwt
          have h1 := hwt j (List.mem_range.2 hlt)
          rw [decide_eq_false (by omega), Bool.false_or] at h1
          exact getD_both (waitsT_spec hcl _ j oj hoj hall h1) hun
      have hnot : ∀ e ∈ oj.after, Region.binds md e = true → e.on ≠ i := fun e he hb heq => by
        have h1 := hall e he hb
        rw [heq] at h1
        exact getD_both h1 hun
      have h2 := wpOp_putIf hoj (hfree j oj hoj e hjun hnot) (fun cs b => hsel i oi cs b hi) (fun cs b => hsel j oj cs b hoj) hQ hy (H.2 j (ready_mono hj e))
      refine wpOp_mono (fun a' w' h3 => ⟨fun _ => h3.2.1 hjz, ih (listed.setIfInBounds j true) a' w' (hcl.set hj) (fun q oq hq hqi hqu hno => ?_) (ready_mono hr (Ne.symm e)) h3.1 (h3.2.1 hjz) ?_⟩) h2
      · refine hfree q oq hq hqi ?_ hno
        by_cases hjq : j = q
        · subst hjq; exact hjun
        · rw [getD_set_ne true hjq] at hqu; exact hqu
      · rw [Array.setIfInBounds_comm _ _ e]
        exact h3.2.2
theorem wpLate_takeL {i : Nat} {oi : Oper} {v : Value} {n : Nat} {listed : Array Bool} {a : Act} {w : World} (hi : opL ops.toList i = some oi)
    (hs : Region.noSelect ops = true) (hf : Region.free md ops listed i = true) (hr : (Region.ready md ops listed).contains i = true) (hwt : lateB md ops z i = true) (hcl : shutB md ops listed = true)
    (hQ : ∀ c a w, Q (.panic c) (a.put oi.dst v) w → Q (.panic c) a w) (hy : YieldsIf P ops S oi v a) (hS : S w)
    (h : wpLate P md ops Q S z n (listed.setIfInBounds i true) (a.put oi.dst v) w) : wpLate P md ops Q S z (n + 1) listed a w :=
  wpLate_first (opL_spec hi) (Region.noSelect_spec hs) hwt hQ n listed a w (shutB_spec hcl) (Region.free_spec (opL_spec hi) hf) (by simpa using hr) hy hS h
theorem wpLate_oneL {i : Nat} {o : Oper} {n : Nat} {listed : Array Bool} {a : Act} {w : World} (hr : Region.ready md ops listed = [i]) (ho : opL ops.toList i = some o)
    (h : ∀ K' : Act → World → Prop, Shut (∀ a w, (i < z → S w) → wpLate P md ops Q S z n (listed.setIfInBounds i true) a w → K' a w) → if Region.wanted o (yielded ops a.tmps) = true then Oper.wp P o a w K' Q else K' (a.put o.dst undef) w) :
    wpLate P md ops Q S z (n + 1) listed a w := by
  refine ⟨fun h0 => absurd (hr ▸ h0) (by simp), fun j hj => ?_⟩
  rw [hr, List.mem_singleton] at hj
  subst hj
  exact wpOp_step (opL_spec ho) (fun K' hK => h K' (fun a w h1 h2 => hK a w ⟨h1, h2⟩))
theorem wpLate_done {listed : Array Bool} {a : Act} {w : World} (hr : Region.ready md ops listed = []) (h : Q .normal a w) : ∀ n, wpLate P md ops Q S z n listed a w
  | 0 => ⟨hr, h⟩
  | _ + 1 => ⟨fun _ => h, fun i hi => by rw [hr] at hi; cases hi⟩
theorem wp_region_late {id : Nat} {a : Act} {w : World} (hm : P.follows .mixedOrders = true) (z : Nat) (S : World → Prop) (hS : S w.drew)
    (h : S w.drew → wpLate P .any ops Q S z ops.size (Array.replicate ops.size false) a w.drew) : (Code.region id ops true).wp P Q a w :=
  wp_region_any hm (wpAny_of_late _ _ _ _ (h hS))
end
end Go.Proofs.YtlgjllmecjkbjacGreat
