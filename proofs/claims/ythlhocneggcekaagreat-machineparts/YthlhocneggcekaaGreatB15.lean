/-
  Laid together: HStore.
-/
import Derived.Test.YthlhocneggcekaaGreatB1
import Derived.Test.YthlhocneggcekaaGreatB2
import Derived.Test.YthlhocneggcekaaGreatB3
import Derived.Test.YthlhocneggcekaaGreatB4
import Derived.Test.YthlhocneggcekaaGreatB5
import Derived.Test.YthlhocneggcekaaGreatB6
import Derived.Test.YthlhocneggcekaaGreatB7
import Derived.Test.YthlhocneggcekaaGreatB9
import Derived.Test.YthlhocneggcekaaGreatB10
import Derived.Test.YthlhocneggcekaaGreatB11
import Derived.Test.YthlhocneggcekaaGreatB13
import Derived.Test.YthlhocneggcekaaGreatB14
import Derived.Deep.RegionHeld3
import Derived.Maps.OwnOps
import Derived.Maps.OwnSet
import Derived.Test.YthlhocneggcekaaGreatRows
import Derived.WalkKit
import Derived.WalkSpells
import Derived.WalkLawsBesides
import Derived.Below
import Derived.WalkSmall
import Derived.Deep.QuietTactic
import Derived.BigQuiet
import Derived.Deep.Draws
import Derived.Deep.AppendLies
import Derived.Deep.RegionHeld
import Derived.Deep.RegionWith
import Derived.LoopN
import Derived.Deep.CutRange
import Derived.Deep.DrawnRows
import Derived.Laws.CopyOwn
namespace Go.Proofs.YthlhocneggcekaaGreat
open Go.RowKit
section
open Go
variable {P : Program} {ops : Array Oper} {Q : Exit → Act → World → Prop} {md : Region.Mode} {S : World → Prop}
theorem wpHeld_twoL {i j : Nat} {o o2 : Oper} {n : Nat} {listed : Array Bool} {a : Act} {w : World} (hr : Region.ready md ops listed = [i, j]) (ho : opL ops.toList i = some o) (ho2 : opL ops.toList j = some o2)
    (h : ∀ K' : Act → World → Prop, Shut (∀ a w, S w → (S w → wpAnyH P md ops Q S n (listed.setIfInBounds i true) a w) → K' a w) → if Region.wanted o (yielded ops a.tmps) = true then Oper.wp P o a w K' Q else K' (a.put o.dst undef) w)
    (h2 : ∀ K' : Act → World → Prop, Shut (∀ a w, S w → (S w → wpAnyH P md ops Q S n (listed.setIfInBounds j true) a w) → K' a w) → if Region.wanted o2 (yielded ops a.tmps) = true then Oper.wp P o2 a w K' Q else K' (a.put o2.dst undef) w) :
    wpAnyH P md ops Q S (n + 1) listed a w := wpAnyH_ready hr (by simp) (AllReadyH.cons (opL_spec ho) h (AllReadyH.cons (opL_spec ho2) h2 AllReadyH.nil))
end
theorem write_at (v : Value) (zs : List Int) (k x : Int) (w : World) (h : Sl w v zs) (hk : chk zs = 0) (hx : wordB x = true) :
    Calls Tryz.prog 163 #[.agg #[v], J k, J x] w fun e w' => ∃ a n c, e = .returned (.tuple #[.agg #[.slice a n c], J (if placeB k = true then 0 else 4)]) ∧ (placeB k = true → Sl w' (.slice a n c) (zs.set k.toNat x) ∧ Fresh w.heap.size (.slice a n c)) ∧ Below w.heap.size w w' := by
  by_cases hp : placeB k = true
  · refine (write_okN v zs k x w h hk hp hx).mono ?_
    rintro e w' ⟨v', rfl, h1, hf, h2⟩
    have h3 := h1
    obtain ⟨a, c, rfl, -⟩ := h1
    exact ⟨a, _, c, by rw [if_pos hp], fun _ => ⟨h3, hf⟩, h2⟩
  · refine (write_err v zs k x w h (fun q => hp q.2.1)).mono ?_
    rintro e w' ⟨rfl, h2⟩
    refine ⟨none, 0, 0, ?_, fun q => absurd q hp, h2⟩
    rw [if_neg hp, wrE, if_pos hk, if_neg hp]
set_option maxRecDepth 10000 in
set_option maxHeartbeats 4000000 in
theorem store_any (am : Option Addr) (nm cm : Nat) (zs : List Int) (pc : Int) (rs : List Int) (mo ba op oh ot fe fp fh ft : Int) (st lo : Bool) (ca : Option Addr) (ck cc : Nat) (k x y i : Int) (w : World) (hs : Sl w (.slice am nm cm) zs) (hz : chk zs = 0) (h8 : rs.length = 8) (hw : ∀ j, j < 8 → 0 ≤ nth rs j ∧ nth rs j ≤ 65535) (hx : 0 ≤ x ∧ x ≤ 7) (hy : 0 ≤ y ∧ y ≤ 7) (hi : 0 ≤ i ∧ i ≤ 63) :
    Calls Tryz.prog 157 #[.agg #[.slice am nm cm, J pc, J (nth rs 0), J (nth rs 1), J (nth rs 2), J (nth rs 3), J (nth rs 4), J (nth rs 5), J (nth rs 6), J (nth rs 7), J mo, J ba, .slice ca ck cc, J op, J oh, J ot, .bool st, J fe, J fp, J fh, J ft, .bool lo], .agg #[J k, J x, J y, J i]] w fun e w' =>
      ∃ a1 n1 c1, e = .returned (.tuple #[.agg #[.slice a1 n1 c1, J pc, J (nth rs 0), J (nth rs 1), J (nth rs 2), J (nth rs 3), J (nth rs 4), J (nth rs 5), J (nth rs 6), J (nth rs 7), J mo, J ba, .slice ca ck cc, J op, J oh, J ot, .bool st, J fe, J fp, J fh, J ft, .bool lo], .bool (decide (nth rs y.toNat + i ≤ 511))]) ∧ (nth rs y.toNat + i ≤ 511 → Sl w' (.slice a1 n1 c1) (zs.set (nth rs y.toNat + i).toNat (nth rs x.toNat)) ∧ Fresh w.heap.size (.slice a1 n1 c1)) ∧ Below w.heap.size w w' := by
  have HM : Hid (Sl w (.slice am nm cm) zs) := hs
  have HZ : Hid (chk zs = 0) := hz
  obtain ⟨hx0, hx1⟩ := hx
  obtain ⟨hy0, hy1⟩ := hy
  obtain ⟨hi0, hi1⟩ := hi
  have hx9 : x < 8 := by omega
  have hy9 : y < 8 := by omega
  have hx8 : x.toNat < 8 := by omega
  have hy8 : y.toNat < 8 := by omega
  have H8 : Hid (rs.length = 8) := h8
  have rx := hw x.toNat hx8
  have ry := hw y.toNat hy8
  obtain ⟨one, h1⟩ : ∃ one, nth rs x.toNat = one := ⟨_, rfl⟩
  obtain ⟨two, h2⟩ : ∃ two, nth rs y.toNat = two := ⟨_, rfl⟩
  have H1 : Hid (nth rs x.toNat = one) := h1
  have H2 : Hid (nth rs y.toNat = two) := h2
  rw [h1] at rx
  rw [h2] at ry
  rw [h1, h2]
  have HX : Hid (wordB one = true) := decide_eq_true rx
  have HP : Hid (placeB (two + i) = decide (two + i ≤ 511)) := by
    show _ = _
    unfold placeB
    by_cases e : two + i ≤ 511
    · rw [decide_eq_true e, decide_eq_true (by omega)]
    · rw [decide_eq_false e, decide_eq_false (by omega)]
  obtain ⟨ee, he1⟩ : ∃ ee : Int, (if placeB (two + i) = true then (0 : Int) else 4) = ee := ⟨_, rfl⟩
  have HE1 : Hid _ := he1
  have HOK : Hid ((ee == 0) = decide (two + i ≤ 511)) := by
    show _ = _
    rw [← he1, HP.out]
    by_cases e : two + i ≤ 511
    · rw [decide_eq_true e]; rfl
    · rw [decide_eq_false e]; rfl
  obtain ⟨ok, hok⟩ : ∃ ok, (ee == 0) = ok := ⟨_, rfl⟩
  have hwr : IntKind.i64.wrap (two + i) = two + i := wraps_i64 _ (by omega) (by omega)
  clear he1 h1 h2 hs h8 hw hz
  go_enter Tryz.func157, Tryz.ntmps157
  go_upto_region 1 with fail
  have X0 := ((Box.newAt (w := w) (n := w.heap.size) rfl 154 #[.slice am nm cm, J pc, J (nth rs 0), J (nth rs 1), J (nth rs 2), J (nth rs 3), J (nth rs 4), J (nth rs 5), J (nth rs 6), J (nth rs 7), J mo, J ba, .slice ca ck cc, J op, J oh, J ot, .bool st, J fe, J fp, J fh, J ft, .bool lo]).past (.cells #[J k, J x, J y, J i] 130)).past (.cells #[.slice none 0 0, J 0, J 0, J 0, J 0, J 0, J 0, J 0, J 0, J 0, J 0, J 0, .slice none 0 0, J 0, J 0, J 0, .bool false, J 0, J 0, J 0, J 0, .bool false] 154)
  have X1 := (Box.newAt (w := w.alloc (.cells #[.slice am nm cm, J pc, J (nth rs 0), J (nth rs 1), J (nth rs 2), J (nth rs 3), J (nth rs 4), J (nth rs 5), J (nth rs 6), J (nth rs 7), J mo, J ba, .slice ca ck cc, J op, J oh, J ot, .bool st, J fe, J fp, J fh, J ft, .bool lo] 154)) (n := w.heap.size + 1) (by simp) 130 #[J k, J x, J y, J i]).past (.cells #[.slice none 0 0, J 0, J 0, J 0, J 0, J 0, J 0, J 0, J 0, J 0, J 0, J 0, .slice none 0 0, J 0, J 0, J 0, .bool false, J 0, J 0, J 0, J 0, .bool false] 154)
  have X2 := Box.newAt (w := (w.alloc (.cells #[.slice am nm cm, J pc, J (nth rs 0), J (nth rs 1), J (nth rs 2), J (nth rs 3), J (nth rs 4), J (nth rs 5), J (nth rs 6), J (nth rs 7), J mo, J ba, .slice ca ck cc, J op, J oh, J ot, .bool st, J fe, J fp, J fh, J ft, .bool lo] 154)).alloc (.cells #[J k, J x, J y, J i] 130)) (n := w.heap.size + 1 + 1) (by simp) 154 #[.slice none 0 0, J 0, J 0, J 0, J 0, J 0, J 0, J 0, J 0, J 0, J 0, J 0, .slice none 0 0, J 0, J 0, J 0, .bool false, J 0, J 0, J 0, J 0, .bool false]
  have B0 : Hid (Below w.heap.size w _) := bel_alloc (bel_alloc (bel_alloc (Below.refl w.heap.size w) (.cells #[.slice am nm cm, J pc, J (nth rs 0), J (nth rs 1), J (nth rs 2), J (nth rs 3), J (nth rs 4), J (nth rs 5), J (nth rs 6), J (nth rs 7), J mo, J ba, .slice ca ck cc, J op, J oh, J ot, .bool st, J fe, J fp, J fh, J ft, .bool lo] 154)) (.cells #[J k, J x, J y, J i] 130)) (.cells #[.slice none 0 0, J 0, J 0, J 0, J 0, J 0, J 0, J 0, J 0, J 0, J 0, J 0, .slice none 0 0, J 0, J 0, J 0, .bool false, J 0, J 0, J 0, J 0, .bool false] 154)
  have W3 : Hid ((((w.alloc (.cells #[.slice am nm cm, J pc, J (nth rs 0), J (nth rs 1), J (nth rs 2), J (nth rs 3), J (nth rs 4), J (nth rs 5), J (nth rs 6), J (nth rs 7), J mo, J ba, .slice ca ck cc, J op, J oh, J ot, .bool st, J fe, J fp, J fh, J ft, .bool lo] 154)).alloc (.cells #[J k, J x, J y, J i] 130)).alloc (.cells #[.slice none 0 0, J 0, J 0, J 0, J 0, J 0, J 0, J 0, J 0, J 0, J 0, J 0, .slice none 0 0, J 0, J 0, J 0, .bool false, J 0, J 0, J 0, J 0, .bool false] 154)).heap.size = w.heap.size + 1 + 1 + 1) := by show _ = _; simp
  generalize (((w.alloc (.cells #[.slice am nm cm, J pc, J (nth rs 0), J (nth rs 1), J (nth rs 2), J (nth rs 3), J (nth rs 4), J (nth rs 5), J (nth rs 6), J (nth rs 7), J mo, J ba, .slice ca ck cc, J op, J oh, J ot, .bool st, J fe, J fp, J fh, J ft, .bool lo] 154)).alloc (.cells #[J k, J x, J y, J i] 130)).alloc (.cells #[.slice none 0 0, J 0, J 0, J 0, J 0, J 0, J 0, J 0, J 0, J 0, J 0, J 0, .slice none 0 0, J 0, J 0, J 0, .bool false, J 0, J 0, J 0, J 0, .bool false] 154)) = W at *
  refine wp_region_held_drew (S := fun w' => Below W.heap.size W w') (by kernel_rfl) (Below.drew (Below.refl _ _)) (fun hHeld => ?_)
  refine tkH 0 rfl (by kernel_rfl) (fun _ _ _ h => h) (by assumption) (by intro wz hSz; (try dsimp only at hSz); (obtain ⟨⟨q0, q1, q2, q3, q4, q5, q6, q7, q8, q9⟩, ⟨g0, g1, g2, g3, g4, g5, g6, g7, g8, g9, g10, g11⟩, s0⟩ := (X0.keep hSz).state); (obtain ⟨i0, i1, i2, i3, -, -, -, -, s1⟩ := (X1.keep hSz).four); (have gx := (X0.keep hSz).reg hx8); (rw [H1.out] at gx); (have gy := (X0.keep hSz).reg hy8); (rw [H2.out] at gy); go_simp; (try with_reducible rfl)) ?_
  simp only [nmz]
  refine tkH 1 rfl (by kernel_rfl) (fun _ _ _ h => h) (by assumption) (by intro wz hSz; (try dsimp only at hSz); (obtain ⟨⟨q0, q1, q2, q3, q4, q5, q6, q7, q8, q9⟩, ⟨g0, g1, g2, g3, g4, g5, g6, g7, g8, g9, g10, g11⟩, s0⟩ := (X0.keep hSz).state); (obtain ⟨i0, i1, i2, i3, -, -, -, -, s1⟩ := (X1.keep hSz).four); (have gx := (X0.keep hSz).reg hx8); (rw [H1.out] at gx); (have gy := (X0.keep hSz).reg hy8); (rw [H2.out] at gy); go_simp; (try with_reducible rfl)) ?_
  simp only [nmz]
  refine tkH 2 rfl (by kernel_rfl) (fun _ _ _ h => h) (by assumption) (by intro wz hSz; (try dsimp only at hSz); (obtain ⟨⟨q0, q1, q2, q3, q4, q5, q6, q7, q8, q9⟩, ⟨g0, g1, g2, g3, g4, g5, g6, g7, g8, g9, g10, g11⟩, s0⟩ := (X0.keep hSz).state); (obtain ⟨i0, i1, i2, i3, -, -, -, -, s1⟩ := (X1.keep hSz).four); (have gx := (X0.keep hSz).reg hx8); (rw [H1.out] at gx); (have gy := (X0.keep hSz).reg hy8); (rw [H2.out] at gy); go_simp; (try with_reducible rfl)) ?_
  simp only [nmz]
  refine tkH 3 rfl (by kernel_rfl) (fun _ _ _ h => h) (by assumption) (by intro wz hSz; (try dsimp only at hSz); (obtain ⟨⟨q0, q1, q2, q3, q4, q5, q6, q7, q8, q9⟩, ⟨g0, g1, g2, g3, g4, g5, g6, g7, g8, g9, g10, g11⟩, s0⟩ := (X0.keep hSz).state); (obtain ⟨i0, i1, i2, i3, -, -, -, -, s1⟩ := (X1.keep hSz).four); (have gx := (X0.keep hSz).reg hx8); (rw [H1.out] at gx); (have gy := (X0.keep hSz).reg hy8); (rw [H2.out] at gy); go_simp; (try with_reducible rfl)) ?_
  simp only [nmz]
  refine tkH 4 rfl (by kernel_rfl) (fun _ _ _ h => h) (by assumption) (by intro wz hSz; (try dsimp only at hSz); (obtain ⟨⟨q0, q1, q2, q3, q4, q5, q6, q7, q8, q9⟩, ⟨g0, g1, g2, g3, g4, g5, g6, g7, g8, g9, g10, g11⟩, s0⟩ := (X0.keep hSz).state); (obtain ⟨i0, i1, i2, i3, -, -, -, -, s1⟩ := (X1.keep hSz).four); (have gx := (X0.keep hSz).reg hx8); (rw [H1.out] at gx); (have gy := (X0.keep hSz).reg hy8); (rw [H2.out] at gy); go_simp; (try with_reducible rfl)) ?_
  simp only [nmz]
  refine tkH 5 rfl (by kernel_rfl) (fun _ _ _ h => h) (by assumption) (by intro wz hSz; (try dsimp only at hSz); (obtain ⟨⟨q0, q1, q2, q3, q4, q5, q6, q7, q8, q9⟩, ⟨g0, g1, g2, g3, g4, g5, g6, g7, g8, g9, g10, g11⟩, s0⟩ := (X0.keep hSz).state); (obtain ⟨i0, i1, i2, i3, -, -, -, -, s1⟩ := (X1.keep hSz).four); (have gx := (X0.keep hSz).reg hx8); (rw [H1.out] at gx); (have gy := (X0.keep hSz).reg hy8); (rw [H2.out] at gy); go_simp; (try with_reducible rfl)) ?_
  simp only [nmz]
  refine tkH 6 rfl (by kernel_rfl) (fun _ _ _ h => h) (by assumption) (by intro wz hSz; (try dsimp only at hSz); (obtain ⟨⟨q0, q1, q2, q3, q4, q5, q6, q7, q8, q9⟩, ⟨g0, g1, g2, g3, g4, g5, g6, g7, g8, g9, g10, g11⟩, s0⟩ := (X0.keep hSz).state); (obtain ⟨i0, i1, i2, i3, -, -, -, -, s1⟩ := (X1.keep hSz).four); (have gx := (X0.keep hSz).reg hx8); (rw [H1.out] at gx); (have gy := (X0.keep hSz).reg hy8); (rw [H2.out] at gy); go_simp; (try with_reducible rfl)) ?_
  simp only [nmz]
  refine tkH 7 rfl (by kernel_rfl) (fun _ _ _ h => h) (by assumption) (by intro wz hSz; (try dsimp only at hSz); (obtain ⟨⟨q0, q1, q2, q3, q4, q5, q6, q7, q8, q9⟩, ⟨g0, g1, g2, g3, g4, g5, g6, g7, g8, g9, g10, g11⟩, s0⟩ := (X0.keep hSz).state); (obtain ⟨i0, i1, i2, i3, -, -, -, -, s1⟩ := (X1.keep hSz).four); (have gx := (X0.keep hSz).reg hx8); (rw [H1.out] at gx); (have gy := (X0.keep hSz).reg hy8); (rw [H2.out] at gy); go_simp; (try with_reducible rfl)) ?_
  simp only [nmz]
  refine tkH 8 rfl (by kernel_rfl) (fun _ _ _ h => h) (by assumption) (by intro wz hSz; (try dsimp only at hSz); (obtain ⟨⟨q0, q1, q2, q3, q4, q5, q6, q7, q8, q9⟩, ⟨g0, g1, g2, g3, g4, g5, g6, g7, g8, g9, g10, g11⟩, s0⟩ := (X0.keep hSz).state); (obtain ⟨i0, i1, i2, i3, -, -, -, -, s1⟩ := (X1.keep hSz).four); (have gx := (X0.keep hSz).reg hx8); (rw [H1.out] at gx); (have gy := (X0.keep hSz).reg hy8); (rw [H2.out] at gy); go_simp; (try with_reducible rfl)) ?_
  simp only [nmz]
  refine tkH 9 rfl (by kernel_rfl) (fun _ _ _ h => h) (by assumption) (by intro wz hSz; (try dsimp only at hSz); (obtain ⟨⟨q0, q1, q2, q3, q4, q5, q6, q7, q8, q9⟩, ⟨g0, g1, g2, g3, g4, g5, g6, g7, g8, g9, g10, g11⟩, s0⟩ := (X0.keep hSz).state); (obtain ⟨i0, i1, i2, i3, -, -, -, -, s1⟩ := (X1.keep hSz).four); (have gx := (X0.keep hSz).reg hx8); (rw [H1.out] at gx); (have gy := (X0.keep hSz).reg hy8); (rw [H2.out] at gy); go_simp; (try with_reducible rfl)) ?_
  simp only [nmz]
  refine tkH 10 rfl (by kernel_rfl) (fun _ _ _ h => h) (by assumption) (by intro wz hSz; (try dsimp only at hSz); (obtain ⟨⟨q0, q1, q2, q3, q4, q5, q6, q7, q8, q9⟩, ⟨g0, g1, g2, g3, g4, g5, g6, g7, g8, g9, g10, g11⟩, s0⟩ := (X0.keep hSz).state); (obtain ⟨i0, i1, i2, i3, -, -, -, -, s1⟩ := (X1.keep hSz).four); (have gx := (X0.keep hSz).reg hx8); (rw [H1.out] at gx); (have gy := (X0.keep hSz).reg hy8); (rw [H2.out] at gy); go_simp; (try with_reducible rfl)) ?_
  simp only [nmz]
  refine tkH 11 rfl (by kernel_rfl) (fun _ _ _ h => h) (by assumption) (by intro wz hSz; (try dsimp only at hSz); (obtain ⟨⟨q0, q1, q2, q3, q4, q5, q6, q7, q8, q9⟩, ⟨g0, g1, g2, g3, g4, g5, g6, g7, g8, g9, g10, g11⟩, s0⟩ := (X0.keep hSz).state); (obtain ⟨i0, i1, i2, i3, -, -, -, -, s1⟩ := (X1.keep hSz).four); (have gx := (X0.keep hSz).reg hx8); (rw [H1.out] at gx); (have gy := (X0.keep hSz).reg hy8); (rw [H2.out] at gy); go_simp; (try with_reducible rfl)) ?_
  simp only [nmz]
  refine tkH 12 rfl (by kernel_rfl) (fun _ _ _ h => h) (by assumption) (by intro wz hSz; (try dsimp only at hSz); (obtain ⟨⟨q0, q1, q2, q3, q4, q5, q6, q7, q8, q9⟩, ⟨g0, g1, g2, g3, g4, g5, g6, g7, g8, g9, g10, g11⟩, s0⟩ := (X0.keep hSz).state); (obtain ⟨i0, i1, i2, i3, -, -, -, -, s1⟩ := (X1.keep hSz).four); (have gx := (X0.keep hSz).reg hx8); (rw [H1.out] at gx); (have gy := (X0.keep hSz).reg hy8); (rw [H2.out] at gy); go_simp; (try with_reducible rfl)) ?_
  simp only [nmz]
  refine tkH 13 rfl (by kernel_rfl) (fun _ _ _ h => h) (by assumption) (by intro wz hSz; (try dsimp only at hSz); (obtain ⟨⟨q0, q1, q2, q3, q4, q5, q6, q7, q8, q9⟩, ⟨g0, g1, g2, g3, g4, g5, g6, g7, g8, g9, g10, g11⟩, s0⟩ := (X0.keep hSz).state); (obtain ⟨i0, i1, i2, i3, -, -, -, -, s1⟩ := (X1.keep hSz).four); (have gx := (X0.keep hSz).reg hx8); (rw [H1.out] at gx); (have gy := (X0.keep hSz).reg hy8); (rw [H2.out] at gy); go_simp; (try with_reducible rfl)) ?_
  simp only [nmz]
  refine tkH 14 rfl (by kernel_rfl) (fun _ _ _ h => h) (by assumption) (by intro wz hSz; (try dsimp only at hSz); (obtain ⟨⟨q0, q1, q2, q3, q4, q5, q6, q7, q8, q9⟩, ⟨g0, g1, g2, g3, g4, g5, g6, g7, g8, g9, g10, g11⟩, s0⟩ := (X0.keep hSz).state); (obtain ⟨i0, i1, i2, i3, -, -, -, -, s1⟩ := (X1.keep hSz).four); (have gx := (X0.keep hSz).reg hx8); (rw [H1.out] at gx); (have gy := (X0.keep hSz).reg hy8); (rw [H2.out] at gy); go_simp; (try with_reducible rfl)) ?_
  simp only [nmz]
  refine wpHeld_twoL (i := 15) (j := 19) (by kernel_rfl) (by rfl) (by rfl) (fun K hK => ?_) (fun K hK => ?_)
  · go_simp
    refine (write_at _ zs (two + i) one _ (HM.out.keep (bel_trans B0.out hHeld)) HZ.out HX.out).mono ?_
    rintro e w5 ⟨a1, n1, c1, rfl, hS1, b5⟩
    rw [HE1.out]
    go_wp2_with fail
    refine hK.out _ _ ?_ (fun hHeld2 => ?_)
    · exact bel_trans hHeld b5
    clear hK K hHeld
    have hHeld := hHeld2
    clear hHeld2
    refine tkH 16 rfl (by kernel_rfl) (fun _ _ _ h => h) (by assumption) (by intro wz hSz; (try dsimp only at hSz); go_simp; (try with_reducible rfl)) ?_
    simp only [nmz]
    refine tkH 17 rfl (by kernel_rfl) (fun _ _ _ h => h) (by assumption) (by intro wz hSz; (try dsimp only at hSz); go_simp; (try with_reducible rfl)) ?_
    simp only [nmz]
    refine tkH 18 rfl (by kernel_rfl) (fun _ _ _ h => h) (by assumption) (by intro wz hSz; (try dsimp only at hSz); go_simp; (try with_reducible rfl)) ?_
    simp only [nmz]
    refine wpHeld_oneL (i := 19) (by kernel_rfl) (by rfl) (fun K hK => ?_)
    go_simp
    refine hK.out _ _ ?_ (fun hHeld2 => ?_)
    · exact bel_alloc hHeld _
    clear hK K hHeld
    have hHeld := hHeld2
    clear hHeld2
    refine wpHeld_oneL (i := 20) (by kernel_rfl) (by rfl) (fun K hK => ?_)
    go_simp
    refine hK.out _ _ ?_ (fun hHeld2 => ?_)
    · exact bel_alloc (bel_trans (Below.drew (Below.refl _ _)) b5) _
    clear hK K hHeld
    have hHeld := hHeld2
    clear hHeld2
    refine tkH 21 rfl (by kernel_rfl) (fun _ _ _ h => h) (by assumption) (by intro wz hSz; (try dsimp only at hSz); go_simp; (try with_reducible rfl)) ?_
    simp only [nmz]
    refine wpAnyH_done (by kernel_rfl) ?_ _
    have X6 := Box.newAt (w := w5) (n := w5.heap.size) rfl 24 #[.slice a1 n1 c1]
    have HS1 : Hid (two + i ≤ 511 → Sl (w5.alloc (.cells #[.slice a1 n1 c1] 24)) (.slice a1 n1 c1) (zs.set (two + i).toNat one) ∧ Fresh (w.heap.size + 1 + 1 + 1) (.slice a1 n1 c1)) := fun q => let h := hS1 (by rw [HP.out]; exact decide_eq_true q); ⟨h.1.keep (bel_alloc (Below.refl _ _) _), h.2.mono (by have := W3.out; simp; omega)⟩
    have hN6 : w.heap.size + 1 + 1 < w5.heap.size := by have := b5.size; have w3 := W3.out; simp at this; omega
    clear hS1 b5
    generalize (w5.alloc (.cells #[.slice a1 n1 c1] 24)) = W5 at *
    generalize w5.heap.size = N6 at *
    have X0 := X0.keep hHeld
    have X2 := X2.keep hHeld
    have B5 : Hid (Below w.heap.size w W5) := bel_trans B0.out hHeld
    clear hHeld B0 X1
    have Y0 := Box.set X0 0 (.slice a1 n1 c1)
    have Y0 : Box (W5.setCell ⟨w.heap.size, 0, none⟩ (.slice a1 n1 c1)) w.heap.size 154 #[.slice a1 n1 c1, J pc, J (nth rs 0), J (nth rs 1), J (nth rs 2), J (nth rs 3), J (nth rs 4), J (nth rs 5), J (nth rs 6), J (nth rs 7), J mo, J ba, .slice ca ck cc, J op, J oh, J ot, .bool st, J fe, J fp, J fh, J ft, .bool lo] := Y0
    have Y2 := X2.other (p := ⟨w.heap.size, 0, none⟩) (by show w.heap.size + 1 + 1 ≠ w.heap.size; omega) (.slice a1 n1 c1)
    have B6 : Hid (Below w.heap.size w (W5.setCell ⟨w.heap.size, 0, none⟩ (.slice a1 n1 c1))) := bel_set (by show w.heap.size ≤ w.heap.size; omega) B5.out _
    have HS6 : Hid (two + i ≤ 511 → Sl (W5.setCell ⟨w.heap.size, 0, none⟩ (.slice a1 n1 c1)) (.slice a1 n1 c1) (zs.set (two + i).toNat one) ∧ Fresh (w.heap.size + 1 + 1 + 1) (.slice a1 n1 c1)) := fun q => ⟨Sl.setSlice (HS1.out q).1 X0.state0.1.1 _, (HS1.out q).2⟩
    obtain ⟨⟨q0, -⟩, -, s0⟩ := X0.state0
    have fx := X0.marksAll
    obtain ⟨u6, -, s6⟩ := X6.one
    go_upto_region 3 with fail
    clear q0 fx s0 u6 s6 X0 X2 X6
    generalize (W5.setCell ⟨w.heap.size, 0, none⟩ (.slice a1 n1 c1)) = W6 at *
    go_wp2_with (first
      | (refine wpList_load_row rfl 154 (.tmp 2) rfl w.heap.size rfl _ _ _ _ Y0 Tryz.underlying154 rfl infoState ?_)
      | (refine wpList_store_row rfl 154 (.tmp 4) (.tmp 29) rfl (w.heap.size + 1 + 1) _ rfl rfl _ _ Y2 infoState rfl (stateOne _ _ _ _ _ _ _ _ _ _ _ _ _ _ _ _ _ _ _ _ _ _ _ _ _ _) ?_))
    have hl := Box.loadState (Y2.setRow #[.slice a1 n1 c1, J pc, J (nth rs 0), J (nth rs 1), J (nth rs 2), J (nth rs 3), J (nth rs 4), J (nth rs 5), J (nth rs 6), J (nth rs 7), J mo, J ba, .slice ca ck cc, J op, J oh, J ot, .bool st, J fe, J fp, J fh, J ft, .bool lo]) rfl
    refine bodyPost_ret (v := .tuple #[.agg #[.slice a1 n1 c1, J pc, J (nth rs 0), J (nth rs 1), J (nth rs 2), J (nth rs 3), J (nth rs 4), J (nth rs 5), J (nth rs 6), J (nth rs 7), J mo, J ba, .slice ca ck cc, J op, J oh, J ot, .bool st, J fe, J fp, J fh, J ft, .bool lo], .bool ok]) (by simp [results, Tryz.results157, asAddr, hl]) rfl ⟨a1, n1, c1, by rw [← HOK.out, hok], fun q => ?_, ?_⟩
    · exact ⟨(HS6.out q).1.otherRow ((HS6.out q).2.ne (by omega)) _, (HS6.out q).2.mono (by omega)⟩
    · exact bel_setRow (by omega) B6.out _
  · go_simp
    refine hK.out _ _ ?_ (fun hHeld2 => ?_)
    · exact bel_alloc hHeld _
    clear hK K hHeld
    have hHeld := hHeld2
    clear hHeld2
    refine wpHeld_oneL (i := 15) (by kernel_rfl) (by rfl) (fun K hK => ?_)
    go_simp
    refine (write_at _ zs (two + i) one _ (HM.out.keep (bel_trans B0.out hHeld)) HZ.out HX.out).mono ?_
    rintro e w5 ⟨a1, n1, c1, rfl, hS1, b5⟩
    rw [HE1.out]
    have X6 := ((Box.newAt (w := W) (n := W.heap.size) rfl 24 #[.slice none 0 0]).drew.keep b5)
    go_wp2_with fail
    refine hK.out _ _ ?_ (fun hHeld2 => ?_)
    · exact bel_trans hHeld b5
    clear hK K hHeld
    have hHeld := hHeld2
    clear hHeld2
    refine tkH 16 rfl (by kernel_rfl) (fun _ _ _ h => h) (by assumption) (by intro wz hSz; (try dsimp only at hSz); go_simp; (try with_reducible rfl)) ?_
    simp only [nmz]
    refine tkH 17 rfl (by kernel_rfl) (fun _ _ _ h => h) (by assumption) (by intro wz hSz; (try dsimp only at hSz); go_simp; (try with_reducible rfl)) ?_
    simp only [nmz]
    refine tkH 18 rfl (by kernel_rfl) (fun _ _ _ h => h) (by assumption) (by intro wz hSz; (try dsimp only at hSz); go_simp; (try with_reducible rfl)) ?_
    simp only [nmz]
    obtain ⟨u6, f6, s6⟩ := X6.one
    refine wpHeld_oneL (i := 20) (by kernel_rfl) (by rfl) (fun K hK => ?_)
    go_simp
    refine hK.out _ _ ?_ (fun hHeld2 => ?_)
    · exact bel_set1 (Nat.le_refl _) hHeld _
    clear hK K hHeld
    have hHeld := hHeld2
    clear hHeld2
    refine tkH 21 rfl (by kernel_rfl) (fun _ _ _ h => h) (by assumption) (by intro wz hSz; (try dsimp only at hSz); go_simp; (try with_reducible rfl)) ?_
    simp only [nmz]
    refine wpAnyH_done (by kernel_rfl) ?_ _
    have X6 := X6.set1 (.slice a1 n1 c1)
    have HS1 : Hid (two + i ≤ 511 → Sl (w5.setCell ⟨W.heap.size, 0, none⟩ (.slice a1 n1 c1)) (.slice a1 n1 c1) (zs.set (two + i).toNat one) ∧ Fresh (w.heap.size + 1 + 1 + 1) (.slice a1 n1 c1)) := fun q => let h := hS1 (by rw [HP.out]; exact decide_eq_true q); ⟨Sl.setSlice h.1 u6 _, h.2.mono (by have := W3.out; simp; omega)⟩
    have hN6 : w.heap.size + 1 + 1 < W.heap.size := by have := W3.out; omega
    clear hS1 b5 u6 f6 s6
    generalize (w5.setCell ⟨W.heap.size, 0, none⟩ (.slice a1 n1 c1)) = W5 at *
    obtain ⟨N6, hWN⟩ : ∃ N6, W.heap.size = N6 := ⟨_, rfl⟩
    have HW6 := hHeld
    rw [hWN] at X6 hN6 ⊢
    clear hWN HW6
    have X0 := X0.keep hHeld
    have X2 := X2.keep hHeld
    have B5 : Hid (Below w.heap.size w W5) := bel_trans B0.out hHeld
    clear hHeld B0 X1
    have Y0 := Box.set X0 0 (.slice a1 n1 c1)
    have Y0 : Box (W5.setCell ⟨w.heap.size, 0, none⟩ (.slice a1 n1 c1)) w.heap.size 154 #[.slice a1 n1 c1, J pc, J (nth rs 0), J (nth rs 1), J (nth rs 2), J (nth rs 3), J (nth rs 4), J (nth rs 5), J (nth rs 6), J (nth rs 7), J mo, J ba, .slice ca ck cc, J op, J oh, J ot, .bool st, J fe, J fp, J fh, J ft, .bool lo] := Y0
    have Y2 := X2.other (p := ⟨w.heap.size, 0, none⟩) (by show w.heap.size + 1 + 1 ≠ w.heap.size; omega) (.slice a1 n1 c1)
    have B6 : Hid (Below w.heap.size w (W5.setCell ⟨w.heap.size, 0, none⟩ (.slice a1 n1 c1))) := bel_set (by show w.heap.size ≤ w.heap.size; omega) B5.out _
    have HS6 : Hid (two + i ≤ 511 → Sl (W5.setCell ⟨w.heap.size, 0, none⟩ (.slice a1 n1 c1)) (.slice a1 n1 c1) (zs.set (two + i).toNat one) ∧ Fresh (w.heap.size + 1 + 1 + 1) (.slice a1 n1 c1)) := fun q => ⟨Sl.setSlice (HS1.out q).1 X0.state0.1.1 _, (HS1.out q).2⟩
    obtain ⟨⟨q0, -⟩, -, s0⟩ := X0.state0
    have fx := X0.marksAll
    obtain ⟨u6, -, s6⟩ := X6.one
    go_upto_region 3 with fail
    clear q0 fx s0 u6 s6 X0 X2 X6
    generalize (W5.setCell ⟨w.heap.size, 0, none⟩ (.slice a1 n1 c1)) = W6 at *
    go_wp2_with (first
      | (refine wpList_load_row rfl 154 (.tmp 2) rfl w.heap.size rfl _ _ _ _ Y0 Tryz.underlying154 rfl infoState ?_)
      | (refine wpList_store_row rfl 154 (.tmp 4) (.tmp 29) rfl (w.heap.size + 1 + 1) _ rfl rfl _ _ Y2 infoState rfl (stateOne _ _ _ _ _ _ _ _ _ _ _ _ _ _ _ _ _ _ _ _ _ _ _ _ _ _) ?_))
    have hl := Box.loadState (Y2.setRow #[.slice a1 n1 c1, J pc, J (nth rs 0), J (nth rs 1), J (nth rs 2), J (nth rs 3), J (nth rs 4), J (nth rs 5), J (nth rs 6), J (nth rs 7), J mo, J ba, .slice ca ck cc, J op, J oh, J ot, .bool st, J fe, J fp, J fh, J ft, .bool lo]) rfl
    refine bodyPost_ret (v := .tuple #[.agg #[.slice a1 n1 c1, J pc, J (nth rs 0), J (nth rs 1), J (nth rs 2), J (nth rs 3), J (nth rs 4), J (nth rs 5), J (nth rs 6), J (nth rs 7), J mo, J ba, .slice ca ck cc, J op, J oh, J ot, .bool st, J fe, J fp, J fh, J ft, .bool lo], .bool ok]) (by simp [results, Tryz.results157, asAddr, hl]) rfl ⟨a1, n1, c1, by rw [← HOK.out, hok], fun q => ?_, ?_⟩
    · exact ⟨(HS6.out q).1.otherRow ((HS6.out q).2.ne (by omega)) _, (HS6.out q).2.mono (by omega)⟩
    · exact bel_setRow (by omega) B6.out _
end Go.Proofs.YthlhocneggcekaaGreat
