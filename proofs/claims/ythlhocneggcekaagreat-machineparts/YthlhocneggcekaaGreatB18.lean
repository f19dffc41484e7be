/-
  Laid together: HLoad.
-/
import Derived.Test.YthlhocneggcekaaGreatB1
import Derived.Test.YthlhocneggcekaaGreatB2
import Derived.Test.YthlhocneggcekaaGreatB3
import Derived.Test.YthlhocneggcekaaGreatB4
import Derived.Test.YthlhocneggcekaaGreatB5
import Derived.Test.YthlhocneggcekaaGreatB6
import Derived.Test.YthlhocneggcekaaGreatB7
import Derived.Test.YthlhocneggcekaaGreatB9
import Derived.Test.YthlhocneggcekaaGreatB10
import Derived.Test.YthlhocneggcekaaGreatB11
import Derived.Test.YthlhocneggcekaaGreatB13
import Derived.Test.YthlhocneggcekaaGreatB14
import Derived.Deep.RegionHeld3
import Derived.Maps.OwnOps
import Derived.Maps.OwnSet
import Derived.Test.YthlhocneggcekaaGreatRows
import Derived.WalkKit
import Derived.WalkSpells
import Derived.WalkLawsBesides
import Derived.Below
import Derived.WalkSmall
import Derived.Deep.QuietTactic
import Derived.BigQuiet
import Derived.Deep.Draws
import Derived.Deep.AppendLies
import Derived.Deep.RegionHeld
import Derived.Deep.RegionWith
import Derived.LoopN
import Derived.Deep.CutRange
import Derived.Deep.DrawnRows
import Derived.Laws.CopyOwn
namespace Go.Proofs.YthlhocneggcekaaGreat
open Go.RowKit
set_option maxRecDepth 10000 in
set_option maxHeartbeats 4000000 in
theorem load_any (am : Option Addr) (nm cm : Nat) (zs : List Int) (pc : Int) (rs : List Int) (mo ba op oh ot fe fp fh ft : Int) (st lo : Bool) (ca : Option Addr) (ck cc : Nat) (k x y i : Int) (w : World) (hs : Sl w (.slice am nm cm) zs) (hz : chk zs = 0) (h8 : rs.length = 8) (hw : ∀ j, j < 8 → 0 ≤ nth rs j ∧ nth rs j ≤ 65535)
    (hx : 0 ≤ x ∧ x ≤ 7) (hy : 0 ≤ y ∧ y ≤ 7) (hi : 0 ≤ i ∧ i ≤ 63) :
    Calls Tryz.prog 156 #[.agg #[.slice am nm cm, J pc, J (nth rs 0), J (nth rs 1), J (nth rs 2), J (nth rs 3), J (nth rs 4), J (nth rs 5), J (nth rs 6), J (nth rs 7), J mo, J ba, .slice ca ck cc, J op, J oh, J ot, .bool st, J fe, J fp, J fh, J ft, .bool lo], .agg #[J k, J x, J y, J i]] w fun e w' =>
      ∃ z, e = .returned (.tuple #[.agg #[.slice am nm cm, J pc, J (nth (rs.set x.toNat z) 0), J (nth (rs.set x.toNat z) 1), J (nth (rs.set x.toNat z) 2), J (nth (rs.set x.toNat z) 3), J (nth (rs.set x.toNat z) 4), J (nth (rs.set x.toNat z) 5), J (nth (rs.set x.toNat z) 6), J (nth (rs.set x.toNat z) 7), J mo, J ba, .slice ca ck cc, J op, J oh, J ot, .bool st, J fe, J fp, J fh, J ft, .bool lo], .bool (decide (nth rs y.toNat + i ≤ 511))]) ∧ (nth rs y.toNat + i ≤ 511 → z = nth zs (nth rs y.toNat + i).toNat) ∧ Below w.heap.size w w' := by
  have HM : Hid (Sl w (.slice am nm cm) zs) := hs
  have H8 : Hid (rs.length = 8) := h8
  obtain ⟨hx0, hx1⟩ := hx
  obtain ⟨hy0, hy1⟩ := hy
  obtain ⟨hi0, hi1⟩ := hi
  have hx9 : x < 8 := by omega
  have hy9 : y < 8 := by omega
  have hx8 : x.toNat < 8 := by omega
  have hy8 : y.toNat < 8 := by omega
  have rx := hw x.toNat hx8
  have ry := hw y.toNat hy8
  have hrd : rdE zs (nth rs y.toNat + i) = if nth rs y.toNat + i ≤ 511 then 0 else 4 := by
    unfold rdE placeB
    rw [if_pos hz]
    by_cases e : nth rs y.toNat + i ≤ 511
    · rw [if_pos (decide_eq_true (by omega)), if_pos e]
    · rw [if_neg (by simp; omega), if_neg e]
  have hrv : nth rs y.toNat + i ≤ 511 → rdV zs (nth rs y.toNat + i) = nth zs (nth rs y.toNat + i).toNat := fun e => by
    unfold rdV placeB
    rw [if_pos ⟨hz, decide_eq_true (by omega)⟩]
  obtain ⟨two, h2⟩ : ∃ two, nth rs y.toNat = two := ⟨_, rfl⟩
  have H2 : Hid (nth rs y.toNat = two) := h2
  rw [h2] at hrd hrv ry ⊢
  obtain ⟨z, hz1⟩ : ∃ z, rdV zs (two + i) = z := ⟨_, rfl⟩
  obtain ⟨ee, he1⟩ : ∃ ee, rdE zs (two + i) = ee := ⟨_, rfl⟩
  rw [he1] at hrd
  rw [hz1] at hrv
  have HZ1 : Hid _ := hz1
  have HE1 : Hid _ := he1
  have HRV : Hid _ := hrv
  have HOK : Hid ((ee == 0) = decide (two + i ≤ 511)) := by
    show _ = _
    rw [hrd]
    by_cases e : two + i ≤ 511
    · rw [if_pos e, decide_eq_true e]; rfl
    · rw [if_neg e, decide_eq_false e]; rfl
  obtain ⟨ok, hok⟩ : ∃ ok, (ee == 0) = ok := ⟨_, rfl⟩
  have hwr : IntKind.i64.wrap (two + i) = two + i := wraps_i64 _ (by omega) (by omega)
  clear hz1 he1 hrv hrd h2 hs h8 hw rx
  go_enter Tryz.func156, Tryz.ntmps156
  go_upto_region 1 with fail
  have X0 := ((Box.newAt (w := w) (n := w.heap.size) rfl 154 #[.slice am nm cm, J pc, J (nth rs 0), J (nth rs 1), J (nth rs 2), J (nth rs 3), J (nth rs 4), J (nth rs 5), J (nth rs 6), J (nth rs 7), J mo, J ba, .slice ca ck cc, J op, J oh, J ot, .bool st, J fe, J fp, J fh, J ft, .bool lo]).past (.cells #[J k, J x, J y, J i] 130)).past (.cells #[.slice none 0 0, J 0, J 0, J 0, J 0, J 0, J 0, J 0, J 0, J 0, J 0, J 0, .slice none 0 0, J 0, J 0, J 0, .bool false, J 0, J 0, J 0, J 0, .bool false] 154)
  have X1 := (Box.newAt (w := w.alloc (.cells #[.slice am nm cm, J pc, J (nth rs 0), J (nth rs 1), J (nth rs 2), J (nth rs 3), J (nth rs 4), J (nth rs 5), J (nth rs 6), J (nth rs 7), J mo, J ba, .slice ca ck cc, J op, J oh, J ot, .bool st, J fe, J fp, J fh, J ft, .bool lo] 154)) (n := w.heap.size + 1) (by simp) 130 #[J k, J x, J y, J i]).past (.cells #[.slice none 0 0, J 0, J 0, J 0, J 0, J 0, J 0, J 0, J 0, J 0, J 0, J 0, .slice none 0 0, J 0, J 0, J 0, .bool false, J 0, J 0, J 0, J 0, .bool false] 154)
  have X2 := Box.newAt (w := (w.alloc (.cells #[.slice am nm cm, J pc, J (nth rs 0), J (nth rs 1), J (nth rs 2), J (nth rs 3), J (nth rs 4), J (nth rs 5), J (nth rs 6), J (nth rs 7), J mo, J ba, .slice ca ck cc, J op, J oh, J ot, .bool st, J fe, J fp, J fh, J ft, .bool lo] 154)).alloc (.cells #[J k, J x, J y, J i] 130)) (n := w.heap.size + 1 + 1) (by simp) 154 #[.slice none 0 0, J 0, J 0, J 0, J 0, J 0, J 0, J 0, J 0, J 0, J 0, J 0, .slice none 0 0, J 0, J 0, J 0, .bool false, J 0, J 0, J 0, J 0, .bool false]
  have B0 : Hid (Below w.heap.size w _) := bel_alloc (bel_alloc (bel_alloc (Below.refl w.heap.size w) (.cells #[.slice am nm cm, J pc, J (nth rs 0), J (nth rs 1), J (nth rs 2), J (nth rs 3), J (nth rs 4), J (nth rs 5), J (nth rs 6), J (nth rs 7), J mo, J ba, .slice ca ck cc, J op, J oh, J ot, .bool st, J fe, J fp, J fh, J ft, .bool lo] 154)) (.cells #[J k, J x, J y, J i] 130)) (.cells #[.slice none 0 0, J 0, J 0, J 0, J 0, J 0, J 0, J 0, J 0, J 0, J 0, J 0, .slice none 0 0, J 0, J 0, J 0, .bool false, J 0, J 0, J 0, J 0, .bool false] 154)
  generalize (((w.alloc (.cells #[.slice am nm cm, J pc, J (nth rs 0), J (nth rs 1), J (nth rs 2), J (nth rs 3), J (nth rs 4), J (nth rs 5), J (nth rs 6), J (nth rs 7), J mo, J ba, .slice ca ck cc, J op, J oh, J ot, .bool st, J fe, J fp, J fh, J ft, .bool lo] 154)).alloc (.cells #[J k, J x, J y, J i] 130)).alloc (.cells #[.slice none 0 0, J 0, J 0, J 0, J 0, J 0, J 0, J 0, J 0, J 0, J 0, J 0, .slice none 0 0, J 0, J 0, J 0, .bool false, J 0, J 0, J 0, J 0, .bool false] 154)) = W at *
  refine wp_region_held_drew (S := fun w' => Below W.heap.size W w') (by kernel_rfl) (Below.drew (Below.refl _ _)) (fun hHeld => ?_)
  refine tkH 0 rfl (by kernel_rfl) (fun _ _ _ h => h) (by assumption) (by intro wz hSz; (try dsimp only at hSz); (obtain ⟨⟨q0, q1, q2, q3, q4, q5, q6, q7, q8, q9⟩, ⟨g0, g1, g2, g3, g4, g5, g6, g7, g8, g9, g10, g11⟩, s0⟩ := (X0.keep hSz).state); (obtain ⟨i0, i1, i2, i3, -, -, -, -, s1⟩ := (X1.keep hSz).four); (have gx := (X0.keep hSz).reg hx8); (have gy := (X0.keep hSz).reg hy8); (rw [H2.out] at gy); go_simp; (try with_reducible rfl)) ?_
  simp only [nmz]
  refine tkH 1 rfl (by kernel_rfl) (fun _ _ _ h => h) (by assumption) (by intro wz hSz; (try dsimp only at hSz); (obtain ⟨⟨q0, q1, q2, q3, q4, q5, q6, q7, q8, q9⟩, ⟨g0, g1, g2, g3, g4, g5, g6, g7, g8, g9, g10, g11⟩, s0⟩ := (X0.keep hSz).state); (obtain ⟨i0, i1, i2, i3, -, -, -, -, s1⟩ := (X1.keep hSz).four); (have gx := (X0.keep hSz).reg hx8); (have gy := (X0.keep hSz).reg hy8); (rw [H2.out] at gy); go_simp; (try with_reducible rfl)) ?_
  simp only [nmz]
  refine tkH 2 rfl (by kernel_rfl) (fun _ _ _ h => h) (by assumption) (by intro wz hSz; (try dsimp only at hSz); (obtain ⟨⟨q0, q1, q2, q3, q4, q5, q6, q7, q8, q9⟩, ⟨g0, g1, g2, g3, g4, g5, g6, g7, g8, g9, g10, g11⟩, s0⟩ := (X0.keep hSz).state); (obtain ⟨i0, i1, i2, i3, -, -, -, -, s1⟩ := (X1.keep hSz).four); (have gx := (X0.keep hSz).reg hx8); (have gy := (X0.keep hSz).reg hy8); (rw [H2.out] at gy); go_simp; (try with_reducible rfl)) ?_
  simp only [nmz]
  refine tkH 3 rfl (by kernel_rfl) (fun _ _ _ h => h) (by assumption) (by intro wz hSz; (try dsimp only at hSz); (obtain ⟨⟨q0, q1, q2, q3, q4, q5, q6, q7, q8, q9⟩, ⟨g0, g1, g2, g3, g4, g5, g6, g7, g8, g9, g10, g11⟩, s0⟩ := (X0.keep hSz).state); (obtain ⟨i0, i1, i2, i3, -, -, -, -, s1⟩ := (X1.keep hSz).four); (have gx := (X0.keep hSz).reg hx8); (have gy := (X0.keep hSz).reg hy8); (rw [H2.out] at gy); go_simp; (try with_reducible rfl)) ?_
  simp only [nmz]
  refine tkH 4 rfl (by kernel_rfl) (fun _ _ _ h => h) (by assumption) (by intro wz hSz; (try dsimp only at hSz); (obtain ⟨⟨q0, q1, q2, q3, q4, q5, q6, q7, q8, q9⟩, ⟨g0, g1, g2, g3, g4, g5, g6, g7, g8, g9, g10, g11⟩, s0⟩ := (X0.keep hSz).state); (obtain ⟨i0, i1, i2, i3, -, -, -, -, s1⟩ := (X1.keep hSz).four); (have gx := (X0.keep hSz).reg hx8); (have gy := (X0.keep hSz).reg hy8); (rw [H2.out] at gy); go_simp; (try with_reducible rfl)) ?_
  simp only [nmz]
  refine tkH 5 rfl (by kernel_rfl) (fun _ _ _ h => h) (by assumption) (by intro wz hSz; (try dsimp only at hSz); (obtain ⟨⟨q0, q1, q2, q3, q4, q5, q6, q7, q8, q9⟩, ⟨g0, g1, g2, g3, g4, g5, g6, g7, g8, g9, g10, g11⟩, s0⟩ := (X0.keep hSz).state); (obtain ⟨i0, i1, i2, i3, -, -, -, -, s1⟩ := (X1.keep hSz).four); (have gx := (X0.keep hSz).reg hx8); (have gy := (X0.keep hSz).reg hy8); (rw [H2.out] at gy); go_simp; (try with_reducible rfl)) ?_
  simp only [nmz]
  refine tkH 6 rfl (by kernel_rfl) (fun _ _ _ h => h) (by assumption) (by intro wz hSz; (try dsimp only at hSz); (obtain ⟨⟨q0, q1, q2, q3, q4, q5, q6, q7, q8, q9⟩, ⟨g0, g1, g2, g3, g4, g5, g6, g7, g8, g9, g10, g11⟩, s0⟩ := (X0.keep hSz).state); (obtain ⟨i0, i1, i2, i3, -, -, -, -, s1⟩ := (X1.keep hSz).four); (have gx := (X0.keep hSz).reg hx8); (have gy := (X0.keep hSz).reg hy8); (rw [H2.out] at gy); go_simp; (try with_reducible rfl)) ?_
  simp only [nmz]
  refine tkH 7 rfl (by kernel_rfl) (fun _ _ _ h => h) (by assumption) (by intro wz hSz; (try dsimp only at hSz); (obtain ⟨⟨q0, q1, q2, q3, q4, q5, q6, q7, q8, q9⟩, ⟨g0, g1, g2, g3, g4, g5, g6, g7, g8, g9, g10, g11⟩, s0⟩ := (X0.keep hSz).state); (obtain ⟨i0, i1, i2, i3, -, -, -, -, s1⟩ := (X1.keep hSz).four); (have gx := (X0.keep hSz).reg hx8); (have gy := (X0.keep hSz).reg hy8); (rw [H2.out] at gy); go_simp; (try with_reducible rfl)) ?_
  simp only [nmz]
  refine tkH 8 rfl (by kernel_rfl) (fun _ _ _ h => h) (by assumption) (by intro wz hSz; (try dsimp only at hSz); (obtain ⟨⟨q0, q1, q2, q3, q4, q5, q6, q7, q8, q9⟩, ⟨g0, g1, g2, g3, g4, g5, g6, g7, g8, g9, g10, g11⟩, s0⟩ := (X0.keep hSz).state); (obtain ⟨i0, i1, i2, i3, -, -, -, -, s1⟩ := (X1.keep hSz).four); (have gx := (X0.keep hSz).reg hx8); (have gy := (X0.keep hSz).reg hy8); (rw [H2.out] at gy); go_simp; (try with_reducible rfl)) ?_
  simp only [nmz]
  refine tkH 9 rfl (by kernel_rfl) (fun _ _ _ h => h) (by assumption) (by intro wz hSz; (try dsimp only at hSz); (obtain ⟨⟨q0, q1, q2, q3, q4, q5, q6, q7, q8, q9⟩, ⟨g0, g1, g2, g3, g4, g5, g6, g7, g8, g9, g10, g11⟩, s0⟩ := (X0.keep hSz).state); (obtain ⟨i0, i1, i2, i3, -, -, -, -, s1⟩ := (X1.keep hSz).four); (have gx := (X0.keep hSz).reg hx8); (have gy := (X0.keep hSz).reg hy8); (rw [H2.out] at gy); go_simp; (try with_reducible rfl)) ?_
  simp only [nmz]
  refine wpHeld_oneL (i := 10) (by kernel_rfl) (by rfl) (fun K hK => ?_)
  go_simp
  refine (read_any _ zs (two + i) _ (HM.out.keep (bel_trans B0.out hHeld))).mono ?_
  rintro e w5 ⟨rfl, b5⟩
  rw [HZ1.out, HE1.out]
  go_wp2_with fail
  refine hK.out _ _ ?_ (fun hHeld2 => ?_)
  · exact bel_trans hHeld b5
  clear hK K hHeld
  have hHeld := hHeld2
  clear hHeld2
  refine tkH 11 rfl (by kernel_rfl) (fun _ _ _ h => h) (by assumption) (by intro wz hSz; (try dsimp only at hSz); (obtain ⟨⟨q0, q1, q2, q3, q4, q5, q6, q7, q8, q9⟩, ⟨g0, g1, g2, g3, g4, g5, g6, g7, g8, g9, g10, g11⟩, s0⟩ := (X0.keep hSz).state); (obtain ⟨i0, i1, i2, i3, -, -, -, -, s1⟩ := (X1.keep hSz).four); (have gx := (X0.keep hSz).reg hx8); (have gy := (X0.keep hSz).reg hy8); (rw [H2.out] at gy); go_simp; (try with_reducible rfl)) ?_
  simp only [nmz]
  refine tkH 12 rfl (by kernel_rfl) (fun _ _ _ h => h) (by assumption) (by intro wz hSz; (try dsimp only at hSz); (obtain ⟨⟨q0, q1, q2, q3, q4, q5, q6, q7, q8, q9⟩, ⟨g0, g1, g2, g3, g4, g5, g6, g7, g8, g9, g10, g11⟩, s0⟩ := (X0.keep hSz).state); (obtain ⟨i0, i1, i2, i3, -, -, -, -, s1⟩ := (X1.keep hSz).four); (have gx := (X0.keep hSz).reg hx8); (have gy := (X0.keep hSz).reg hy8); (rw [H2.out] at gy); go_simp; (try with_reducible rfl)) ?_
  simp only [nmz]
  refine tkH 13 rfl (by kernel_rfl) (fun _ _ _ h => h) (by assumption) (by intro wz hSz; (try dsimp only at hSz); (obtain ⟨⟨q0, q1, q2, q3, q4, q5, q6, q7, q8, q9⟩, ⟨g0, g1, g2, g3, g4, g5, g6, g7, g8, g9, g10, g11⟩, s0⟩ := (X0.keep hSz).state); (obtain ⟨i0, i1, i2, i3, -, -, -, -, s1⟩ := (X1.keep hSz).four); (have gx := (X0.keep hSz).reg hx8); (have gy := (X0.keep hSz).reg hy8); (rw [H2.out] at gy); go_simp; (try with_reducible rfl)) ?_
  simp only [nmz]
  refine tkH 14 rfl (by kernel_rfl) (fun _ _ _ h => h) (by assumption) (by intro wz hSz; (try dsimp only at hSz); (obtain ⟨⟨q0, q1, q2, q3, q4, q5, q6, q7, q8, q9⟩, ⟨g0, g1, g2, g3, g4, g5, g6, g7, g8, g9, g10, g11⟩, s0⟩ := (X0.keep hSz).state); (obtain ⟨i0, i1, i2, i3, -, -, -, -, s1⟩ := (X1.keep hSz).four); (have gx := (X0.keep hSz).reg hx8); (have gy := (X0.keep hSz).reg hy8); (rw [H2.out] at gy); go_simp; (try with_reducible rfl)) ?_
  simp only [nmz]
  refine tkH 15 rfl (by kernel_rfl) (fun _ _ _ h => h) (by assumption) (by intro wz hSz; (try dsimp only at hSz); (obtain ⟨⟨q0, q1, q2, q3, q4, q5, q6, q7, q8, q9⟩, ⟨g0, g1, g2, g3, g4, g5, g6, g7, g8, g9, g10, g11⟩, s0⟩ := (X0.keep hSz).state); (obtain ⟨i0, i1, i2, i3, -, -, -, -, s1⟩ := (X1.keep hSz).four); (have gx := (X0.keep hSz).reg hx8); (have gy := (X0.keep hSz).reg hy8); (rw [H2.out] at gy); go_simp; (try with_reducible rfl)) ?_
  simp only [nmz]
  refine wpAnyH_done (by kernel_rfl) ?_ _
  have X0 := X0.keep hHeld
  have X1 := X1.keep hHeld
  have X2 := X2.keep hHeld
  have B5 : Hid (Below w.heap.size w w5) := bel_trans B0.out hHeld
  clear hHeld b5 B0
  have Y0 := X0.setReg hx8 H8.out z
  have Y2 := X2.other (p := ⟨w.heap.size, 2 + x.toNat, none⟩) (by show w.heap.size + 1 + 1 ≠ w.heap.size; omega) (J z)
  have B6 : Hid (Below w.heap.size w (w5.setCell ⟨w.heap.size, 2 + x.toNat, none⟩ (J z))) := bel_set (by show w.heap.size ≤ w.heap.size; omega) B5.out _
  obtain ⟨i0, i1, i2, i3, -, -, -, -, s1⟩ := X1.four
  have gx := X0.reg hx8
  have fx := X0.marksAll
  have s0 := X0.lt
  go_upto_region 3 with fail
  clear gx fx s0 X0 X2
  generalize (w5.setCell ⟨w.heap.size, 2 + x.toNat, none⟩ (J z)) = W6 at *
  go_wp2_with (first
    | (refine wpList_load_row rfl 154 (.tmp 2) rfl w.heap.size rfl _ _ _ _ Y0 Tryz.underlying154 rfl infoState ?_)
    | (refine wpList_store_row rfl 154 (.tmp 4) (.tmp 27) rfl (w.heap.size + 1 + 1) _ rfl rfl _ _ Y2 infoState rfl (stateOne _ _ _ _ _ _ _ _ _ _ _ _ _ _ _ _ _ _ _ _ _ _ _ _ _ _) ?_))
  have hl := Box.loadState (Y2.setRow #[.slice am nm cm, J pc, J (nth (rs.set x.toNat z) 0), J (nth (rs.set x.toNat z) 1), J (nth (rs.set x.toNat z) 2), J (nth (rs.set x.toNat z) 3), J (nth (rs.set x.toNat z) 4), J (nth (rs.set x.toNat z) 5), J (nth (rs.set x.toNat z) 6), J (nth (rs.set x.toNat z) 7), J mo, J ba, .slice ca ck cc, J op, J oh, J ot, .bool st, J fe, J fp, J fh, J ft, .bool lo]) rfl
  refine bodyPost_ret (v := .tuple #[.agg #[.slice am nm cm, J pc, J (nth (rs.set x.toNat z) 0), J (nth (rs.set x.toNat z) 1), J (nth (rs.set x.toNat z) 2), J (nth (rs.set x.toNat z) 3), J (nth (rs.set x.toNat z) 4), J (nth (rs.set x.toNat z) 5), J (nth (rs.set x.toNat z) 6), J (nth (rs.set x.toNat z) 7), J mo, J ba, .slice ca ck cc, J op, J oh, J ot, .bool st, J fe, J fp, J fh, J ft, .bool lo], .bool ok]) (by simp [results, Tryz.results156, asAddr, hl]) rfl ⟨z, by rw [← HOK.out, hok], HRV.out, ?_⟩
  exact bel_setRow (by omega) B6.out _
end Go.Proofs.YthlhocneggcekaaGreat
