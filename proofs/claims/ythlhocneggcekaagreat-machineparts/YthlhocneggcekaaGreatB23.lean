/-
  Laid together: HDo1.
-/
import Derived.Test.YthlhocneggcekaaGreatB1
import Derived.Test.YthlhocneggcekaaGreatB2
import Derived.Test.YthlhocneggcekaaGreatB3
import Derived.Test.YthlhocneggcekaaGreatB4
import Derived.Test.YthlhocneggcekaaGreatB5
import Derived.Test.YthlhocneggcekaaGreatB6
import Derived.Test.YthlhocneggcekaaGreatB7
import Derived.Test.YthlhocneggcekaaGreatB9
import Derived.Test.YthlhocneggcekaaGreatB10
import Derived.Test.YthlhocneggcekaaGreatB11
import Derived.Test.YthlhocneggcekaaGreatB13
import Derived.Test.YthlhocneggcekaaGreatB14
import Derived.Test.YthlhocneggcekaaGreatB15
import Derived.Test.YthlhocneggcekaaGreatB18
import Derived.Test.YthlhocneggcekaaGreatB19
import Derived.Test.YthlhocneggcekaaGreatB20
import Derived.Test.YthlhocneggcekaaGreatB21
import Derived.Test.YthlhocneggcekaaGreatB22
import Derived.Deep.RegionHeld3
import Derived.Maps.OwnOps
import Derived.Maps.OwnSet
import Derived.Deep.AppendLies
import Derived.Deep.RegionWith
import Derived.LoopN
import Derived.Deep.CutRange
import Derived.Test.YthlhocneggcekaaGreatRows
import Derived.WalkKit
import Derived.WalkSpells
import Derived.WalkLawsBesides
import Derived.Below
import Derived.WalkSmall
import Derived.Deep.QuietTactic
import Derived.BigQuiet
import Derived.Deep.Draws
import Derived.Deep.RegionHeld
import Derived.Deep.DrawnRows
import Derived.Laws.CopyOwn
namespace Go.Proofs.YthlhocneggcekaaGreat
open Go.RowKit
abbrev DoH (am : Option Addr) (nm cm : Nat) (zs : List Int) (p : Int) (rs : List Int) (mo ba op oh ot fe fp fh ft : Int) (st lo : Bool) (ca : Option Addr) (ck cc : Nat) (l : List Ln) (k x y i : Int) (w : World) (e : Ending) (w' : World) : Prop :=
  ∃ ok a1 n1 c1 pc1 rs1 mo1 ba1 op1 oh1 ot1 fe1 fp1 fh1 ft1 st1 lo1 ca1 ck1 cc1, e = .returned (.tuple #[.agg #[.slice a1 n1 c1, J pc1, J (nth rs1 0), J (nth rs1 1), J (nth rs1 2), J (nth rs1 3), J (nth rs1 4), J (nth rs1 5), J (nth rs1 6), J (nth rs1 7), J mo1, J ba1, .slice ca1 ck1 cc1, J op1, J oh1, J ot1, .bool st1, J fe1, J fp1, J fh1, J ft1, .bool lo1], .bool ok]) ∧
    (ok = false → exeI zs ⟨p, rs, false⟩ ⟨mo, ba, l, op, oh, ot, st, fe, fp, fh, ft, lo⟩ k x y i = stand zs ⟨p, rs, false⟩ ⟨mo, ba, l, op, oh, ot, st, fe, fp, fh, ft, lo⟩) ∧
    (ok = true → ∃ zs1, exeI zs ⟨p, rs, false⟩ ⟨mo, ba, l, op, oh, ot, st, fe, fp, fh, ft, lo⟩ k x y i = (zs1, ⟨pc1, rs1, false⟩, ⟨mo1, ba1, l, op1, oh1, ot1, st1, fe1, fp1, fh1, ft1, lo1⟩) ∧ rs1.length = 8 ∧ Value.slice ca ck cc = .slice ca1 ck1 cc1 ∧
      ((Value.slice am nm cm = .slice a1 n1 c1 ∧ zs1 = zs) ∨ (Sl w' (.slice a1 n1 c1) zs1 ∧ Fresh w.heap.size (.slice a1 n1 c1)))) ∧ Below w.heap.size w w'
set_option maxRecDepth 10000 in
set_option maxHeartbeats 4000000 in
theorem do_0 (am : Option Addr) (nm cm : Nat) (zs : List Int) (p : Int) (rs : List Int) (mo ba op oh ot fe fp fh ft : Int) (st lo : Bool) (ca : Option Addr) (ck cc : Nat) (l : List Ln) (x y i : Int) (w : World) (_ : Sl w (.slice am nm cm) zs) (_ : Ls w (.slice ca ck cc) l) (_ : chkB ⟨mo, ba, l, op, oh, ot, st, fe, fp, fh, ft, lo⟩ = 0) (_ : chk zs = 0) (_ : rs.length = 8) (_ : ∀ j, j < 8 → 0 ≤ nth rs j ∧ nth rs j ≤ 65535) (_ : 0 ≤ x ∧ x ≤ 7) (_ : 0 ≤ y ∧ y ≤ 7) (_ : 0 ≤ i ∧ i ≤ 63) :
    Calls Tryz.prog 132 #[.agg #[.slice am nm cm, J (nextP p), J (nth rs 0), J (nth rs 1), J (nth rs 2), J (nth rs 3), J (nth rs 4), J (nth rs 5), J (nth rs 6), J (nth rs 7), J mo, J ba, .slice ca ck cc, J op, J oh, J ot, .bool st, J fe, J fp, J fh, J ft, .bool lo], .agg #[J 0, J x, J y, J i]] w fun e w' => DoH am nm cm zs p rs mo ba op oh ot fe fp fh ft st lo ca ck cc l 0 x y i w e w' := by
  obtain ⟨pc, hpc⟩ : ∃ pc, nextP p = pc := ⟨_, rfl⟩
  rw [hpc]
  have HPC : Hid (nextP p = pc) := hpc
  clear hpc
  have HT : Hid (exeI zs ⟨p, rs, false⟩ ⟨mo, ba, l, op, oh, ot, st, fe, fp, fh, ft, lo⟩ 0 x y i = stand zs ⟨p, rs, false⟩ ⟨mo, ba, l, op, oh, ot, st, fe, fp, fh, ft, lo⟩) := by show _ = _; rw [exeI, if_neg (by decide), if_neg (by decide), if_neg (by decide), if_neg (by decide), if_neg (by decide), if_neg (by decide), if_neg (by decide), if_neg (by decide)]
  go_enter Tryz.func132, Tryz.ntmps132
  go_upto_region 2 with fail
  have X9 := ((Box.newAt (w := w) (n := w.heap.size) rfl 154 #[.slice am nm cm, J pc, J (nth rs 0), J (nth rs 1), J (nth rs 2), J (nth rs 3), J (nth rs 4), J (nth rs 5), J (nth rs 6), J (nth rs 7), J mo, J ba, .slice ca ck cc, J op, J oh, J ot, .bool st, J fe, J fp, J fh, J ft, .bool lo]).past (.cells #[J 0, J x, J y, J i] 130)).past (.cells #[.slice none 0 0, J 0, J 0, J 0, J 0, J 0, J 0, J 0, J 0, J 0, J 0, J 0, .slice none 0 0, J 0, J 0, J 0, .bool false, J 0, J 0, J 0, J 0, .bool false] 154)
  have X8 := (Box.newAt (w := w.alloc (.cells #[.slice am nm cm, J pc, J (nth rs 0), J (nth rs 1), J (nth rs 2), J (nth rs 3), J (nth rs 4), J (nth rs 5), J (nth rs 6), J (nth rs 7), J mo, J ba, .slice ca ck cc, J op, J oh, J ot, .bool st, J fe, J fp, J fh, J ft, .bool lo] 154)) (n := w.heap.size + 1) (by simp) 130 #[J 0, J x, J y, J i]).past (.cells #[.slice none 0 0, J 0, J 0, J 0, J 0, J 0, J 0, J 0, J 0, J 0, J 0, J 0, .slice none 0 0, J 0, J 0, J 0, .bool false, J 0, J 0, J 0, J 0, .bool false] 154)
  have Y2 := Box.newAt (w := (w.alloc (.cells #[.slice am nm cm, J pc, J (nth rs 0), J (nth rs 1), J (nth rs 2), J (nth rs 3), J (nth rs 4), J (nth rs 5), J (nth rs 6), J (nth rs 7), J mo, J ba, .slice ca ck cc, J op, J oh, J ot, .bool st, J fe, J fp, J fh, J ft, .bool lo] 154)).alloc (.cells #[J 0, J x, J y, J i] 130)) (n := w.heap.size + 1 + 1) (by simp) 154 #[.slice none 0 0, J 0, J 0, J 0, J 0, J 0, J 0, J 0, J 0, J 0, J 0, J 0, .slice none 0 0, J 0, J 0, J 0, .bool false, J 0, J 0, J 0, J 0, .bool false]
  have B6 : Hid (Below w.heap.size w _) := bel_alloc (bel_alloc (bel_alloc (Below.refl w.heap.size w) (.cells #[.slice am nm cm, J pc, J (nth rs 0), J (nth rs 1), J (nth rs 2), J (nth rs 3), J (nth rs 4), J (nth rs 5), J (nth rs 6), J (nth rs 7), J mo, J ba, .slice ca ck cc, J op, J oh, J ot, .bool st, J fe, J fp, J fh, J ft, .bool lo] 154)) (.cells #[J 0, J x, J y, J i] 130)) (.cells #[.slice none 0 0, J 0, J 0, J 0, J 0, J 0, J 0, J 0, J 0, J 0, J 0, J 0, .slice none 0 0, J 0, J 0, J 0, .bool false, J 0, J 0, J 0, J 0, .bool false] 154)
  have W3 : Hid ((((w.alloc (.cells #[.slice am nm cm, J pc, J (nth rs 0), J (nth rs 1), J (nth rs 2), J (nth rs 3), J (nth rs 4), J (nth rs 5), J (nth rs 6), J (nth rs 7), J mo, J ba, .slice ca ck cc, J op, J oh, J ot, .bool st, J fe, J fp, J fh, J ft, .bool lo] 154)).alloc (.cells #[J 0, J x, J y, J i] 130)).alloc (.cells #[.slice none 0 0, J 0, J 0, J 0, J 0, J 0, J 0, J 0, J 0, J 0, J 0, J 0, .slice none 0 0, J 0, J 0, J 0, .bool false, J 0, J 0, J 0, J 0, .bool false] 154)).heap.size = w.heap.size + 1 + 1 + 1) := by show _ = _; simp
  generalize (((w.alloc (.cells #[.slice am nm cm, J pc, J (nth rs 0), J (nth rs 1), J (nth rs 2), J (nth rs 3), J (nth rs 4), J (nth rs 5), J (nth rs 6), J (nth rs 7), J mo, J ba, .slice ca ck cc, J op, J oh, J ot, .bool st, J fe, J fp, J fh, J ft, .bool lo] 154)).alloc (.cells #[J 0, J x, J y, J i] 130)).alloc (.cells #[.slice none 0 0, J 0, J 0, J 0, J 0, J 0, J 0, J 0, J 0, J 0, J 0, J 0, .slice none 0 0, J 0, J 0, J 0, .bool false, J 0, J 0, J 0, J 0, .bool false] 154)) = W at *
  clear X9 X8 W3
  go_wp2_with (first
    | (refine wpList_store_row rfl 154 (.tmp 4) (.tmp 8) rfl (w.heap.size + 1 + 1) _ rfl rfl _ _ Y2 infoState rfl (stateOne _ _ _ _ _ _ _ _ _ _ _ _ _ _ _ _ _ _ _ _ _ _ _ _ _ _) ?_))
  have hl := Box.loadState (Y2.setRow #[.slice none 0 0, J 0, J 0, J 0, J 0, J 0, J 0, J 0, J 0, J 0, J 0, J 0, .slice none 0 0, J 0, J 0, J 0, .bool false, J 0, J 0, J 0, J 0, .bool false]) rfl
  refine bodyPost_ret (v := .tuple #[.agg #[.slice none 0 0, J 0, J 0, J 0, J 0, J 0, J 0, J 0, J 0, J 0, J 0, J 0, .slice none 0 0, J 0, J 0, J 0, .bool false, J 0, J 0, J 0, J 0, .bool false], .bool false]) (by simp [results, Tryz.results132, asAddr, hl]) rfl ⟨false, none, 0, 0, 0, List.replicate 8 0, _, _, _, _, _, _, _, _, _, _, _, none, 0, 0, rfl, fun _ => HT.out, fun h => (by cases h), bel_setRow (by omega) B6.out _⟩
set_option maxRecDepth 10000 in
set_option maxHeartbeats 4000000 in
theorem do_1 (am : Option Addr) (nm cm : Nat) (zs : List Int) (p : Int) (rs : List Int) (mo ba op oh ot fe fp fh ft : Int) (st lo : Bool) (ca : Option Addr) (ck cc : Nat) (l : List Ln) (x y i : Int) (w : World) (_ : Sl w (.slice am nm cm) zs) (_ : Ls w (.slice ca ck cc) l) (_ : chkB ⟨mo, ba, l, op, oh, ot, st, fe, fp, fh, ft, lo⟩ = 0) (_ : chk zs = 0) (h8 : rs.length = 8) (hw : ∀ j, j < 8 → 0 ≤ nth rs j ∧ nth rs j ≤ 65535) (hx : 0 ≤ x ∧ x ≤ 7) (hy : 0 ≤ y ∧ y ≤ 7) (hi : 0 ≤ i ∧ i ≤ 63) :
    Calls Tryz.prog 132 #[.agg #[.slice am nm cm, J (nextP p), J (nth rs 0), J (nth rs 1), J (nth rs 2), J (nth rs 3), J (nth rs 4), J (nth rs 5), J (nth rs 6), J (nth rs 7), J mo, J ba, .slice ca ck cc, J op, J oh, J ot, .bool st, J fe, J fp, J fh, J ft, .bool lo], .agg #[J 1, J x, J y, J i]] w fun e w' => DoH am nm cm zs p rs mo ba op oh ot fe fp fh ft st lo ca ck cc l 1 x y i w e w' := by
  obtain ⟨hx0, hx1⟩ := hx
  obtain ⟨hy0, hy1⟩ := hy
  obtain ⟨hi0, hi1⟩ := hi
  have hx9 : x < 8 := by omega
  have hy9 : y < 8 := by omega
  have hx8 : x.toNat < 8 := by omega
  have hy8 : y.toNat < 8 := by omega
  have H8 : Hid (rs.length = 8) := h8
  have rx := hw x.toNat hx8
  have ry := hw y.toNat hy8
  obtain ⟨one, h1⟩ : ∃ one, nth rs x.toNat = one := ⟨_, rfl⟩
  obtain ⟨two, h2⟩ : ∃ two, nth rs y.toNat = two := ⟨_, rfl⟩
  have H1 : Hid (nth rs x.toNat = one) := h1
  have H2 : Hid (nth rs y.toNat = two) := h2
  rw [h1] at rx
  rw [h2] at ry
  obtain ⟨pc, hpc⟩ : ∃ pc, nextP p = pc := ⟨_, rfl⟩
  rw [hpc]
  have HPC : Hid (nextP p = pc) := hpc
  clear hpc
  have HT : Hid (exeI zs ⟨p, rs, false⟩ ⟨mo, ba, l, op, oh, ot, st, fe, fp, fh, ft, lo⟩ 1 x y i = (zs, ⟨pc, rs.set x.toNat i, false⟩, ⟨mo, ba, l, op, oh, ot, st, fe, fp, fh, ft, lo⟩)) := by show _ = _; rw [exeI, if_pos rfl, HPC.out]
  clear h1 h2 h8 hw rx ry
  go_enter Tryz.func132, Tryz.ntmps132
  go_upto_region 4 with fail
  have X0 := ((Box.newAt (w := w) (n := w.heap.size) rfl 154 #[.slice am nm cm, J pc, J (nth rs 0), J (nth rs 1), J (nth rs 2), J (nth rs 3), J (nth rs 4), J (nth rs 5), J (nth rs 6), J (nth rs 7), J mo, J ba, .slice ca ck cc, J op, J oh, J ot, .bool st, J fe, J fp, J fh, J ft, .bool lo]).past (.cells #[J 1, J x, J y, J i] 130)).past (.cells #[.slice none 0 0, J 0, J 0, J 0, J 0, J 0, J 0, J 0, J 0, J 0, J 0, J 0, .slice none 0 0, J 0, J 0, J 0, .bool false, J 0, J 0, J 0, J 0, .bool false] 154)
  have X1 := (Box.newAt (w := w.alloc (.cells #[.slice am nm cm, J pc, J (nth rs 0), J (nth rs 1), J (nth rs 2), J (nth rs 3), J (nth rs 4), J (nth rs 5), J (nth rs 6), J (nth rs 7), J mo, J ba, .slice ca ck cc, J op, J oh, J ot, .bool st, J fe, J fp, J fh, J ft, .bool lo] 154)) (n := w.heap.size + 1) (by simp) 130 #[J 1, J x, J y, J i]).past (.cells #[.slice none 0 0, J 0, J 0, J 0, J 0, J 0, J 0, J 0, J 0, J 0, J 0, J 0, .slice none 0 0, J 0, J 0, J 0, .bool false, J 0, J 0, J 0, J 0, .bool false] 154)
  have X2 := Box.newAt (w := (w.alloc (.cells #[.slice am nm cm, J pc, J (nth rs 0), J (nth rs 1), J (nth rs 2), J (nth rs 3), J (nth rs 4), J (nth rs 5), J (nth rs 6), J (nth rs 7), J mo, J ba, .slice ca ck cc, J op, J oh, J ot, .bool st, J fe, J fp, J fh, J ft, .bool lo] 154)).alloc (.cells #[J 1, J x, J y, J i] 130)) (n := w.heap.size + 1 + 1) (by simp) 154 #[.slice none 0 0, J 0, J 0, J 0, J 0, J 0, J 0, J 0, J 0, J 0, J 0, J 0, .slice none 0 0, J 0, J 0, J 0, .bool false, J 0, J 0, J 0, J 0, .bool false]
  have B0 : Hid (Below w.heap.size w _) := bel_alloc (bel_alloc (bel_alloc (Below.refl w.heap.size w) (.cells #[.slice am nm cm, J pc, J (nth rs 0), J (nth rs 1), J (nth rs 2), J (nth rs 3), J (nth rs 4), J (nth rs 5), J (nth rs 6), J (nth rs 7), J mo, J ba, .slice ca ck cc, J op, J oh, J ot, .bool st, J fe, J fp, J fh, J ft, .bool lo] 154)) (.cells #[J 1, J x, J y, J i] 130)) (.cells #[.slice none 0 0, J 0, J 0, J 0, J 0, J 0, J 0, J 0, J 0, J 0, J 0, J 0, .slice none 0 0, J 0, J 0, J 0, .bool false, J 0, J 0, J 0, J 0, .bool false] 154)
  have W3 : Hid ((((w.alloc (.cells #[.slice am nm cm, J pc, J (nth rs 0), J (nth rs 1), J (nth rs 2), J (nth rs 3), J (nth rs 4), J (nth rs 5), J (nth rs 6), J (nth rs 7), J mo, J ba, .slice ca ck cc, J op, J oh, J ot, .bool st, J fe, J fp, J fh, J ft, .bool lo] 154)).alloc (.cells #[J 1, J x, J y, J i] 130)).alloc (.cells #[.slice none 0 0, J 0, J 0, J 0, J 0, J 0, J 0, J 0, J 0, J 0, J 0, J 0, .slice none 0 0, J 0, J 0, J 0, .bool false, J 0, J 0, J 0, J 0, .bool false] 154)).heap.size = w.heap.size + 1 + 1 + 1) := by show _ = _; simp
  generalize (((w.alloc (.cells #[.slice am nm cm, J pc, J (nth rs 0), J (nth rs 1), J (nth rs 2), J (nth rs 3), J (nth rs 4), J (nth rs 5), J (nth rs 6), J (nth rs 7), J mo, J ba, .slice ca ck cc, J op, J oh, J ot, .bool st, J fe, J fp, J fh, J ft, .bool lo] 154)).alloc (.cells #[J 1, J x, J y, J i] 130)).alloc (.cells #[.slice none 0 0, J 0, J 0, J 0, J 0, J 0, J 0, J 0, J 0, J 0, J 0, J 0, .slice none 0 0, J 0, J 0, J 0, .bool false, J 0, J 0, J 0, J 0, .bool false] 154)) = W at *
  have Y0 := X0.setReg hx8 H8.out i
  have Y2 := X2.other (p := ⟨w.heap.size, 2 + x.toNat, none⟩) (by show w.heap.size + 1 + 1 ≠ w.heap.size; omega) (J i)
  have B6 : Hid (Below w.heap.size w (W.setCell ⟨w.heap.size, 2 + x.toNat, none⟩ (J i))) := bel_set (by show w.heap.size ≤ w.heap.size; omega) B0.out _
  obtain ⟨i0, i1, i2, i3, -, -, -, -, s1⟩ := X1.four
  have gx := X0.reg hx8
  have fx := X0.marksAll
  have s0 := X0.lt
  go_upto_region 20 with fail
  clear gx fx s0 X0 X2 i0 i1 i2 i3 s1 X1
  generalize (W.setCell ⟨w.heap.size, 2 + x.toNat, none⟩ (J i)) = W6 at *
  go_wp2_with (first
    | (refine wpList_load_row rfl 154 (.tmp 2) rfl w.heap.size rfl _ _ _ _ Y0 Tryz.underlying154 rfl infoState ?_)
    | (refine wpList_store_row rfl 154 (.tmp 4) (.tmp 93) rfl (w.heap.size + 1 + 1) _ rfl rfl _ _ Y2 infoState rfl (stateOne _ _ _ _ _ _ _ _ _ _ _ _ _ _ _ _ _ _ _ _ _ _ _ _ _ _) ?_))
  have hl := Box.loadState (Y2.setRow #[.slice am nm cm, J pc, J (nth (rs.set x.toNat i) 0), J (nth (rs.set x.toNat i) 1), J (nth (rs.set x.toNat i) 2), J (nth (rs.set x.toNat i) 3), J (nth (rs.set x.toNat i) 4), J (nth (rs.set x.toNat i) 5), J (nth (rs.set x.toNat i) 6), J (nth (rs.set x.toNat i) 7), J mo, J ba, .slice ca ck cc, J op, J oh, J ot, .bool st, J fe, J fp, J fh, J ft, .bool lo]) rfl
  refine bodyPost_ret (v := .tuple #[.agg #[.slice am nm cm, J pc, J (nth (rs.set x.toNat i) 0), J (nth (rs.set x.toNat i) 1), J (nth (rs.set x.toNat i) 2), J (nth (rs.set x.toNat i) 3), J (nth (rs.set x.toNat i) 4), J (nth (rs.set x.toNat i) 5), J (nth (rs.set x.toNat i) 6), J (nth (rs.set x.toNat i) 7), J mo, J ba, .slice ca ck cc, J op, J oh, J ot, .bool st, J fe, J fp, J fh, J ft, .bool lo], .bool true]) (by simp [results, Tryz.results132, asAddr, hl]) rfl ⟨_, _, _, _, _, _, _, _, _, _, _, _, _, _, _, _, _, _, _, _, rfl, fun h => (by cases h), fun _ => ⟨zs, HT.out, by rw [List.length_set]; exact H8.out, rfl, .inl ⟨rfl, rfl⟩⟩, bel_setRow (by omega) B6.out _⟩
end Go.Proofs.YthlhocneggcekaaGreat
