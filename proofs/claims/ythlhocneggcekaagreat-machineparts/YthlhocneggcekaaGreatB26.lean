/-
  Laid together: HDo4.
-/
import Derived.Test.YthlhocneggcekaaGreatB1
import Derived.Test.YthlhocneggcekaaGreatB2
import Derived.Test.YthlhocneggcekaaGreatB3
import Derived.Test.YthlhocneggcekaaGreatB4
import Derived.Test.YthlhocneggcekaaGreatB5
import Derived.Test.YthlhocneggcekaaGreatB6
import Derived.Test.YthlhocneggcekaaGreatB7
import Derived.Test.YthlhocneggcekaaGreatB9
import Derived.Test.YthlhocneggcekaaGreatB10
import Derived.Test.YthlhocneggcekaaGreatB11
import Derived.Test.YthlhocneggcekaaGreatB13
import Derived.Test.YthlhocneggcekaaGreatB14
import Derived.Test.YthlhocneggcekaaGreatB15
import Derived.Test.YthlhocneggcekaaGreatB18
import Derived.Test.YthlhocneggcekaaGreatB19
import Derived.Test.YthlhocneggcekaaGreatB20
import Derived.Test.YthlhocneggcekaaGreatB21
import Derived.Test.YthlhocneggcekaaGreatB22
import Derived.Test.YthlhocneggcekaaGreatB23
import Derived.Deep.RegionHeld3
import Derived.Maps.OwnOps
import Derived.Maps.OwnSet
import Derived.Test.YthlhocneggcekaaGreatRows
import Derived.WalkKit
import Derived.WalkSpells
import Derived.WalkLawsBesides
import Derived.Below
import Derived.WalkSmall
import Derived.Deep.QuietTactic
import Derived.BigQuiet
import Derived.Deep.Draws
import Derived.Deep.AppendLies
import Derived.Deep.RegionHeld
import Derived.Deep.RegionWith
import Derived.LoopN
import Derived.Deep.CutRange
import Derived.Deep.DrawnRows
import Derived.Laws.CopyOwn
namespace Go.Proofs.YthlhocneggcekaaGreat
open Go.RowKit
set_option maxRecDepth 10000 in
set_option maxHeartbeats 4000000 in
theorem do_4 (am : Option Addr) (nm cm : Nat) (zs : List Int) (p : Int) (rs : List Int) (mo ba op oh ot fe fp fh ft : Int) (st lo : Bool) (ca : Option Addr) (ck cc : Nat) (l : List Ln) (x y i : Int) (w : World) (hs : Sl w (.slice am nm cm) zs) (hL : Ls w (.slice ca ck cc) l) (hb : chkB ⟨mo, ba, l, op, oh, ot, st, fe, fp, fh, ft, lo⟩ = 0) (hz : chk zs = 0) (h8 : rs.length = 8) (hw : ∀ j, j < 8 → 0 ≤ nth rs j ∧ nth rs j ≤ 65535) (hx : 0 ≤ x ∧ x ≤ 7) (hy : 0 ≤ y ∧ y ≤ 7) (hi : 0 ≤ i ∧ i ≤ 63) :
    Calls Tryz.prog 132 #[.agg #[.slice am nm cm, J (nextP p), J (nth rs 0), J (nth rs 1), J (nth rs 2), J (nth rs 3), J (nth rs 4), J (nth rs 5), J (nth rs 6), J (nth rs 7), J mo, J ba, .slice ca ck cc, J op, J oh, J ot, .bool st, J fe, J fp, J fh, J ft, .bool lo], .agg #[J 4, J x, J y, J i]] w fun e w' => DoH am nm cm zs p rs mo ba op oh ot fe fp fh ft st lo ca ck cc l 4 x y i w e w' := by
  obtain ⟨pc, hpc⟩ : ∃ pc, nextP p = pc := ⟨_, rfl⟩
  rw [hpc]
  have HPC : Hid (nextP p = pc) := hpc
  clear hpc
  have HM : Hid (Sl w (.slice am nm cm) zs) := hs
  have HL : Hid (Ls w (.slice ca ck cc) l) := hL
  have HB : Hid (chkB ⟨mo, ba, l, op, oh, ot, st, fe, fp, fh, ft, lo⟩ = 0) := hb
  have HZ : Hid (chk zs = 0) := hz
  have H8 : Hid (rs.length = 8) := h8
  have HW : Hid (∀ j, j < 8 → 0 ≤ nth rs j ∧ nth rs j ≤ 65535) := hw
  have HX : Hid (0 ≤ x ∧ x ≤ 7) := hx
  have HY : Hid (0 ≤ y ∧ y ≤ 7) := hy
  have HI : Hid (0 ≤ i ∧ i ≤ 63) := hi
  clear hs hL hb hz h8 hw hx hy hi
  go_enter Tryz.func132, Tryz.ntmps132
  go_upto_region 13 with fail
  have X0 := ((Box.newAt (w := w) (n := w.heap.size) rfl 154 #[.slice am nm cm, J pc, J (nth rs 0), J (nth rs 1), J (nth rs 2), J (nth rs 3), J (nth rs 4), J (nth rs 5), J (nth rs 6), J (nth rs 7), J mo, J ba, .slice ca ck cc, J op, J oh, J ot, .bool st, J fe, J fp, J fh, J ft, .bool lo]).past (.cells #[J 4, J x, J y, J i] 130)).past (.cells #[.slice none 0 0, J 0, J 0, J 0, J 0, J 0, J 0, J 0, J 0, J 0, J 0, J 0, .slice none 0 0, J 0, J 0, J 0, .bool false, J 0, J 0, J 0, J 0, .bool false] 154)
  have X1 := (Box.newAt (w := w.alloc (.cells #[.slice am nm cm, J pc, J (nth rs 0), J (nth rs 1), J (nth rs 2), J (nth rs 3), J (nth rs 4), J (nth rs 5), J (nth rs 6), J (nth rs 7), J mo, J ba, .slice ca ck cc, J op, J oh, J ot, .bool st, J fe, J fp, J fh, J ft, .bool lo] 154)) (n := w.heap.size + 1) (by simp) 130 #[J 4, J x, J y, J i]).past (.cells #[.slice none 0 0, J 0, J 0, J 0, J 0, J 0, J 0, J 0, J 0, J 0, J 0, J 0, .slice none 0 0, J 0, J 0, J 0, .bool false, J 0, J 0, J 0, J 0, .bool false] 154)
  have X2 := Box.newAt (w := (w.alloc (.cells #[.slice am nm cm, J pc, J (nth rs 0), J (nth rs 1), J (nth rs 2), J (nth rs 3), J (nth rs 4), J (nth rs 5), J (nth rs 6), J (nth rs 7), J mo, J ba, .slice ca ck cc, J op, J oh, J ot, .bool st, J fe, J fp, J fh, J ft, .bool lo] 154)).alloc (.cells #[J 4, J x, J y, J i] 130)) (n := w.heap.size + 1 + 1) (by simp) 154 #[.slice none 0 0, J 0, J 0, J 0, J 0, J 0, J 0, J 0, J 0, J 0, J 0, J 0, .slice none 0 0, J 0, J 0, J 0, .bool false, J 0, J 0, J 0, J 0, .bool false]
  have B0 : Hid (Below w.heap.size w _) := bel_alloc (bel_alloc (bel_alloc (Below.refl w.heap.size w) (.cells #[.slice am nm cm, J pc, J (nth rs 0), J (nth rs 1), J (nth rs 2), J (nth rs 3), J (nth rs 4), J (nth rs 5), J (nth rs 6), J (nth rs 7), J mo, J ba, .slice ca ck cc, J op, J oh, J ot, .bool st, J fe, J fp, J fh, J ft, .bool lo] 154)) (.cells #[J 4, J x, J y, J i] 130)) (.cells #[.slice none 0 0, J 0, J 0, J 0, J 0, J 0, J 0, J 0, J 0, J 0, J 0, J 0, .slice none 0 0, J 0, J 0, J 0, .bool false, J 0, J 0, J 0, J 0, .bool false] 154)
  have W3 : Hid ((((w.alloc (.cells #[.slice am nm cm, J pc, J (nth rs 0), J (nth rs 1), J (nth rs 2), J (nth rs 3), J (nth rs 4), J (nth rs 5), J (nth rs 6), J (nth rs 7), J mo, J ba, .slice ca ck cc, J op, J oh, J ot, .bool st, J fe, J fp, J fh, J ft, .bool lo] 154)).alloc (.cells #[J 4, J x, J y, J i] 130)).alloc (.cells #[.slice none 0 0, J 0, J 0, J 0, J 0, J 0, J 0, J 0, J 0, J 0, J 0, J 0, .slice none 0 0, J 0, J 0, J 0, .bool false, J 0, J 0, J 0, J 0, .bool false] 154)).heap.size = w.heap.size + 1 + 1 + 1) := by show _ = _; simp
  generalize (((w.alloc (.cells #[.slice am nm cm, J pc, J (nth rs 0), J (nth rs 1), J (nth rs 2), J (nth rs 3), J (nth rs 4), J (nth rs 5), J (nth rs 6), J (nth rs 7), J mo, J ba, .slice ca ck cc, J op, J oh, J ot, .bool st, J fe, J fp, J fh, J ft, .bool lo] 154)).alloc (.cells #[J 4, J x, J y, J i] 130)).alloc (.cells #[.slice none 0 0, J 0, J 0, J 0, J 0, J 0, J 0, J 0, J 0, J 0, J 0, J 0, .slice none 0 0, J 0, J 0, J 0, .bool false, J 0, J 0, J 0, J 0, .bool false] 154)) = W at *
  have Y0 := X0
  obtain ⟨i0, i1, i2, i3, -, -, -, -, s1⟩ := X1.four
  go_wp2_with (first
    | (refine wpList_load_row rfl 154 (.tmp 2) rfl w.heap.size rfl _ _ _ _ Y0 Tryz.underlying154 rfl infoState ?_))
  refine (load_any am nm cm zs pc rs mo ba op oh ot fe fp fh ft st lo ca ck cc 4 x y i _ (HM.out.keep B0.out) HZ.out H8.out HW.out HX.out HY.out HI.out).mono ?_
  rintro e w5 ⟨z, rfl, hz1, b5⟩
  have HZ1 : Hid _ := hz1
  obtain ⟨ok, hok⟩ : ∃ ok, decide (nth rs y.toNat + i ≤ 511) = ok := ⟨_, rfl⟩
  have HOK : Hid _ := hok
  rw [hok]
  clear hz1 hok
  have Y2 := X2.keep b5
  have B6 : Hid (Below w.heap.size w w5) := bel_trans B0.out b5
  have S5 : Hid (w.heap.size + 1 + 1 + 1 ≤ w5.heap.size) := by show _ ≤ _; have := b5.size; have w3 := W3.out; omega
  clear X0 X1 X2 Y0 i0 i1 i2 i3 s1 b5
  go_wp2_with (first
    | (refine wpList_store_row rfl 154 (.tmp 4) (.tmp 70) rfl (w.heap.size + 1 + 1) _ rfl rfl _ _ Y2 infoState rfl (stateOne _ _ _ _ _ _ _ _ _ _ _ _ _ _ _ _ _ _ _ _ _ _ _ _ _ _) ?_))
  have hl := Box.loadState (Y2.setRow #[.slice am nm cm, J pc, J (nth (rs.set x.toNat z) 0), J (nth (rs.set x.toNat z) 1), J (nth (rs.set x.toNat z) 2), J (nth (rs.set x.toNat z) 3), J (nth (rs.set x.toNat z) 4), J (nth (rs.set x.toNat z) 5), J (nth (rs.set x.toNat z) 6), J (nth (rs.set x.toNat z) 7), J mo, J ba, .slice ca ck cc, J op, J oh, J ot, .bool st, J fe, J fp, J fh, J ft, .bool lo]) rfl
  refine bodyPost_ret (v := .tuple #[.agg #[.slice am nm cm, J pc, J (nth (rs.set x.toNat z) 0), J (nth (rs.set x.toNat z) 1), J (nth (rs.set x.toNat z) 2), J (nth (rs.set x.toNat z) 3), J (nth (rs.set x.toNat z) 4), J (nth (rs.set x.toNat z) 5), J (nth (rs.set x.toNat z) 6), J (nth (rs.set x.toNat z) 7), J mo, J ba, .slice ca ck cc, J op, J oh, J ot, .bool st, J fe, J fp, J fh, J ft, .bool lo], .bool ok]) (by simp [results, Tryz.results132, asAddr, hl]) rfl ⟨_, _, _, _, _, _, _, _, _, _, _, _, _, _, _, _, _, _, _, _, rfl, fun h => by rw [exeI, if_neg (by decide), if_neg (by decide), if_neg (by decide), if_pos rfl, if_neg (of_decide_eq_false (HOK.out.trans h))], fun h => ⟨zs, by rw [exeI, if_neg (by decide), if_neg (by decide), if_neg (by decide), if_pos rfl, if_pos (of_decide_eq_true (HOK.out.trans h)), HPC.out, HZ1.out (of_decide_eq_true (HOK.out.trans h))], by rw [List.length_set]; exact H8.out, rfl, .inl ⟨rfl, rfl⟩⟩, bel_setRow (by omega) B6.out _⟩
set_option maxRecDepth 10000 in
set_option maxHeartbeats 4000000 in
theorem do_5 (am : Option Addr) (nm cm : Nat) (zs : List Int) (p : Int) (rs : List Int) (mo ba op oh ot fe fp fh ft : Int) (st lo : Bool) (ca : Option Addr) (ck cc : Nat) (l : List Ln) (x y i : Int) (w : World) (hs : Sl w (.slice am nm cm) zs) (hL : Ls w (.slice ca ck cc) l) (hb : chkB ⟨mo, ba, l, op, oh, ot, st, fe, fp, fh, ft, lo⟩ = 0) (hz : chk zs = 0) (h8 : rs.length = 8) (hw : ∀ j, j < 8 → 0 ≤ nth rs j ∧ nth rs j ≤ 65535) (hx : 0 ≤ x ∧ x ≤ 7) (hy : 0 ≤ y ∧ y ≤ 7) (hi : 0 ≤ i ∧ i ≤ 63) :
    Calls Tryz.prog 132 #[.agg #[.slice am nm cm, J (nextP p), J (nth rs 0), J (nth rs 1), J (nth rs 2), J (nth rs 3), J (nth rs 4), J (nth rs 5), J (nth rs 6), J (nth rs 7), J mo, J ba, .slice ca ck cc, J op, J oh, J ot, .bool st, J fe, J fp, J fh, J ft, .bool lo], .agg #[J 5, J x, J y, J i]] w fun e w' => DoH am nm cm zs p rs mo ba op oh ot fe fp fh ft st lo ca ck cc l 5 x y i w e w' := by
  obtain ⟨pc, hpc⟩ : ∃ pc, nextP p = pc := ⟨_, rfl⟩
  rw [hpc]
  have HPC : Hid (nextP p = pc) := hpc
  clear hpc
  have HM : Hid (Sl w (.slice am nm cm) zs) := hs
  have HL : Hid (Ls w (.slice ca ck cc) l) := hL
  have HB : Hid (chkB ⟨mo, ba, l, op, oh, ot, st, fe, fp, fh, ft, lo⟩ = 0) := hb
  have HZ : Hid (chk zs = 0) := hz
  have H8 : Hid (rs.length = 8) := h8
  have HW : Hid (∀ j, j < 8 → 0 ≤ nth rs j ∧ nth rs j ≤ 65535) := hw
  have HX : Hid (0 ≤ x ∧ x ≤ 7) := hx
  have HY : Hid (0 ≤ y ∧ y ≤ 7) := hy
  have HI : Hid (0 ≤ i ∧ i ≤ 63) := hi
  clear hs hL hb hz h8 hw hx hy hi
  go_enter Tryz.func132, Tryz.ntmps132
  go_upto_region 15 with fail
  have X0 := ((Box.newAt (w := w) (n := w.heap.size) rfl 154 #[.slice am nm cm, J pc, J (nth rs 0), J (nth rs 1), J (nth rs 2), J (nth rs 3), J (nth rs 4), J (nth rs 5), J (nth rs 6), J (nth rs 7), J mo, J ba, .slice ca ck cc, J op, J oh, J ot, .bool st, J fe, J fp, J fh, J ft, .bool lo]).past (.cells #[J 5, J x, J y, J i] 130)).past (.cells #[.slice none 0 0, J 0, J 0, J 0, J 0, J 0, J 0, J 0, J 0, J 0, J 0, J 0, .slice none 0 0, J 0, J 0, J 0, .bool false, J 0, J 0, J 0, J 0, .bool false] 154)
  have X1 := (Box.newAt (w := w.alloc (.cells #[.slice am nm cm, J pc, J (nth rs 0), J (nth rs 1), J (nth rs 2), J (nth rs 3), J (nth rs 4), J (nth rs 5), J (nth rs 6), J (nth rs 7), J mo, J ba, .slice ca ck cc, J op, J oh, J ot, .bool st, J fe, J fp, J fh, J ft, .bool lo] 154)) (n := w.heap.size + 1) (by simp) 130 #[J 5, J x, J y, J i]).past (.cells #[.slice none 0 0, J 0, J 0, J 0, J 0, J 0, J 0, J 0, J 0, J 0, J 0, J 0, .slice none 0 0, J 0, J 0, J 0, .bool false, J 0, J 0, J 0, J 0, .bool false] 154)
  have X2 := Box.newAt (w := (w.alloc (.cells #[.slice am nm cm, J pc, J (nth rs 0), J (nth rs 1), J (nth rs 2), J (nth rs 3), J (nth rs 4), J (nth rs 5), J (nth rs 6), J (nth rs 7), J mo, J ba, .slice ca ck cc, J op, J oh, J ot, .bool st, J fe, J fp, J fh, J ft, .bool lo] 154)).alloc (.cells #[J 5, J x, J y, J i] 130)) (n := w.heap.size + 1 + 1) (by simp) 154 #[.slice none 0 0, J 0, J 0, J 0, J 0, J 0, J 0, J 0, J 0, J 0, J 0, J 0, .slice none 0 0, J 0, J 0, J 0, .bool false, J 0, J 0, J 0, J 0, .bool false]
  have B0 : Hid (Below w.heap.size w _) := bel_alloc (bel_alloc (bel_alloc (Below.refl w.heap.size w) (.cells #[.slice am nm cm, J pc, J (nth rs 0), J (nth rs 1), J (nth rs 2), J (nth rs 3), J (nth rs 4), J (nth rs 5), J (nth rs 6), J (nth rs 7), J mo, J ba, .slice ca ck cc, J op, J oh, J ot, .bool st, J fe, J fp, J fh, J ft, .bool lo] 154)) (.cells #[J 5, J x, J y, J i] 130)) (.cells #[.slice none 0 0, J 0, J 0, J 0, J 0, J 0, J 0, J 0, J 0, J 0, J 0, J 0, .slice none 0 0, J 0, J 0, J 0, .bool false, J 0, J 0, J 0, J 0, .bool false] 154)
  have W3 : Hid ((((w.alloc (.cells #[.slice am nm cm, J pc, J (nth rs 0), J (nth rs 1), J (nth rs 2), J (nth rs 3), J (nth rs 4), J (nth rs 5), J (nth rs 6), J (nth rs 7), J mo, J ba, .slice ca ck cc, J op, J oh, J ot, .bool st, J fe, J fp, J fh, J ft, .bool lo] 154)).alloc (.cells #[J 5, J x, J y, J i] 130)).alloc (.cells #[.slice none 0 0, J 0, J 0, J 0, J 0, J 0, J 0, J 0, J 0, J 0, J 0, J 0, .slice none 0 0, J 0, J 0, J 0, .bool false, J 0, J 0, J 0, J 0, .bool false] 154)).heap.size = w.heap.size + 1 + 1 + 1) := by show _ = _; simp
  generalize (((w.alloc (.cells #[.slice am nm cm, J pc, J (nth rs 0), J (nth rs 1), J (nth rs 2), J (nth rs 3), J (nth rs 4), J (nth rs 5), J (nth rs 6), J (nth rs 7), J mo, J ba, .slice ca ck cc, J op, J oh, J ot, .bool st, J fe, J fp, J fh, J ft, .bool lo] 154)).alloc (.cells #[J 5, J x, J y, J i] 130)).alloc (.cells #[.slice none 0 0, J 0, J 0, J 0, J 0, J 0, J 0, J 0, J 0, J 0, J 0, J 0, .slice none 0 0, J 0, J 0, J 0, .bool false, J 0, J 0, J 0, J 0, .bool false] 154)) = W at *
  have Y0 := X0
  obtain ⟨i0, i1, i2, i3, -, -, -, -, s1⟩ := X1.four
  go_wp2_with (first
    | (refine wpList_load_row rfl 154 (.tmp 2) rfl w.heap.size rfl _ _ _ _ Y0 Tryz.underlying154 rfl infoState ?_))
  refine (store_any am nm cm zs pc rs mo ba op oh ot fe fp fh ft st lo ca ck cc 5 x y i _ (HM.out.keep B0.out) HZ.out H8.out HW.out HX.out HY.out HI.out).mono ?_
  rintro e w5 ⟨a1, n1, c1, rfl, hz1, b5⟩
  have HZ1 : Hid _ := hz1
  obtain ⟨ok, hok⟩ : ∃ ok, decide (nth rs y.toNat + i ≤ 511) = ok := ⟨_, rfl⟩
  have HOK : Hid _ := hok
  rw [hok]
  clear hz1 hok
  have Y2 := X2.keep b5
  have B6 : Hid (Below w.heap.size w w5) := bel_trans B0.out b5
  have S5 : Hid (w.heap.size + 1 + 1 + 1 ≤ w5.heap.size) := by show _ ≤ _; have := b5.size; have w3 := W3.out; omega
  clear X0 X1 X2 Y0 i0 i1 i2 i3 s1 b5
  go_wp2_with (first
    | (refine wpList_store_row rfl 154 (.tmp 4) (.tmp 77) rfl (w.heap.size + 1 + 1) _ rfl rfl _ _ Y2 infoState rfl (stateOne _ _ _ _ _ _ _ _ _ _ _ _ _ _ _ _ _ _ _ _ _ _ _ _ _ _) ?_))
  have hl := Box.loadState (Y2.setRow #[.slice a1 n1 c1, J pc, J (nth rs 0), J (nth rs 1), J (nth rs 2), J (nth rs 3), J (nth rs 4), J (nth rs 5), J (nth rs 6), J (nth rs 7), J mo, J ba, .slice ca ck cc, J op, J oh, J ot, .bool st, J fe, J fp, J fh, J ft, .bool lo]) rfl
  refine bodyPost_ret (v := .tuple #[.agg #[.slice a1 n1 c1, J pc, J (nth rs 0), J (nth rs 1), J (nth rs 2), J (nth rs 3), J (nth rs 4), J (nth rs 5), J (nth rs 6), J (nth rs 7), J mo, J ba, .slice ca ck cc, J op, J oh, J ot, .bool st, J fe, J fp, J fh, J ft, .bool lo], .bool ok]) (by simp [results, Tryz.results132, asAddr, hl]) rfl ⟨_, _, _, _, _, _, _, _, _, _, _, _, _, _, _, _, _, _, _, _, rfl, fun h => by rw [exeI, if_neg (by decide), if_neg (by decide), if_neg (by decide), if_neg (by decide), if_pos rfl, if_neg (of_decide_eq_false (HOK.out.trans h))], fun h => ⟨_, by rw [exeI, if_neg (by decide), if_neg (by decide), if_neg (by decide), if_neg (by decide), if_pos rfl, if_pos (of_decide_eq_true (HOK.out.trans h)), HPC.out], H8.out, rfl, .inr ⟨(HZ1.out (of_decide_eq_true (HOK.out.trans h))).1.otherRow ((HZ1.out (of_decide_eq_true (HOK.out.trans h))).2.ne (by have := W3.out; omega)) _, (HZ1.out (of_decide_eq_true (HOK.out.trans h))).2.mono (by have := W3.out; omega)⟩⟩, bel_setRow (by omega) B6.out _⟩
set_option maxRecDepth 10000 in
set_option maxHeartbeats 4000000 in
theorem do_7 (am : Option Addr) (nm cm : Nat) (zs : List Int) (p : Int) (rs : List Int) (mo ba op oh ot fe fp fh ft : Int) (st lo : Bool) (ca : Option Addr) (ck cc : Nat) (l : List Ln) (x y i : Int) (w : World) (_ : Sl w (.slice am nm cm) zs) (hL : Ls w (.slice ca ck cc) l) (hb : chkB ⟨mo, ba, l, op, oh, ot, st, fe, fp, fh, ft, lo⟩ = 0) (_ : chk zs = 0) (h8 : rs.length = 8) (hw : ∀ j, j < 8 → 0 ≤ nth rs j ∧ nth rs j ≤ 65535) (hx : 0 ≤ x ∧ x ≤ 7) (hy : 0 ≤ y ∧ y ≤ 7) (hi : 0 ≤ i ∧ i ≤ 63) :
    Calls Tryz.prog 132 #[.agg #[.slice am nm cm, J (nextP p), J (nth rs 0), J (nth rs 1), J (nth rs 2), J (nth rs 3), J (nth rs 4), J (nth rs 5), J (nth rs 6), J (nth rs 7), J mo, J ba, .slice ca ck cc, J op, J oh, J ot, .bool st, J fe, J fp, J fh, J ft, .bool lo], .agg #[J 7, J x, J y, J i]] w fun e w' => DoH am nm cm zs p rs mo ba op oh ot fe fp fh ft st lo ca ck cc l 7 x y i w e w' := by
  obtain ⟨pc, hpc⟩ : ∃ pc, nextP p = pc := ⟨_, rfl⟩
  rw [hpc]
  have HPC : Hid (nextP p = pc) := hpc
  clear hpc
  have HL : Hid (Ls w (.slice ca ck cc) l) := hL
  have HB : Hid (chkB ⟨mo, ba, l, op, oh, ot, st, fe, fp, fh, ft, lo⟩ = 0) := hb
  have H8 : Hid (rs.length = 8) := h8
  have HW : Hid (∀ j, j < 8 → 0 ≤ nth rs j ∧ nth rs j ≤ 65535) := hw
  have HX : Hid (0 ≤ x ∧ x ≤ 7) := hx
  have HY : Hid (0 ≤ y ∧ y ≤ 7) := hy
  have HI : Hid (0 ≤ i ∧ i ≤ 63) := hi
  clear hL hb h8 hw hx hy hi
  go_enter Tryz.func132, Tryz.ntmps132
  go_upto_region 19 with fail
  have X0 := ((Box.newAt (w := w) (n := w.heap.size) rfl 154 #[.slice am nm cm, J pc, J (nth rs 0), J (nth rs 1), J (nth rs 2), J (nth rs 3), J (nth rs 4), J (nth rs 5), J (nth rs 6), J (nth rs 7), J mo, J ba, .slice ca ck cc, J op, J oh, J ot, .bool st, J fe, J fp, J fh, J ft, .bool lo]).past (.cells #[J 7, J x, J y, J i] 130)).past (.cells #[.slice none 0 0, J 0, J 0, J 0, J 0, J 0, J 0, J 0, J 0, J 0, J 0, J 0, .slice none 0 0, J 0, J 0, J 0, .bool false, J 0, J 0, J 0, J 0, .bool false] 154)
  have X1 := (Box.newAt (w := w.alloc (.cells #[.slice am nm cm, J pc, J (nth rs 0), J (nth rs 1), J (nth rs 2), J (nth rs 3), J (nth rs 4), J (nth rs 5), J (nth rs 6), J (nth rs 7), J mo, J ba, .slice ca ck cc, J op, J oh, J ot, .bool st, J fe, J fp, J fh, J ft, .bool lo] 154)) (n := w.heap.size + 1) (by simp) 130 #[J 7, J x, J y, J i]).past (.cells #[.slice none 0 0, J 0, J 0, J 0, J 0, J 0, J 0, J 0, J 0, J 0, J 0, J 0, .slice none 0 0, J 0, J 0, J 0, .bool false, J 0, J 0, J 0, J 0, .bool false] 154)
  have X2 := Box.newAt (w := (w.alloc (.cells #[.slice am nm cm, J pc, J (nth rs 0), J (nth rs 1), J (nth rs 2), J (nth rs 3), J (nth rs 4), J (nth rs 5), J (nth rs 6), J (nth rs 7), J mo, J ba, .slice ca ck cc, J op, J oh, J ot, .bool st, J fe, J fp, J fh, J ft, .bool lo] 154)).alloc (.cells #[J 7, J x, J y, J i] 130)) (n := w.heap.size + 1 + 1) (by simp) 154 #[.slice none 0 0, J 0, J 0, J 0, J 0, J 0, J 0, J 0, J 0, J 0, J 0, J 0, .slice none 0 0, J 0, J 0, J 0, .bool false, J 0, J 0, J 0, J 0, .bool false]
  have B0 : Hid (Below w.heap.size w _) := bel_alloc (bel_alloc (bel_alloc (Below.refl w.heap.size w) (.cells #[.slice am nm cm, J pc, J (nth rs 0), J (nth rs 1), J (nth rs 2), J (nth rs 3), J (nth rs 4), J (nth rs 5), J (nth rs 6), J (nth rs 7), J mo, J ba, .slice ca ck cc, J op, J oh, J ot, .bool st, J fe, J fp, J fh, J ft, .bool lo] 154)) (.cells #[J 7, J x, J y, J i] 130)) (.cells #[.slice none 0 0, J 0, J 0, J 0, J 0, J 0, J 0, J 0, J 0, J 0, J 0, J 0, .slice none 0 0, J 0, J 0, J 0, .bool false, J 0, J 0, J 0, J 0, .bool false] 154)
  have W3 : Hid ((((w.alloc (.cells #[.slice am nm cm, J pc, J (nth rs 0), J (nth rs 1), J (nth rs 2), J (nth rs 3), J (nth rs 4), J (nth rs 5), J (nth rs 6), J (nth rs 7), J mo, J ba, .slice ca ck cc, J op, J oh, J ot, .bool st, J fe, J fp, J fh, J ft, .bool lo] 154)).alloc (.cells #[J 7, J x, J y, J i] 130)).alloc (.cells #[.slice none 0 0, J 0, J 0, J 0, J 0, J 0, J 0, J 0, J 0, J 0, J 0, J 0, .slice none 0 0, J 0, J 0, J 0, .bool false, J 0, J 0, J 0, J 0, .bool false] 154)).heap.size = w.heap.size + 1 + 1 + 1) := by show _ = _; simp
  generalize (((w.alloc (.cells #[.slice am nm cm, J pc, J (nth rs 0), J (nth rs 1), J (nth rs 2), J (nth rs 3), J (nth rs 4), J (nth rs 5), J (nth rs 6), J (nth rs 7), J mo, J ba, .slice ca ck cc, J op, J oh, J ot, .bool st, J fe, J fp, J fh, J ft, .bool lo] 154)).alloc (.cells #[J 7, J x, J y, J i] 130)).alloc (.cells #[.slice none 0 0, J 0, J 0, J 0, J 0, J 0, J 0, J 0, J 0, J 0, J 0, J 0, .slice none 0 0, J 0, J 0, J 0, .bool false, J 0, J 0, J 0, J 0, .bool false] 154)) = W at *
  have Y0 := X0
  obtain ⟨i0, i1, i2, i3, -, -, -, -, s1⟩ := X1.four
  go_wp2_with (first
    | (refine wpList_load_row rfl 154 (.tmp 2) rfl w.heap.size rfl _ _ _ _ Y0 Tryz.underlying154 rfl infoState ?_))
  refine (hOut_any am nm cm pc rs mo ba op oh ot fe fp fh ft st lo ca ck cc l 7 x y i _ (HL.out.keep B0.out) HB.out H8.out HW.out HX.out HY.out HI.out).mono ?_
  rintro e w5 ⟨mo1, ba1, op1, oh1, ot1, fe1, fp1, fh1, ft1, st1, lo1, ca1, ck1, cc1, rfl, hz1, b5⟩
  have HZ1 : Hid _ := hz1
  obtain ⟨ok, hok⟩ : ∃ ok, decide (nth rs x.toNat ≤ mostB i) = ok := ⟨_, rfl⟩
  have HOK : Hid _ := hok
  rw [hok]
  clear hz1 hok
  have Y2 := X2.keep b5
  have B6 : Hid (Below w.heap.size w w5) := bel_trans B0.out b5
  have S5 : Hid (w.heap.size + 1 + 1 + 1 ≤ w5.heap.size) := by show _ ≤ _; have := b5.size; have w3 := W3.out; omega
  clear X0 X1 X2 Y0 i0 i1 i2 i3 s1 b5
  go_wp2_with (first
    | (refine wpList_store_row rfl 154 (.tmp 4) (.tmp 91) rfl (w.heap.size + 1 + 1) _ rfl rfl _ _ Y2 infoState rfl (stateOne _ _ _ _ _ _ _ _ _ _ _ _ _ _ _ _ _ _ _ _ _ _ _ _ _ _) ?_))
  have hl := Box.loadState (Y2.setRow #[.slice am nm cm, J pc, J (nth rs 0), J (nth rs 1), J (nth rs 2), J (nth rs 3), J (nth rs 4), J (nth rs 5), J (nth rs 6), J (nth rs 7), J mo1, J ba1, .slice ca1 ck1 cc1, J op1, J oh1, J ot1, .bool st1, J fe1, J fp1, J fh1, J ft1, .bool lo1]) rfl
  refine bodyPost_ret (v := .tuple #[.agg #[.slice am nm cm, J pc, J (nth rs 0), J (nth rs 1), J (nth rs 2), J (nth rs 3), J (nth rs 4), J (nth rs 5), J (nth rs 6), J (nth rs 7), J mo1, J ba1, .slice ca1 ck1 cc1, J op1, J oh1, J ot1, .bool st1, J fe1, J fp1, J fh1, J ft1, .bool lo1], .bool ok]) (by simp [results, Tryz.results132, asAddr, hl]) rfl ⟨_, _, _, _, _, _, _, _, _, _, _, _, _, _, _, _, _, _, _, _, rfl, fun h => by rw [exeI, if_neg (by decide), if_neg (by decide), if_neg (by decide), if_neg (by decide), if_neg (by decide), if_neg (by decide), if_pos rfl, if_neg (of_decide_eq_false (HOK.out.trans h))], fun h => ⟨zs, by rw [exeI, if_neg (by decide), if_neg (by decide), if_neg (by decide), if_neg (by decide), if_neg (by decide), if_neg (by decide), if_pos rfl, if_pos (of_decide_eq_true (HOK.out.trans h)), HPC.out, (HZ1.out (of_decide_eq_true (HOK.out.trans h))).2], H8.out, (HZ1.out (of_decide_eq_true (HOK.out.trans h))).1, .inl ⟨rfl, rfl⟩⟩, bel_setRow (by omega) B6.out _⟩
set_option maxRecDepth 10000 in
set_option maxHeartbeats 4000000 in
theorem do_8 (am : Option Addr) (nm cm : Nat) (zs : List Int) (p : Int) (rs : List Int) (mo ba op oh ot fe fp fh ft : Int) (st lo : Bool) (ca : Option Addr) (ck cc : Nat) (l : List Ln) (x y i : Int) (w : World) (_ : Sl w (.slice am nm cm) zs) (_ : Ls w (.slice ca ck cc) l) (_ : chkB ⟨mo, ba, l, op, oh, ot, st, fe, fp, fh, ft, lo⟩ = 0) (_ : chk zs = 0) (h8 : rs.length = 8) (hw : ∀ j, j < 8 → 0 ≤ nth rs j ∧ nth rs j ≤ 65535) (hx : 0 ≤ x ∧ x ≤ 7) (hy : 0 ≤ y ∧ y ≤ 7) (hi : 0 ≤ i ∧ i ≤ 63) :
    Calls Tryz.prog 132 #[.agg #[.slice am nm cm, J (nextP p), J (nth rs 0), J (nth rs 1), J (nth rs 2), J (nth rs 3), J (nth rs 4), J (nth rs 5), J (nth rs 6), J (nth rs 7), J mo, J ba, .slice ca ck cc, J op, J oh, J ot, .bool st, J fe, J fp, J fh, J ft, .bool lo], .agg #[J 8, J x, J y, J i]] w fun e w' => DoH am nm cm zs p rs mo ba op oh ot fe fp fh ft st lo ca ck cc l 8 x y i w e w' := by
  obtain ⟨pc, hpc⟩ : ∃ pc, nextP p = pc := ⟨_, rfl⟩
  rw [hpc]
  have HPC : Hid (nextP p = pc) := hpc
  clear hpc
  have H8 : Hid (rs.length = 8) := h8
  have HW : Hid (∀ j, j < 8 → 0 ≤ nth rs j ∧ nth rs j ≤ 65535) := hw
  have HX : Hid (0 ≤ x ∧ x ≤ 7) := hx
  have HY : Hid (0 ≤ y ∧ y ≤ 7) := hy
  have HI : Hid (0 ≤ i ∧ i ≤ 63) := hi
  clear h8 hw hx hy hi
  go_enter Tryz.func132, Tryz.ntmps132
  go_upto_region 17 with fail
  have X0 := ((Box.newAt (w := w) (n := w.heap.size) rfl 154 #[.slice am nm cm, J pc, J (nth rs 0), J (nth rs 1), J (nth rs 2), J (nth rs 3), J (nth rs 4), J (nth rs 5), J (nth rs 6), J (nth rs 7), J mo, J ba, .slice ca ck cc, J op, J oh, J ot, .bool st, J fe, J fp, J fh, J ft, .bool lo]).past (.cells #[J 8, J x, J y, J i] 130)).past (.cells #[.slice none 0 0, J 0, J 0, J 0, J 0, J 0, J 0, J 0, J 0, J 0, J 0, J 0, .slice none 0 0, J 0, J 0, J 0, .bool false, J 0, J 0, J 0, J 0, .bool false] 154)
  have X1 := (Box.newAt (w := w.alloc (.cells #[.slice am nm cm, J pc, J (nth rs 0), J (nth rs 1), J (nth rs 2), J (nth rs 3), J (nth rs 4), J (nth rs 5), J (nth rs 6), J (nth rs 7), J mo, J ba, .slice ca ck cc, J op, J oh, J ot, .bool st, J fe, J fp, J fh, J ft, .bool lo] 154)) (n := w.heap.size + 1) (by simp) 130 #[J 8, J x, J y, J i]).past (.cells #[.slice none 0 0, J 0, J 0, J 0, J 0, J 0, J 0, J 0, J 0, J 0, J 0, J 0, .slice none 0 0, J 0, J 0, J 0, .bool false, J 0, J 0, J 0, J 0, .bool false] 154)
  have X2 := Box.newAt (w := (w.alloc (.cells #[.slice am nm cm, J pc, J (nth rs 0), J (nth rs 1), J (nth rs 2), J (nth rs 3), J (nth rs 4), J (nth rs 5), J (nth rs 6), J (nth rs 7), J mo, J ba, .slice ca ck cc, J op, J oh, J ot, .bool st, J fe, J fp, J fh, J ft, .bool lo] 154)).alloc (.cells #[J 8, J x, J y, J i] 130)) (n := w.heap.size + 1 + 1) (by simp) 154 #[.slice none 0 0, J 0, J 0, J 0, J 0, J 0, J 0, J 0, J 0, J 0, J 0, J 0, .slice none 0 0, J 0, J 0, J 0, .bool false, J 0, J 0, J 0, J 0, .bool false]
  have B0 : Hid (Below w.heap.size w _) := bel_alloc (bel_alloc (bel_alloc (Below.refl w.heap.size w) (.cells #[.slice am nm cm, J pc, J (nth rs 0), J (nth rs 1), J (nth rs 2), J (nth rs 3), J (nth rs 4), J (nth rs 5), J (nth rs 6), J (nth rs 7), J mo, J ba, .slice ca ck cc, J op, J oh, J ot, .bool st, J fe, J fp, J fh, J ft, .bool lo] 154)) (.cells #[J 8, J x, J y, J i] 130)) (.cells #[.slice none 0 0, J 0, J 0, J 0, J 0, J 0, J 0, J 0, J 0, J 0, J 0, J 0, .slice none 0 0, J 0, J 0, J 0, .bool false, J 0, J 0, J 0, J 0, .bool false] 154)
  have W3 : Hid ((((w.alloc (.cells #[.slice am nm cm, J pc, J (nth rs 0), J (nth rs 1), J (nth rs 2), J (nth rs 3), J (nth rs 4), J (nth rs 5), J (nth rs 6), J (nth rs 7), J mo, J ba, .slice ca ck cc, J op, J oh, J ot, .bool st, J fe, J fp, J fh, J ft, .bool lo] 154)).alloc (.cells #[J 8, J x, J y, J i] 130)).alloc (.cells #[.slice none 0 0, J 0, J 0, J 0, J 0, J 0, J 0, J 0, J 0, J 0, J 0, J 0, .slice none 0 0, J 0, J 0, J 0, .bool false, J 0, J 0, J 0, J 0, .bool false] 154)).heap.size = w.heap.size + 1 + 1 + 1) := by show _ = _; simp
  generalize (((w.alloc (.cells #[.slice am nm cm, J pc, J (nth rs 0), J (nth rs 1), J (nth rs 2), J (nth rs 3), J (nth rs 4), J (nth rs 5), J (nth rs 6), J (nth rs 7), J mo, J ba, .slice ca ck cc, J op, J oh, J ot, .bool st, J fe, J fp, J fh, J ft, .bool lo] 154)).alloc (.cells #[J 8, J x, J y, J i] 130)).alloc (.cells #[.slice none 0 0, J 0, J 0, J 0, J 0, J 0, J 0, J 0, J 0, J 0, J 0, J 0, .slice none 0 0, J 0, J 0, J 0, .bool false, J 0, J 0, J 0, J 0, .bool false] 154)) = W at *
  have Y0 := X0
  obtain ⟨i0, i1, i2, i3, -, -, -, -, s1⟩ := X1.four
  go_wp2_with (first
    | (refine wpList_load_row rfl 154 (.tmp 2) rfl w.heap.size rfl _ _ _ _ Y0 Tryz.underlying154 rfl infoState ?_))
  refine (hIn_any am nm cm pc rs mo ba op oh ot fe fp fh ft st lo ca ck cc l 8 x y i _ H8.out HW.out HX.out HY.out HI.out).mono ?_
  rintro e w5 ⟨z, rfl, hz1, b5⟩
  have HZ1 : Hid _ := hz1
  obtain ⟨ok, hok⟩ : ∃ ok, decide (i ≤ 9) = ok := ⟨_, rfl⟩
  have HOK : Hid _ := hok
  rw [hok]
  clear hz1 hok
  have Y2 := X2.keep b5
  have B6 : Hid (Below w.heap.size w w5) := bel_trans B0.out b5
  have S5 : Hid (w.heap.size + 1 + 1 + 1 ≤ w5.heap.size) := by show _ ≤ _; have := b5.size; have w3 := W3.out; omega
  clear X0 X1 X2 Y0 i0 i1 i2 i3 s1 b5
  go_wp2_with (first
    | (refine wpList_store_row rfl 154 (.tmp 4) (.tmp 84) rfl (w.heap.size + 1 + 1) _ rfl rfl _ _ Y2 infoState rfl (stateOne _ _ _ _ _ _ _ _ _ _ _ _ _ _ _ _ _ _ _ _ _ _ _ _ _ _) ?_))
  have hl := Box.loadState (Y2.setRow #[.slice am nm cm, J pc, J (nth (rs.set x.toNat z) 0), J (nth (rs.set x.toNat z) 1), J (nth (rs.set x.toNat z) 2), J (nth (rs.set x.toNat z) 3), J (nth (rs.set x.toNat z) 4), J (nth (rs.set x.toNat z) 5), J (nth (rs.set x.toNat z) 6), J (nth (rs.set x.toNat z) 7), J mo, J ba, .slice ca ck cc, J op, J oh, J ot, .bool st, J fe, J fp, J fh, J ft, .bool lo]) rfl
  refine bodyPost_ret (v := .tuple #[.agg #[.slice am nm cm, J pc, J (nth (rs.set x.toNat z) 0), J (nth (rs.set x.toNat z) 1), J (nth (rs.set x.toNat z) 2), J (nth (rs.set x.toNat z) 3), J (nth (rs.set x.toNat z) 4), J (nth (rs.set x.toNat z) 5), J (nth (rs.set x.toNat z) 6), J (nth (rs.set x.toNat z) 7), J mo, J ba, .slice ca ck cc, J op, J oh, J ot, .bool st, J fe, J fp, J fh, J ft, .bool lo], .bool ok]) (by simp [results, Tryz.results132, asAddr, hl]) rfl ⟨_, _, _, _, _, _, _, _, _, _, _, _, _, _, _, _, _, _, _, _, rfl, fun h => by rw [exeI, if_neg (by decide), if_neg (by decide), if_neg (by decide), if_neg (by decide), if_neg (by decide), if_neg (by decide), if_neg (by decide), if_pos rfl, if_neg (of_decide_eq_false (HOK.out.trans h))], fun h => ⟨zs, by rw [exeI, if_neg (by decide), if_neg (by decide), if_neg (by decide), if_neg (by decide), if_neg (by decide), if_neg (by decide), if_neg (by decide), if_pos rfl, if_pos (of_decide_eq_true (HOK.out.trans h)), HPC.out, HZ1.out (of_decide_eq_true (HOK.out.trans h))], by rw [List.length_set]; exact H8.out, rfl, .inl ⟨rfl, rfl⟩⟩, bel_setRow (by omega) B6.out _⟩
end Go.Proofs.YthlhocneggcekaaGreat
