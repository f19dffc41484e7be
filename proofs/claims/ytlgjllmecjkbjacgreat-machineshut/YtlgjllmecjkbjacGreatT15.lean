/-
  Laid together: HDo4, Code1, HasI, InsW1, InsW2, InsW3, InsW4, InsWord, Code2, Coded.
-/
import Derived.Test.YtlgjllmecjkbjacGreatT14
import Derived.Deep.RegionHeld3
/-
  Package hart: do, kind by kind: the state when an instruction is done, or not; nothing that was there turns.
-/
namespace Go.Proofs.YtlgjllmecjkbjacGreat
open Go.RowKit
set_option maxRecDepth 10000 in
set_option maxHeartbeats 4000000 in
theorem do_4 (am : Option Addr) (nm cm : Nat) (zs : List Int) (p : Int) (rs : List Int) (mo ba op oh ot fe fp fh ft : Int) (st lo : Bool) (ca : Option Addr) (ck cc : Nat) (l : List Ln) (x y i : Int) (w : World) (hs : Sl w (.slice am nm cm) zs) (hL : Ls w (.slice ca ck cc) l) (hb : chkB ⟨mo, ba, l, op, oh, ot, st, fe, fp, fh, ft, lo⟩ = 0) (hz : chk zs = 0) (h8 : rs.length = 8) (hw : ∀ j, j < 8 → 0 ≤ nth rs j ∧ nth rs j ≤ 65535) (hx : 0 ≤ x ∧ x ≤ 7) (hy : 0 ≤ y ∧ y ≤ 7) (hi : 0 ≤ i ∧ i ≤ 63) :
    Calls Tryz.prog 112 #[.agg #[.slice am nm cm, .int .i64 (nextP p), .int .i64 (nth rs 0), .int .i64 (nth rs 1), .int .i64 (nth rs 2), .int .i64 (nth rs 3), .int .i64 (nth rs 4), .int .i64 (nth rs 5), .int .i64 (nth rs 6), .int .i64 (nth rs 7), .int .i64 mo, .int .i64 ba, .slice ca ck cc, .int .i64 op, .int .i64 oh, .int .i64 ot, .bool st, .int .i64 fe, .int .i64 fp, .int .i64 fh, .int .i64 ft, .bool lo], .agg #[.int .i64 4, .int .i64 x, .int .i64 y, .int .i64 i]] w fun e w' => DoH am nm cm zs p rs mo ba op oh ot fe fp fh ft st lo ca ck cc l 4 x y i w e w' := by
  obtain ⟨pc, hpc⟩ : ∃ pc, nextP p = pc := ⟨_, rfl⟩
  rw [hpc]
  have HPC : Hid (nextP p = pc) := hpc
  clear hpc
  have HM : Hid (Sl w (.slice am nm cm) zs) := hs
  have HL : Hid (Ls w (.slice ca ck cc) l) := hL
  have HB : Hid (chkB ⟨mo, ba, l, op, oh, ot, st, fe, fp, fh, ft, lo⟩ = 0) := hb
  have HZ : Hid (chk zs = 0) := hz
  have H8 : Hid (rs.length = 8) := h8
  have HW : Hid (∀ j, j < 8 → 0 ≤ nth rs j ∧ nth rs j ≤ 65535) := hw
  have HX : Hid (0 ≤ x ∧ x ≤ 7) := hx
  have HY : Hid (0 ≤ y ∧ y ≤ 7) := hy
  have HI : Hid (0 ≤ i ∧ i ≤ 63) := hi
  clear hs hL hb hz h8 hw hx hy hi
  go_enter Tryz.func112, Tryz.ntmps112
  go_upto_region 13 with fail
  have X0 := ((Box.newAt (w := w) (n := w.heap.size) rfl 135 #[.slice am nm cm, .int .i64 pc, .int .i64 (nth rs 0), .int .i64 (nth rs 1), .int .i64 (nth rs 2), .int .i64 (nth rs 3), .int .i64 (nth rs 4), .int .i64 (nth rs 5), .int .i64 (nth rs 6), .int .i64 (nth rs 7), .int .i64 mo, .int .i64 ba, .slice ca ck cc, .int .i64 op, .int .i64 oh, .int .i64 ot, .bool st, .int .i64 fe, .int .i64 fp, .int .i64 fh, .int .i64 ft, .bool lo]).past (.cells #[.int .i64 4, .int .i64 x, .int .i64 y, .int .i64 i] 115)).past (.cells #[.slice none 0 0, .int .i64 0, .int .i64 0, .int .i64 0, .int .i64 0, .int .i64 0, .int .i64 0, .int .i64 0, .int .i64 0, .int .i64 0, .int .i64 0, .int .i64 0, .slice none 0 0, .int .i64 0, .int .i64 0, .int .i64 0, .bool false, .int .i64 0, .int .i64 0, .int .i64 0, .int .i64 0, .bool false] 135)
  have X1 := (Box.newAt (w := w.alloc (.cells #[.slice am nm cm, .int .i64 pc, .int .i64 (nth rs 0), .int .i64 (nth rs 1), .int .i64 (nth rs 2), .int .i64 (nth rs 3), .int .i64 (nth rs 4), .int .i64 (nth rs 5), .int .i64 (nth rs 6), .int .i64 (nth rs 7), .int .i64 mo, .int .i64 ba, .slice ca ck cc, .int .i64 op, .int .i64 oh, .int .i64 ot, .bool st, .int .i64 fe, .int .i64 fp, .int .i64 fh, .int .i64 ft, .bool lo] 135)) (n := w.heap.size + 1) (by simp) 115 #[.int .i64 4, .int .i64 x, .int .i64 y, .int .i64 i]).past (.cells #[.slice none 0 0, .int .i64 0, .int .i64 0, .int .i64 0, .int .i64 0, .int .i64 0, .int .i64 0, .int .i64 0, .int .i64 0, .int .i64 0, .int .i64 0, .int .i64 0, .slice none 0 0, .int .i64 0, .int .i64 0, .int .i64 0, .bool false, .int .i64 0, .int .i64 0, .int .i64 0, .int .i64 0, .bool false] 135)
  have X2 := Box.newAt (w := (w.alloc (.cells #[.slice am nm cm, .int .i64 pc, .int .i64 (nth rs 0), .int .i64 (nth rs 1), .int .i64 (nth rs 2), .int .i64 (nth rs 3), .int .i64 (nth rs 4), .int .i64 (nth rs 5), .int .i64 (nth rs 6), .int .i64 (nth rs 7), .int .i64 mo, .int .i64 ba, .slice ca ck cc, .int .i64 op, .int .i64 oh, .int .i64 ot, .bool st, .int .i64 fe, .int .i64 fp, .int .i64 fh, .int .i64 ft, .bool lo] 135)).alloc (.cells #[.int .i64 4, .int .i64 x, .int .i64 y, .int .i64 i] 115)) (n := w.heap.size + 1 + 1) (by simp) 135 #[.slice none 0 0, .int .i64 0, .int .i64 0, .int .i64 0, .int .i64 0, .int .i64 0, .int .i64 0, .int .i64 0, .int .i64 0, .int .i64 0, .int .i64 0, .int .i64 0, .slice none 0 0, .int .i64 0, .int .i64 0, .int .i64 0, .bool false, .int .i64 0, .int .i64 0, .int .i64 0, .int .i64 0, .bool false]
  have B0 : Hid (Below w.heap.size w _) := bel_alloc (bel_alloc (bel_alloc (Below.refl w.heap.size w) (.cells #[.slice am nm cm, .int .i64 pc, .int .i64 (nth rs 0), .int .i64 (nth rs 1), .int .i64 (nth rs 2), .int .i64 (nth rs 3), .int .i64 (nth rs 4), .int .i64 (nth rs 5), .int .i64 (nth rs 6), .int .i64 (nth rs 7), .int .i64 mo, .int .i64 ba, .slice ca ck cc, .int .i64 op, .int .i64 oh, .int .i64 ot, .bool st, .int .i64 fe, .int .i64 fp, .int .i64 fh, .int .i64 ft, .bool lo] 135)) (.cells #[.int .i64 4, .int .i64 x, .int .i64 y, .int .i64 i] 115)) (.cells #[.slice none 0 0, .int .i64 0, .int .i64 0, .int .i64 0, .int .i64 0, .int .i64 0, .int .i64 0, .int .i64 0, .int .i64 0, .int .i64 0, .int .i64 0, .int .i64 0, .slice none 0 0, .int .i64 0, .int .i64 0, .int .i64 0, .bool false, .int .i64 0, .int .i64 0, .int .i64 0, .int .i64 0, .bool false] 135)
  have W3 : Hid ((((w.alloc (.cells #[.slice am nm cm, .int .i64 pc, .int .i64 (nth rs 0), .int .i64 (nth rs 1), .int .i64 (nth rs 2), .int .i64 (nth rs 3), .int .i64 (nth rs 4), .int .i64 (nth rs 5), .int .i64 (nth rs 6), .int .i64 (nth rs 7), .int .i64 mo, .int .i64 ba, .slice ca ck cc, .int .i64 op, .int .i64 oh, .int .i64 ot, .bool st, .int .i64 fe, .int .i64 fp, .int .i64 fh, .int .i64 ft, .bool lo] 135)).alloc (.cells #[.int .i64 4, .int .i64 x, .int .i64 y, .int .i64 i] 115)).alloc (.cells #[.slice none 0 0, .int .i64 0, .int .i64 0, .int .i64 0, .int .i64 0, .int .i64 0, .int .i64 0, .int .i64 0, .int .i64 0, .int .i64 0, .int .i64 0, .int .i64 0, .slice none 0 0, .int .i64 0, .int .i64 0, .int .i64 0, .bool false, .int .i64 0, .int .i64 0, .int .i64 0, .int .i64 0, .bool false] 135)).heap.size = w.heap.size + 1 + 1 + 1) := by show _ = _; simp
  generalize (((w.alloc (.cells #[.slice am nm cm, .int .i64 pc, .int .i64 (nth rs 0), .int .i64 (nth rs 1), .int .i64 (nth rs 2), .int .i64 (nth rs 3), .int .i64 (nth rs 4), .int .i64 (nth rs 5), .int .i64 (nth rs 6), .int .i64 (nth rs 7), .int .i64 mo, .int .i64 ba, .slice ca ck cc, .int .i64 op, .int .i64 oh, .int .i64 ot, .bool st, .int .i64 fe, .int .i64 fp, .int .i64 fh, .int .i64 ft, .bool lo] 135)).alloc (.cells #[.int .i64 4, .int .i64 x, .int .i64 y, .int .i64 i] 115)).alloc (.cells #[.slice none 0 0, .int .i64 0, .int .i64 0, .int .i64 0, .int .i64 0, .int .i64 0, .int .i64 0, .int .i64 0, .int .i64 0, .int .i64 0, .int .i64 0, .int .i64 0, .slice none 0 0, .int .i64 0, .int .i64 0, .int .i64 0, .bool false, .int .i64 0, .int .i64 0, .int .i64 0, .int .i64 0, .bool false] 135)) = W at *
  have Y0 := X0
  obtain ⟨i0, i1, i2, i3, -, -, -, -, s1⟩ := X1.four
  go_wp2_with (first
    | (refine wpList_load_row rfl 135 (.tmp 2) rfl w.heap.size rfl _ _ _ _ Y0 Tryz.underlying135 rfl infoState ?_))
  refine (load_any am nm cm zs pc rs mo ba op oh ot fe fp fh ft st lo ca ck cc 4 x y i _ (HM.out.keep B0.out) HZ.out H8.out HW.out HX.out HY.out HI.out).mono ?_
  rintro e w5 ⟨z, rfl, hz1, b5⟩
  have HZ1 : Hid _ := hz1
  obtain ⟨ok, hok⟩ : ∃ ok, decide (nth rs y.toNat + i ≤ 511) = ok := ⟨_, rfl⟩
  have HOK : Hid _ := hok
  rw [hok]
  clear hz1 hok
  have Y2 := X2.keep b5
  have B6 : Hid (Below w.heap.size w w5) := bel_trans B0.out b5
  have S5 : Hid (w.heap.size + 1 + 1 + 1 ≤ w5.heap.size) := by show _ ≤ _; have := b5.size; have w3 := W3.out; omega
  clear X0 X1 X2 Y0 i0 i1 i2 i3 s1 b5
  go_wp2_with (first
    | (refine wpList_store_row rfl 135 (.tmp 4) (.tmp 70) rfl (w.heap.size + 1 + 1) _ rfl rfl _ _ Y2 infoState rfl (stateOne _ _ _ _ _ _ _ _ _ _ _ _ _ _ _ _ _ _ _ _ _ _ _ _ _ _) ?_))
  have hl := Box.loadState (Y2.setRow #[.slice am nm cm, .int .i64 pc, .int .i64 (nth (rs.set x.toNat z) 0), .int .i64 (nth (rs.set x.toNat z) 1), .int .i64 (nth (rs.set x.toNat z) 2), .int .i64 (nth (rs.set x.toNat z) 3), .int .i64 (nth (rs.set x.toNat z) 4), .int .i64 (nth (rs.set x.toNat z) 5), .int .i64 (nth (rs.set x.toNat z) 6), .int .i64 (nth (rs.set x.toNat z) 7), .int .i64 mo, .int .i64 ba, .slice ca ck cc, .int .i64 op, .int .i64 oh, .int .i64 ot, .bool st, .int .i64 fe, .int .i64 fp, .int .i64 fh, .int .i64 ft, .bool lo]) rfl
  refine bodyPost_ret (v := .tuple #[.agg #[.slice am nm cm, .int .i64 pc, .int .i64 (nth (rs.set x.toNat z) 0), .int .i64 (nth (rs.set x.toNat z) 1), .int .i64 (nth (rs.set x.toNat z) 2), .int .i64 (nth (rs.set x.toNat z) 3), .int .i64 (nth (rs.set x.toNat z) 4), .int .i64 (nth (rs.set x.toNat z) 5), .int .i64 (nth (rs.set x.toNat z) 6), .int .i64 (nth (rs.set x.toNat z) 7), .int .i64 mo, .int .i64 ba, .slice ca ck cc, .int .i64 op, .int .i64 oh, .int .i64 ot, .bool st, .int .i64 fe, .int .i64 fp, .int .i64 fh, .int .i64 ft, .bool lo], .bool ok]) (by simp [results, Tryz.results112, asAddr, hl]) rfl ⟨_, _, _, _, _, _, _, _, _, _, _, _, _, _, _, _, _, _, _, _, rfl, fun h => by rw [exeI, if_neg (by decide), if_neg (by decide), if_neg (by decide), if_pos rfl, if_neg (of_decide_eq_false (HOK.out.trans h))], fun h => ⟨zs, by rw [exeI, if_neg (by decide), if_neg (by decide), if_neg (by decide), if_pos rfl, if_pos (of_decide_eq_true (HOK.out.trans h)), HPC.out, HZ1.out (of_decide_eq_true (HOK.out.trans h))], by rw [List.length_set]; exact H8.out, rfl, .inl ⟨rfl, rfl⟩⟩, bel_setRow (by omega) B6.out _⟩
set_option maxRecDepth 10000 in
set_option maxHeartbeats 4000000 in
theorem do_5 (am : Option Addr) (nm cm : Nat) (zs : List Int) (p : Int) (rs : List Int) (mo ba op oh ot fe fp fh ft : Int) (st lo : Bool) (ca : Option Addr) (ck cc : Nat) (l : List Ln) (x y i : Int) (w : World) (hs : Sl w (.slice am nm cm) zs) (hL : Ls w (.slice ca ck cc) l) (hb : chkB ⟨mo, ba, l, op, oh, ot, st, fe, fp, fh, ft, lo⟩ = 0) (hz : chk zs = 0) (h8 : rs.length = 8) (hw : ∀ j, j < 8 → 0 ≤ nth rs j ∧ nth rs j ≤ 65535) (hx : 0 ≤ x ∧ x ≤ 7) (hy : 0 ≤ y ∧ y ≤ 7) (hi : 0 ≤ i ∧ i ≤ 63) :
    Calls Tryz.prog 112 #[.agg #[.slice am nm cm, .int .i64 (nextP p), .int .i64 (nth rs 0), .int .i64 (nth rs 1), .int .i64 (nth rs 2), .int .i64 (nth rs 3), .int .i64 (nth rs 4), .int .i64 (nth rs 5), .int .i64 (nth rs 6), .int .i64 (nth rs 7), .int .i64 mo, .int .i64 ba, .slice ca ck cc, .int .i64 op, .int .i64 oh, .int .i64 ot, .bool st, .int .i64 fe, .int .i64 fp, .int .i64 fh, .int .i64 ft, .bool lo], .agg #[.int .i64 5, .int .i64 x, .int .i64 y, .int .i64 i]] w fun e w' => DoH am nm cm zs p rs mo ba op oh ot fe fp fh ft st lo ca ck cc l 5 x y i w e w' := by
  obtain ⟨pc, hpc⟩ : ∃ pc, nextP p = pc := ⟨_, rfl⟩
  rw [hpc]
  have HPC : Hid (nextP p = pc) := hpc
  clear hpc
  have HM : Hid (Sl w (.slice am nm cm) zs) := hs
  have HL : Hid (Ls w (.slice ca ck cc) l) := hL
  have HB : Hid (chkB ⟨mo, ba, l, op, oh, ot, st, fe, fp, fh, ft, lo⟩ = 0) := hb
  have HZ : Hid (chk zs = 0) := hz
  have H8 : Hid (rs.length = 8) := h8
  have HW : Hid (∀ j, j < 8 → 0 ≤ nth rs j ∧ nth rs j ≤ 65535) := hw
  have HX : Hid (0 ≤ x ∧ x ≤ 7) := hx
  have HY : Hid (0 ≤ y ∧ y ≤ 7) := hy
  have HI : Hid (0 ≤ i ∧ i ≤ 63) := hi
  clear hs hL hb hz h8 hw hx hy hi
  go_enter Tryz.func112, Tryz.ntmps112
  go_upto_region 15 with fail
  have X0 := ((Box.newAt (w := w) (n := w.heap.size) rfl 135 #[.slice am nm cm, .int .i64 pc, .int .i64 (nth rs 0), .int .i64 (nth rs 1), .int .i64 (nth rs 2), .int .i64 (nth rs 3), .int .i64 (nth rs 4), .int .i64 (nth rs 5), .int .i64 (nth rs 6), .int .i64 (nth rs 7), .int .i64 mo, .int .i64 ba, .slice ca ck cc, .int .i64 op, .int .i64 oh, .int .i64 ot, .bool st, .int .i64 fe, .int .i64 fp, .int .i64 fh, .int .i64 ft, .bool lo]).past (.cells #[.int .i64 5, .int .i64 x, .int .i64 y, .int .i64 i] 115)).past (.cells #[.slice none 0 0, .int .i64 0, .int .i64 0, .int .i64 0, .int .i64 0, .int .i64 0, .int .i64 0, .int .i64 0, .int .i64 0, .int .i64 0, .int .i64 0, .int .i64 0, .slice none 0 0, .int .i64 0, .int .i64 0, .int .i64 0, .bool false, .int .i64 0, .int .i64 0, .int .i64 0, .int .i64 0, .bool false] 135)
  have X1 := (Box.newAt (w := w.alloc (.cells #[.slice am nm cm, .int .i64 pc, .int .i64 (nth rs 0), .int .i64 (nth rs 1), .int .i64 (nth rs 2), .int .i64 (nth rs 3), .int .i64 (nth rs 4), .int .i64 (nth rs 5), .int .i64 (nth rs 6), .int .i64 (nth rs 7), .int .i64 mo, .int .i64 ba, .slice ca ck cc, .int .i64 op, .int .i64 oh, .int .i64 ot, .bool st, .int .i64 fe, .int .i64 fp, .int .i64 fh, .int .i64 ft, .bool lo] 135)) (n := w.heap.size + 1) (by simp) 115 #[.int .i64 5, .int .i64 x, .int .i64 y, .int .i64 i]).past (.cells #[.slice none 0 0, .int .i64 0, .int .i64 0, .int .i64 0, .int .i64 0, .int .i64 0, .int .i64 0, .int .i64 0, .int .i64 0, .int .i64 0, .int .i64 0, .int .i64 0, .slice none 0 0, .int .i64 0, .int .i64 0, .int .i64 0, .bool false, .int .i64 0, .int .i64 0, .int .i64 0, .int .i64 0, .bool false] 135)
  have X2 := Box.newAt (w := (w.alloc (.cells #[.slice am nm cm, .int .i64 pc, .int .i64 (nth rs 0), .int .i64 (nth rs 1), .int .i64 (nth rs 2), .int .i64 (nth rs 3), .int .i64 (nth rs 4), .int .i64 (nth rs 5), .int .i64 (nth rs 6), .int .i64 (nth rs 7), .int .i64 mo, .int .i64 ba, .slice ca ck cc, .int .i64 op, .int .i64 oh, .int .i64 ot, .bool st, .int .i64 fe, .int .i64 fp, .int .i64 fh, .int .i64 ft, .bool lo] 135)).alloc (.cells #[.int .i64 5, .int .i64 x, .int .i64 y, .int .i64 i] 115)) (n := w.heap.size + 1 + 1) (by simp) 135 #[.slice none 0 0, .int .i64 0, .int .i64 0, .int .i64 0, .int .i64 0, .int .i64 0, .int .i64 0, .int .i64 0, .int .i64 0, .int .i64 0, .int .i64 0, .int .i64 0, .slice none 0 0, .int .i64 0, .int .i64 0, .int .i64 0, .bool false, .int .i64 0, .int .i64 0, .int .i64 0, .int .i64 0, .bool false]
  have B0 : Hid (Below w.heap.size w _) := bel_alloc (bel_alloc (bel_alloc (Below.refl w.heap.size w) (.cells #[.slice am nm cm, .int .i64 pc, .int .i64 (nth rs 0), .int .i64 (nth rs 1), .int .i64 (nth rs 2), .int .i64 (nth rs 3), .int .i64 (nth rs 4), .int .i64 (nth rs 5), .int .i64 (nth rs 6), .int .i64 (nth rs 7), .int .i64 mo, .int .i64 ba, .slice ca ck cc, .int .i64 op, .int .i64 oh, .int .i64 ot, .bool st, .int .i64 fe, .int .i64 fp, .int .i64 fh, .int .i64 ft, .bool lo] 135)) (.cells #[.int .i64 5, .int .i64 x, .int .i64 y, .int .i64 i] 115)) (.cells #[.slice none 0 0, .int .i64 0, .int .i64 0, .int .i64 0, .int .i64 0, .int .i64 0, .int .i64 0, .int .i64 0, .int .i64 0, .int .i64 0, .int .i64 0, .int .i64 0, .slice none 0 0, .int .i64 0, .int .i64 0, .int .i64 0, .bool false, .int .i64 0, .int .i64 0, .int .i64 0, .int .i64 0, .bool false] 135)
  have W3 : Hid ((((w.alloc (.cells #[.slice am nm cm, .int .i64 pc, .int .i64 (nth rs 0), .int .i64 (nth rs 1), .int .i64 (nth rs 2), .int .i64 (nth rs 3), .int .i64 (nth rs 4), .int .i64 (nth rs 5), .int .i64 (nth rs 6), .int .i64 (nth rs 7), .int .i64 mo, .int .i64 ba, .slice ca ck cc, .int .i64 op, .int .i64 oh, .int .i64 ot, .bool st, .int .i64 fe, .int .i64 fp, .int .i64 fh, .int .i64 ft, .bool lo] 135)).alloc (.cells #[.int .i64 5, .int .i64 x, .int .i64 y, .int .i64 i] 115)).alloc (.cells #[.slice none 0 0, .int .i64 0, .int .i64 0, .int .i64 0, .int .i64 0, .int .i64 0, .int .i64 0, .int .i64 0, .int .i64 0, .int .i64 0, .int .i64 0, .int .i64 0, .slice none 0 0, .int .i64 0, .int .i64 0, .int .i64 0, .bool false, .int .i64 0, .int .i64 0, .int .i64 0, .int .i64 0, .bool false] 135)).heap.size = w.heap.size + 1 + 1 + 1) := by show _ = _; simp
  generalize (((w.alloc (.cells #[.slice am nm cm, .int .i64 pc, .int .i64 (nth rs 0), .int .i64 (nth rs 1), .int .i64 (nth rs 2), .int .i64 (nth rs 3), .int .i64 (nth rs 4), .int .i64 (nth rs 5), .int .i64 (nth rs 6), .int .i64 (nth rs 7), .int .i64 mo, .int .i64 ba, .slice ca ck cc, .int .i64 op, .int .i64 oh, .int .i64 ot, .bool st, .int .i64 fe, .int .i64 fp, .int .i64 fh, .int .i64 ft, .bool lo] 135)).alloc (.cells #[.int .i64 5, .int .i64 x, .int .i64 y, .int .i64 i] 115)).alloc (.cells #[.slice none 0 0, .int .i64 0, .int .i64 0, .int .i64 0, .int .i64 0, .int .i64 0, .int .i64 0, .int .i64 0, .int .i64 0, .int .i64 0, .int .i64 0, .int .i64 0, .slice none 0 0, .int .i64 0, .int .i64 0, .int .i64 0, .bool false, .int .i64 0, .int .i64 0, .int .i64 0, .int .i64 0, .bool false] 135)) = W at *
  have Y0 := X0
  obtain ⟨i0, i1, i2, i3, -, -, -, -, s1⟩ := X1.four
  go_wp2_with (first
    | (refine wpList_load_row rfl 135 (.tmp 2) rfl w.heap.size rfl _ _ _ _ Y0 Tryz.underlying135 rfl infoState ?_))
  refine (store_any am nm cm zs pc rs mo ba op oh ot fe fp fh ft st lo ca ck cc 5 x y i _ (HM.out.keep B0.out) HZ.out H8.out HW.out HX.out HY.out HI.out).mono ?_
  rintro e w5 ⟨a1, n1, c1, rfl, hz1, b5⟩
  have HZ1 : Hid _ := hz1
  obtain ⟨ok, hok⟩ : ∃ ok, decide (nth rs y.toNat + i ≤ 511) = ok := ⟨_, rfl⟩
  have HOK : Hid _ := hok
  rw [hok]
  clear hz1 hok
  have Y2 := X2.keep b5
  have B6 : Hid (Below w.heap.size w w5) := bel_trans B0.out b5
  have S5 : Hid (w.heap.size + 1 + 1 + 1 ≤ w5.heap.size) := by show _ ≤ _; have := b5.size; have w3 := W3.out; omega
  clear X0 X1 X2 Y0 i0 i1 i2 i3 s1 b5
  go_wp2_with (first
    | (refine wpList_store_row rfl 135 (.tmp 4) (.tmp 77) rfl (w.heap.size + 1 + 1) _ rfl rfl _ _ Y2 infoState rfl (stateOne _ _ _ _ _ _ _ _ _ _ _ _ _ _ _ _ _ _ _ _ _ _ _ _ _ _) ?_))
  have hl := Box.loadState (Y2.setRow #[.slice a1 n1 c1, .int .i64 pc, .int .i64 (nth rs 0), .int .i64 (nth rs 1), .int .i64 (nth rs 2), .int .i64 (nth rs 3), .int .i64 (nth rs 4), .int .i64 (nth rs 5), .int .i64 (nth rs 6), .int .i64 (nth rs 7), .int .i64 mo, .int .i64 ba, .slice ca ck cc, .int .i64 op, .int .i64 oh, .int .i64 ot, .bool st, .int .i64 fe, .int .i64 fp, .int .i64 fh, .int .i64 ft, .bool lo]) rfl
  refine bodyPost_ret (v := .tuple #[.agg #[.slice a1 n1 c1, .int .i64 pc, .int .i64 (nth rs 0), .int .i64 (nth rs 1), .int .i64 (nth rs 2), .int .i64 (nth rs 3), .int .i64 (nth rs 4), .int .i64 (nth rs 5), .int .i64 (nth rs 6), .int .i64 (nth rs 7), .int .i64 mo, .int .i64 ba, .slice ca ck cc, .int .i64 op, .int .i64 oh, .int .i64 ot, .bool st, .int .i64 fe, .int .i64 fp, .int .i64 fh, .int .i64 ft, .bool lo], .bool ok]) (by simp [results, Tryz.results112, asAddr, hl]) rfl ⟨_, _, _, _, _, _, _, _, _, _, _, _, _, _, _, _, _, _, _, _, rfl, fun h => by rw [exeI, if_neg (by decide), if_neg (by decide), if_neg (by decide), if_neg (by decide), if_pos rfl, if_neg (of_decide_eq_false (HOK.out.trans h))], fun h => ⟨_, by rw [exeI, if_neg (by decide), if_neg (by decide), if_neg (by decide), if_neg (by decide), if_pos rfl, if_pos (of_decide_eq_true (HOK.out.trans h)), HPC.out], H8.out, rfl, .inr ⟨(HZ1.out (of_decide_eq_true (HOK.out.trans h))).1.otherRow ((HZ1.out (of_decide_eq_true (HOK.out.trans h))).2.ne (by have := W3.out; omega)) _, (HZ1.out (of_decide_eq_true (HOK.out.trans h))).2.mono (by have := W3.out; omega)⟩⟩, bel_setRow (by omega) B6.out _⟩
set_option maxRecDepth 10000 in
set_option maxHeartbeats 4000000 in
theorem do_7 (am : Option Addr) (nm cm : Nat) (zs : List Int) (p : Int) (rs : List Int) (mo ba op oh ot fe fp fh ft : Int) (st lo : Bool) (ca : Option Addr) (ck cc : Nat) (l : List Ln) (x y i : Int) (w : World) (_ : Sl w (.slice am nm cm) zs) (hL : Ls w (.slice ca ck cc) l) (hb : chkB ⟨mo, ba, l, op, oh, ot, st, fe, fp, fh, ft, lo⟩ = 0) (_ : chk zs = 0) (h8 : rs.length = 8) (hw : ∀ j, j < 8 → 0 ≤ nth rs j ∧ nth rs j ≤ 65535) (hx : 0 ≤ x ∧ x ≤ 7) (hy : 0 ≤ y ∧ y ≤ 7) (hi : 0 ≤ i ∧ i ≤ 63) :
    Calls Tryz.prog 112 #[.agg #[.slice am nm cm, .int .i64 (nextP p), .int .i64 (nth rs 0), .int .i64 (nth rs 1), .int .i64 (nth rs 2), .int .i64 (nth rs 3), .int .i64 (nth rs 4), .int .i64 (nth rs 5), .int .i64 (nth rs 6), .int .i64 (nth rs 7), .int .i64 mo, .int .i64 ba, .slice ca ck cc, .int .i64 op, .int .i64 oh, .int .i64 ot, .bool st, .int .i64 fe, .int .i64 fp, .int .i64 fh, .int .i64 ft, .bool lo], .agg #[.int .i64 7, .int .i64 x, .int .i64 y, .int .i64 i]] w fun e w' => DoH am nm cm zs p rs mo ba op oh ot fe fp fh ft st lo ca ck cc l 7 x y i w e w' := by
  obtain ⟨pc, hpc⟩ : ∃ pc, nextP p = pc := ⟨_, rfl⟩
  rw [hpc]
  have HPC : Hid (nextP p = pc) := hpc
  clear hpc
  have HL : Hid (Ls w (.slice ca ck cc) l) := hL
  have HB : Hid (chkB ⟨mo, ba, l, op, oh, ot, st, fe, fp, fh, ft, lo⟩ = 0) := hb
  have H8 : Hid (rs.length = 8) := h8
  have HW : Hid (∀ j, j < 8 → 0 ≤ nth rs j ∧ nth rs j ≤ 65535) := hw
  have HX : Hid (0 ≤ x ∧ x ≤ 7) := hx
  have HY : Hid (0 ≤ y ∧ y ≤ 7) := hy
  have HI : Hid (0 ≤ i ∧ i ≤ 63) := hi
  clear hL hb h8 hw hx hy hi
  go_enter Tryz.func112, Tryz.ntmps112
  go_upto_region 19 with fail
  have X0 := ((Box.newAt (w := w) (n := w.heap.size) rfl 135 #[.slice am nm cm, .int .i64 pc, .int .i64 (nth rs 0), .int .i64 (nth rs 1), .int .i64 (nth rs 2), .int .i64 (nth rs 3), .int .i64 (nth rs 4), .int .i64 (nth rs 5), .int .i64 (nth rs 6), .int .i64 (nth rs 7), .int .i64 mo, .int .i64 ba, .slice ca ck cc, .int .i64 op, .int .i64 oh, .int .i64 ot, .bool st, .int .i64 fe, .int .i64 fp, .int .i64 fh, .int .i64 ft, .bool lo]).past (.cells #[.int .i64 7, .int .i64 x, .int .i64 y, .int .i64 i] 115)).past (.cells #[.slice none 0 0, .int .i64 0, .int .i64 0, .int .i64 0, .int .i64 0, .int .i64 0, .int .i64 0, .int .i64 0, .int .i64 0, .int .i64 0, .int .i64 0, .int .i64 0, .slice none 0 0, .int .i64 0, .int .i64 0, .int .i64 0, .bool false, .int .i64 0, .int .i64 0, .int .i64 0, .int .i64 0, .bool false] 135)
  have X1 := (Box.newAt (w := w.alloc (.cells #[.slice am nm cm, .int .i64 pc, .int .i64 (nth rs 0), .int .i64 (nth rs 1), .int .i64 (nth rs 2), .int .i64 (nth rs 3), .int .i64 (nth rs 4), .int .i64 (nth rs 5), .int .i64 (nth rs 6), .int .i64 (nth rs 7), .int .i64 mo, .int .i64 ba, .slice ca ck cc, .int .i64 op, .int .i64 oh, .int .i64 ot, .bool st, .int .i64 fe, .int .i64 fp, .int .i64 fh, .int .i64 ft, .bool lo] 135)) (n := w.heap.size + 1) (by simp) 115 #[.int .i64 7, .int .i64 x, .int .i64 y, .int .i64 i]).past (.cells #[.slice none 0 0, .int .i64 0, .int .i64 0, .int .i64 0, .int .i64 0, .int .i64 0, .int .i64 0, .int .i64 0, .int .i64 0, .int .i64 0, .int .i64 0, .int .i64 0, .slice none 0 0, .int .i64 0, .int .i64 0, .int .i64 0, .bool false, .int .i64 0, .int .i64 0, .int .i64 0, .int .i64 0, .bool false] 135)
  have X2 := Box.newAt (w := (w.alloc (.cells #[.slice am nm cm, .int .i64 pc, .int .i64 (nth rs 0), .int .i64 (nth rs 1), .int .i64 (nth rs 2), .int .i64 (nth rs 3), .int .i64 (nth rs 4), .int .i64 (nth rs 5), .int .i64 (nth rs 6), .int .i64 (nth rs 7), .int .i64 mo, .int .i64 ba, .slice ca ck cc, .int .i64 op, .int .i64 oh, .int .i64 ot, .bool st, .int .i64 fe, .int .i64 fp, .int .i64 fh, .int .i64 ft, .bool lo] 135)).alloc (.cells #[.int .i64 7, .int .i64 x, .int .i64 y, .int .i64 i] 115)) (n := w.heap.size + 1 + 1) (by simp) 135 #[.slice none 0 0, .int .i64 0, .int .i64 0, .int .i64 0, .int .i64 0, .int .i64 0, .int .i64 0, .int .i64 0, .int .i64 0, .int .i64 0, .int .i64 0, .int .i64 0, .slice none 0 0, .int .i64 0, .int .i64 0, .int .i64 0, .bool false, .int .i64 0, .int .i64 0, .int .i64 0, .int .i64 0, .bool false]
  have B0 : Hid (Below w.heap.size w _) := bel_alloc (bel_alloc (bel_alloc (Below.refl w.heap.size w) (.cells #[.slice am nm cm, .int .i64 pc, .int .i64 (nth rs 0), .int .i64 (nth rs 1), .int .i64 (nth rs 2), .int .i64 (nth rs 3), .int .i64 (nth rs 4), .int .i64 (nth rs 5), .int .i64 (nth rs 6), .int .i64 (nth rs 7), .int .i64 mo, .int .i64 ba, .slice ca ck cc, .int .i64 op, .int .i64 oh, .int .i64 ot, .bool st, .int .i64 fe, .int .i64 fp, .int .i64 fh, .int .i64 ft, .bool lo] 135)) (.cells #[.int .i64 7, .int .i64 x, .int .i64 y, .int .i64 i] 115)) (.cells #[.slice none 0 0, .int .i64 0, .int .i64 0, .int .i64 0, .int .i64 0, .int .i64 0, .int .i64 0, .int .i64 0, .int .i64 0, .int .i64 0, .int .i64 0, .int .i64 0, .slice none 0 0, .int .i64 0, .int .i64 0, .int .i64 0, .bool false, .int .i64 0, .int .i64 0, .int .i64 0, .int .i64 0, .bool false] 135)
  have W3 : Hid ((((w.alloc (.cells #[.slice am nm cm, .int .i64 pc, .int .i64 (nth rs 0), .int .i64 (nth rs 1), .int .i64 (nth rs 2), .int .i64 (nth rs 3), .int .i64 (nth rs 4), .int .i64 (nth rs 5), .int .i64 (nth rs 6), .int .i64 (nth rs 7), .int .i64 mo, .int .i64 ba, .slice ca ck cc, .int .i64 op, .int .i64 oh, .int .i64 ot, .bool st, .int .i64 fe, .int .i64 fp, .int .i64 fh, .int .i64 ft, .bool lo] 135)).alloc (.cells #[.int .i64 7, .int .i64 x, .int .i64 y, .int .i64 i] 115)).alloc (.cells #[.slice none 0 0, .int .i64 0, .int .i64 0, .int .i64 0, .int .i64 0, .int .i64 0, .int .i64 0, .int .i64 0, .int .i64 0, .int .i64 0, .int .i64 0, .int .i64 0, .slice none 0 0, .int .i64 0, .int .i64 0, .int .i64 0, .bool false, .int .i64 0, .int .i64 0, .int .i64 0, .int .i64 0, .bool false] 135)).heap.size = w.heap.size + 1 + 1 + 1) := by show _ = _; simp
  generalize (((w.alloc (.cells #[.slice am nm cm, .int .i64 pc, .int .i64 (nth rs 0), .int .i64 (nth rs 1), .int .i64 (nth rs 2), .int .i64 (nth rs 3), .int .i64 (nth rs 4), .int .i64 (nth rs 5), .int .i64 (nth rs 6), .int .i64 (nth rs 7), .int .i64 mo, .int .i64 ba, .slice ca ck cc, .int .i64 op, .int .i64 oh, .int .i64 ot, .bool st, .int .i64 fe, .int .i64 fp, .int .i64 fh, .int .i64 ft, .bool lo] 135)).alloc (.cells #[.int .i64 7, .int .i64 x, .int .i64 y, .int .i64 i] 115)).alloc (.cells #[.slice none 0 0, .int .i64 0, .int .i64 0, .int .i64 0, .int .i64 0, .int .i64 0, .int .i64 0, .int .i64 0, .int .i64 0, .int .i64 0, .int .i64 0, .int .i64 0, .slice none 0 0, .int .i64 0, .int .i64 0, .int .i64 0, .bool false, .int .i64 0, .int .i64 0, .int .i64 0, .int .i64 0, .bool false] 135)) = W at *
  have Y0 := X0
  obtain ⟨i0, i1, i2, i3, -, -, -, -, s1⟩ := X1.four
  go_wp2_with (first
    | (refine wpList_load_row rfl 135 (.tmp 2) rfl w.heap.size rfl _ _ _ _ Y0 Tryz.underlying135 rfl infoState ?_))
  refine (hOut_any am nm cm pc rs mo ba op oh ot fe fp fh ft st lo ca ck cc l 7 x y i _ (HL.out.keep B0.out) HB.out H8.out HW.out HX.out HY.out HI.out).mono ?_
  rintro e w5 ⟨mo1, ba1, op1, oh1, ot1, fe1, fp1, fh1, ft1, st1, lo1, ca1, ck1, cc1, rfl, hz1, b5⟩
  have HZ1 : Hid _ := hz1
  obtain ⟨ok, hok⟩ : ∃ ok, decide (nth rs x.toNat ≤ mostB i) = ok := ⟨_, rfl⟩
  have HOK : Hid _ := hok
  rw [hok]
  clear hz1 hok
  have Y2 := X2.keep b5
  have B6 : Hid (Below w.heap.size w w5) := bel_trans B0.out b5
  have S5 : Hid (w.heap.size + 1 + 1 + 1 ≤ w5.heap.size) := by show _ ≤ _; have := b5.size; have w3 := W3.out; omega
  clear X0 X1 X2 Y0 i0 i1 i2 i3 s1 b5
  go_wp2_with (first
    | (refine wpList_store_row rfl 135 (.tmp 4) (.tmp 91) rfl (w.heap.size + 1 + 1) _ rfl rfl _ _ Y2 infoState rfl (stateOne _ _ _ _ _ _ _ _ _ _ _ _ _ _ _ _ _ _ _ _ _ _ _ _ _ _) ?_))
  have hl := Box.loadState (Y2.setRow #[.slice am nm cm, .int .i64 pc, .int .i64 (nth rs 0), .int .i64 (nth rs 1), .int .i64 (nth rs 2), .int .i64 (nth rs 3), .int .i64 (nth rs 4), .int .i64 (nth rs 5), .int .i64 (nth rs 6), .int .i64 (nth rs 7), .int .i64 mo1, .int .i64 ba1, .slice ca1 ck1 cc1, .int .i64 op1, .int .i64 oh1, .int .i64 ot1, .bool st1, .int .i64 fe1, .int .i64 fp1, .int .i64 fh1, .int .i64 ft1, .bool lo1]) rfl
  refine bodyPost_ret (v := .tuple #[.agg #[.slice am nm cm, .int .i64 pc, .int .i64 (nth rs 0), .int .i64 (nth rs 1), .int .i64 (nth rs 2), .int .i64 (nth rs 3), .int .i64 (nth rs 4), .int .i64 (nth rs 5), .int .i64 (nth rs 6), .int .i64 (nth rs 7), .int .i64 mo1, .int .i64 ba1, .slice ca1 ck1 cc1, .int .i64 op1, .int .i64 oh1, .int .i64 ot1, .bool st1, .int .i64 fe1, .int .i64 fp1, .int .i64 fh1, .int .i64 ft1, .bool lo1], .bool ok]) (by simp [results, Tryz.results112, asAddr, hl]) rfl ⟨_, _, _, _, _, _, _, _, _, _, _, _, _, _, _, _, _, _, _, _, rfl, fun h => by rw [exeI, if_neg (by decide), if_neg (by decide), if_neg (by decide), if_neg (by decide), if_neg (by decide), if_neg (by decide), if_pos rfl, if_neg (of_decide_eq_false (HOK.out.trans h))], fun h => ⟨zs, by rw [exeI, if_neg (by decide), if_neg (by decide), if_neg (by decide), if_neg (by decide), if_neg (by decide), if_neg (by decide), if_pos rfl, if_pos (of_decide_eq_true (HOK.out.trans h)), HPC.out, (HZ1.out (of_decide_eq_true (HOK.out.trans h))).2], H8.out, (HZ1.out (of_decide_eq_true (HOK.out.trans h))).1, .inl ⟨rfl, rfl⟩⟩, bel_setRow (by omega) B6.out _⟩
set_option maxRecDepth 10000 in
set_option maxHeartbeats 4000000 in
theorem do_8 (am : Option Addr) (nm cm : Nat) (zs : List Int) (p : Int) (rs : List Int) (mo ba op oh ot fe fp fh ft : Int) (st lo : Bool) (ca : Option Addr) (ck cc : Nat) (l : List Ln) (x y i : Int) (w : World) (_ : Sl w (.slice am nm cm) zs) (_ : Ls w (.slice ca ck cc) l) (_ : chkB ⟨mo, ba, l, op, oh, ot, st, fe, fp, fh, ft, lo⟩ = 0) (_ : chk zs = 0) (h8 : rs.length = 8) (hw : ∀ j, j < 8 → 0 ≤ nth rs j ∧ nth rs j ≤ 65535) (hx : 0 ≤ x ∧ x ≤ 7) (hy : 0 ≤ y ∧ y ≤ 7) (hi : 0 ≤ i ∧ i ≤ 63) :
    Calls Tryz.prog 112 #[.agg #[.slice am nm cm, .int .i64 (nextP p), .int .i64 (nth rs 0), .int .i64 (nth rs 1), .int .i64 (nth rs 2), .int .i64 (nth rs 3), .int .i64 (nth rs 4), .int .i64 (nth rs 5), .int .i64 (nth rs 6), .int .i64 (nth rs 7), .int .i64 mo, .int .i64 ba, .slice ca ck cc, .int .i64 op, .int .i64 oh, .int .i64 ot, .bool st, .int .i64 fe, .int .i64 fp, .int .i64 fh, .int .i64 ft, .bool lo], .agg #[.int .i64 8, .int .i64 x, .int .i64 y, .int .i64 i]] w fun e w' => DoH am nm cm zs p rs mo ba op oh ot fe fp fh ft st lo ca ck cc l 8 x y i w e w' := by
  obtain ⟨pc, hpc⟩ : ∃ pc, nextP p = pc := ⟨_, rfl⟩
  rw [hpc]
  have HPC : Hid (nextP p = pc) := hpc
  clear hpc
  have H8 : Hid (rs.length = 8) := h8
  have HW : Hid (∀ j, j < 8 → 0 ≤ nth rs j ∧ nth rs j ≤ 65535) := hw
  have HX : Hid (0 ≤ x ∧ x ≤ 7) := hx
  have HY : Hid (0 ≤ y ∧ y ≤ 7) := hy
  have HI : Hid (0 ≤ i ∧ i ≤ 63) := hi
  clear h8 hw hx hy hi
  go_enter Tryz.func112, Tryz.ntmps112
  go_upto_region 17 with fail
  have X0 := ((Box.newAt (w := w) (n := w.heap.size) rfl 135 #[.slice am nm cm, .int .i64 pc, .int .i64 (nth rs 0), .int .i64 (nth rs 1), .int .i64 (nth rs 2), .int .i64 (nth rs 3), .int .i64 (nth rs 4), .int .i64 (nth rs 5), .int .i64 (nth rs 6), .int .i64 (nth rs 7), .int .i64 mo, .int .i64 ba, .slice ca ck cc, .int .i64 op, .int .i64 oh, .int .i64 ot, .bool st, .int .i64 fe, .int .i64 fp, .int .i64 fh, .int .i64 ft, .bool lo]).past (.cells #[.int .i64 8, .int .i64 x, .int .i64 y, .int .i64 i] 115)).past (.cells #[.slice none 0 0, .int .i64 0, .int .i64 0, .int .i64 0, .int .i64 0, .int .i64 0, .int .i64 0, .int .i64 0, .int .i64 0, .int .i64 0, .int .i64 0, .int .i64 0, .slice none 0 0, .int .i64 0, .int .i64 0, .int .i64 0, .bool false, .int .i64 0, .int .i64 0, .int .i64 0, .int .i64 0, .bool false] 135)
  have X1 := (Box.newAt (w := w.alloc (.cells #[.slice am nm cm, .int .i64 pc, .int .i64 (nth rs 0), .int .i64 (nth rs 1), .int .i64 (nth rs 2), .int .i64 (nth rs 3), .int .i64 (nth rs 4), .int .i64 (nth rs 5), .int .i64 (nth rs 6), .int .i64 (nth rs 7), .int .i64 mo, .int .i64 ba, .slice ca ck cc, .int .i64 op, .int .i64 oh, .int .i64 ot, .bool st, .int .i64 fe, .int .i64 fp, .int .i64 fh, .int .i64 ft, .bool lo] 135)) (n := w.heap.size + 1) (by simp) 115 #[.int .i64 8, .int .i64 x, .int .i64 y, .int .i64 i]).past (.cells #[.slice none 0 0, .int .i64 0, .int .i64 0, .int .i64 0, .int .i64 0, .int .i64 0, .int .i64 0, .int .i64 0, .int .i64 0, .int .i64 0, .int .i64 0, .int .i64 0, .slice none 0 0, .int .i64 0, .int .i64 0, .int .i64 0, .bool false, .int .i64 0, .int .i64 0, .int .i64 0, .int .i64 0, .bool false] 135)
  have X2 := Box.newAt (w := (w.alloc (.cells #[.slice am nm cm, .int .i64 pc, .int .i64 (nth rs 0), .int .i64 (nth rs 1), .int .i64 (nth rs 2), .int .i64 (nth rs 3), .int .i64 (nth rs 4), .int .i64 (nth rs 5), .int .i64 (nth rs 6), .int .i64 (nth rs 7), .int .i64 mo, .int .i64 ba, .slice ca ck cc, .int .i64 op, .int .i64 oh, .int .i64 ot, .bool st, .int .i64 fe, .int .i64 fp, .int .i64 fh, .int .i64 ft, .bool lo] 135)).alloc (.cells #[.int .i64 8, .int .i64 x, .int .i64 y, .int .i64 i] 115)) (n := w.heap.size + 1 + 1) (by simp) 135 #[.slice none 0 0, .int .i64 0, .int .i64 0, .int .i64 0, .int .i64 0, .int .i64 0, .int .i64 0, .int .i64 0, .int .i64 0, .int .i64 0, .int .i64 0, .int .i64 0, .slice none 0 0, .int .i64 0, .int .i64 0, .int .i64 0, .bool false, .int .i64 0, .int .i64 0, .int .i64 0, .int .i64 0, .bool false]
  have B0 : Hid (Below w.heap.size w _) := bel_alloc (bel_alloc (bel_alloc (Below.refl w.heap.size w) (.cells #[.slice am nm cm, .int .i64 pc, .int .i64 (nth rs 0), .int .i64 (nth rs 1), .int .i64 (nth rs 2), .int .i64 (nth rs 3), .int .i64 (nth rs 4), .int .i64 (nth rs 5), .int .i64 (nth rs 6), .int .i64 (nth rs 7), .int .i64 mo, .int .i64 ba, .slice ca ck cc, .int .i64 op, .int .i64 oh, .int .i64 ot, .bool st, .int .i64 fe, .int .i64 fp, .int .i64 fh, .int .i64 ft, .bool lo] 135)) (.cells #[.int .i64 8, .int .i64 x, .int .i64 y, .int .i64 i] 115)) (.cells #[.slice none 0 0, .int .i64 0, .int .i64 0, .int .i64 0, .int .i64 0, .int .i64 0, .int .i64 0, .int .i64 0, .int .i64 0, .int .i64 0, .int .i64 0, .int .i64 0, .slice none 0 0, .int .i64 0, .int .i64 0, .int .i64 0, .bool false, .int .i64 0, .int .i64 0, .int .i64 0, .int .i64 0, .bool false] 135)
  have W3 : Hid ((((w.alloc (.cells #[.slice am nm cm, .int .i64 pc, .int .i64 (nth rs 0), .int .i64 (nth rs 1), .int .i64 (nth rs 2), .int .i64 (nth rs 3), .int .i64 (nth rs 4), .int .i64 (nth rs 5), .int .i64 (nth rs 6), .int .i64 (nth rs 7), .int .i64 mo, .int .i64 ba, .slice ca ck cc, .int .i64 op, .int .i64 oh, .int .i64 ot, .bool st, .int .i64 fe, .int .i64 fp, .int .i64 fh, .int .i64 ft, .bool lo] 135)).alloc (.cells #[.int .i64 8, .int .i64 x, .int .i64 y, .int .i64 i] 115)).alloc (.cells #[.slice none 0 0, .int .i64 0, .int .i64 0, .int .i64 0, .int .i64 0, .int .i64 0, .int .i64 0, .int .i64 0, .int .i64 0, .int .i64 0, .int .i64 0, .int .i64 0, .slice none 0 0, .int .i64 0, .int .i64 0, .int .i64 0, .bool false, .int .i64 0, .int .i64 0, .int .i64 0, .int .i64 0, .bool false] 135)).heap.size = w.heap.size + 1 + 1 + 1) := by show _ = _; simp
  generalize (((w.alloc (.cells #[.slice am nm cm, .int .i64 pc, .int .i64 (nth rs 0), .int .i64 (nth rs 1), .int .i64 (nth rs 2), .int .i64 (nth rs 3), .int .i64 (nth rs 4), .int .i64 (nth rs 5), .int .i64 (nth rs 6), .int .i64 (nth rs 7), .int .i64 mo, .int .i64 ba, .slice ca ck cc, .int .i64 op, .int .i64 oh, .int .i64 ot, .bool st, .int .i64 fe, .int .i64 fp, .int .i64 fh, .int .i64 ft, .bool lo] 135)).alloc (.cells #[.int .i64 8, .int .i64 x, .int .i64 y, .int .i64 i] 115)).alloc (.cells #[.slice none 0 0, .int .i64 0, .int .i64 0, .int .i64 0, .int .i64 0, .int .i64 0, .int .i64 0, .int .i64 0, .int .i64 0, .int .i64 0, .int .i64 0, .int .i64 0, .slice none 0 0, .int .i64 0, .int .i64 0, .int .i64 0, .bool false, .int .i64 0, .int .i64 0, .int .i64 0, .int .i64 0, .bool false] 135)) = W at *
  have Y0 := X0
  obtain ⟨i0, i1, i2, i3, -, -, -, -, s1⟩ := X1.four
  go_wp2_with (first
    | (refine wpList_load_row rfl 135 (.tmp 2) rfl w.heap.size rfl _ _ _ _ Y0 Tryz.underlying135 rfl infoState ?_))
  refine (hIn_any am nm cm pc rs mo ba op oh ot fe fp fh ft st lo ca ck cc l 8 x y i _ H8.out HW.out HX.out HY.out HI.out).mono ?_
  rintro e w5 ⟨z, rfl, hz1, b5⟩
  have HZ1 : Hid _ := hz1
  obtain ⟨ok, hok⟩ : ∃ ok, decide (i ≤ 9) = ok := ⟨_, rfl⟩
  have HOK : Hid _ := hok
  rw [hok]
  clear hz1 hok
  have Y2 := X2.keep b5
  have B6 : Hid (Below w.heap.size w w5) := bel_trans B0.out b5
  have S5 : Hid (w.heap.size + 1 + 1 + 1 ≤ w5.heap.size) := by show _ ≤ _; have := b5.size; have w3 := W3.out; omega
  clear X0 X1 X2 Y0 i0 i1 i2 i3 s1 b5
  go_wp2_with (first
    | (refine wpList_store_row rfl 135 (.tmp 4) (.tmp 84) rfl (w.heap.size + 1 + 1) _ rfl rfl _ _ Y2 infoState rfl (stateOne _ _ _ _ _ _ _ _ _ _ _ _ _ _ _ _ _ _ _ _ _ _ _ _ _ _) ?_))
  have hl := Box.loadState (Y2.setRow #[.slice am nm cm, .int .i64 pc, .int .i64 (nth (rs.set x.toNat z) 0), .int .i64 (nth (rs.set x.toNat z) 1), .int .i64 (nth (rs.set x.toNat z) 2), .int .i64 (nth (rs.set x.toNat z) 3), .int .i64 (nth (rs.set x.toNat z) 4), .int .i64 (nth (rs.set x.toNat z) 5), .int .i64 (nth (rs.set x.toNat z) 6), .int .i64 (nth (rs.set x.toNat z) 7), .int .i64 mo, .int .i64 ba, .slice ca ck cc, .int .i64 op, .int .i64 oh, .int .i64 ot, .bool st, .int .i64 fe, .int .i64 fp, .int .i64 fh, .int .i64 ft, .bool lo]) rfl
  refine bodyPost_ret (v := .tuple #[.agg #[.slice am nm cm, .int .i64 pc, .int .i64 (nth (rs.set x.toNat z) 0), .int .i64 (nth (rs.set x.toNat z) 1), .int .i64 (nth (rs.set x.toNat z) 2), .int .i64 (nth (rs.set x.toNat z) 3), .int .i64 (nth (rs.set x.toNat z) 4), .int .i64 (nth (rs.set x.toNat z) 5), .int .i64 (nth (rs.set x.toNat z) 6), .int .i64 (nth (rs.set x.toNat z) 7), .int .i64 mo, .int .i64 ba, .slice ca ck cc, .int .i64 op, .int .i64 oh, .int .i64 ot, .bool st, .int .i64 fe, .int .i64 fp, .int .i64 fh, .int .i64 ft, .bool lo], .bool ok]) (by simp [results, Tryz.results112, asAddr, hl]) rfl ⟨_, _, _, _, _, _, _, _, _, _, _, _, _, _, _, _, _, _, _, _, rfl, fun h => by rw [exeI, if_neg (by decide), if_neg (by decide), if_neg (by decide), if_neg (by decide), if_neg (by decide), if_neg (by decide), if_neg (by decide), if_pos rfl, if_neg (of_decide_eq_false (HOK.out.trans h))], fun h => ⟨zs, by rw [exeI, if_neg (by decide), if_neg (by decide), if_neg (by decide), if_neg (by decide), if_neg (by decide), if_neg (by decide), if_neg (by decide), if_pos rfl, if_pos (of_decide_eq_true (HOK.out.trans h)), HPC.out, HZ1.out (of_decide_eq_true (HOK.out.trans h))], by rw [List.length_set]; exact H8.out, rfl, .inl ⟨rfl, rfl⟩⟩, bel_setRow (by omega) B6.out _⟩
end Go.Proofs.YtlgjllmecjkbjacGreat
/-
  Package code: what isReg, isImm, isIns, Put answer; none turns memory that was there.
-/
namespace Go.Proofs.YtlgjllmecjkbjacGreat
open Go.RowKit
theorem isReg_any (z : Int) (w : World) : Calls Tryz.prog 157 #[.int .i64 z] w fun e w' => e = .returned (.bool (betweenB 0 7 z)) ∧ w' = w := by
  by_cases h1 : 0 ≤ z
  · by_cases h2 : z < 8
    · rw [between_yes ⟨h1, by omega⟩]
      go_enter Tryz.func157, Tryz.ntmps157
      go_wp2
      go_ret
      exact ⟨rfl, rfl⟩
    · rw [between_no fun h => h2 (by omega)]
      go_enter Tryz.func157, Tryz.ntmps157
      go_wp2
      go_ret
      exact ⟨rfl, rfl⟩
  · rw [between_no fun h => h1 h.1]
    go_enter Tryz.func157, Tryz.ntmps157
    go_wp2
    go_ret
    exact ⟨rfl, rfl⟩
theorem isImm_any (z : Int) (w : World) : Calls Tryz.prog 158 #[.int .i64 z] w fun e w' => e = .returned (.bool (betweenB 0 63 z)) ∧ w' = w := by
  by_cases h1 : 0 ≤ z
  · by_cases h2 : z ≤ 63
    · rw [between_yes ⟨h1, by omega⟩]
      go_enter Tryz.func158, Tryz.ntmps158
      go_wp2
      go_ret
      exact ⟨rfl, rfl⟩
    · rw [between_no fun h => h2 (by omega)]
      go_enter Tryz.func158, Tryz.ntmps158
      go_wp2
      go_ret
      exact ⟨rfl, rfl⟩
  · rw [between_no fun h => h1 h.1]
    go_enter Tryz.func158, Tryz.ntmps158
    go_wp2
    go_ret
    exact ⟨rfl, rfl⟩
theorem fit0 (a b i : Int) : fitI 0 a b i = (decide (a = 0) && decide (b = 0) && decide (i = 0)) := rfl
theorem fit1 {k : Int} (h : k = 1 ∨ k = 3 ∨ k = 7 ∨ k = 8) (a b i : Int) : fitI k a b i = decide (b = 0) := by
  rcases h with rfl | rfl | rfl | rfl <;> simp [fitI, useA, useB, useI]
theorem fit2 (a b i : Int) : fitI 2 a b i = decide (i = 0) := by simp [fitI, useA, useB, useI]
theorem fit4 {k : Int} (h : k = 4 ∨ k = 5 ∨ k = 6) (a b i : Int) : fitI k a b i = true := by
  rcases h with rfl | rfl | rfl <;> simp [fitI, useA, useB, useI]
set_option maxHeartbeats 1000000 in
theorem isIns_any (k a b i : Int) (w : World) (hk : 0 ≤ k ∧ k ≤ 8) :
    Calls Tryz.prog 159 #[.agg #[.int .i64 k, .int .i64 a, .int .i64 b, .int .i64 i]] w fun e w' => e = .returned (.bool (fitI k a b i)) ∧ ∃ o, w' = w.alloc o := by
  have parts : k = 0 ∨ k = 2 ∨ (k = 4 ∨ k = 5 ∨ k = 6) ∨ (k = 1 ∨ k = 3 ∨ k = 7 ∨ k = 8) := by omega
  clear hk
  rcases parts with rfl | rfl | h | h
  · rw [fit0]
    by_cases ha : a = 0
    · subst ha
      by_cases hb : b = 0
      · subst hb
        by_cases hi : i = 0
        · subst hi
          go_enter Tryz.func159, Tryz.ntmps159
          go_wp2
          go_ret
          exact ⟨rfl, _, rfl⟩
        · have ni : (i == 0) = false := by simpa using hi
          have di : Hid (decide (i = 0) = false) := decide_eq_false hi
          clear hi
          go_enter Tryz.func159, Tryz.ntmps159
          go_wp2
          go_ret
          exact ⟨ret_bool (by rw [di.out]; rfl), _, rfl⟩
      · have nb : (b == 0) = false := by simpa using hb
        have db : Hid (decide (b = 0) = false) := decide_eq_false hb
        clear hb
        go_enter Tryz.func159, Tryz.ntmps159
        go_wp2
        go_ret
        exact ⟨ret_bool (by rw [db.out]; rfl), _, rfl⟩
    · have na : (a == 0) = false := by simpa using ha
      have da : Hid (decide (a = 0) = false) := decide_eq_false ha
      clear ha
      go_enter Tryz.func159, Tryz.ntmps159
      go_wp2
      go_ret
      exact ⟨ret_bool (by rw [da.out]; rfl), _, rfl⟩
  · rw [fit2]
    by_cases hi : i = 0
    · subst hi
      go_enter Tryz.func159, Tryz.ntmps159
      go_wp2
      go_ret
      exact ⟨rfl, _, rfl⟩
    · have ni : (i == 0) = false := by simpa using hi
      have di : Hid (decide (i = 0) = false) := decide_eq_false hi
      clear hi
      go_enter Tryz.func159, Tryz.ntmps159
      go_wp2
      go_ret
      exact ⟨ret_bool (by rw [di.out]), _, rfl⟩
  · rw [fit4 h]
    rcases h with rfl | rfl | rfl
    all_goals
      go_enter Tryz.func159, Tryz.ntmps159
      go_wp2
      go_ret
      exact ⟨rfl, _, rfl⟩
  · rw [fit1 h]
    by_cases hb : b = 0
    · subst hb
      rcases h with rfl | rfl | rfl | rfl
      all_goals
        go_enter Tryz.func159, Tryz.ntmps159
        go_wp2
        go_ret
        exact ⟨rfl, _, rfl⟩
    · have nb : (b == 0) = false := by simpa using hb
      have db : Hid (decide (b = 0) = false) := decide_eq_false hb
      clear hb
      rcases h with rfl | rfl | rfl | rfl
      all_goals
        go_enter Tryz.func159, Tryz.ntmps159
        go_wp2
        go_ret
        exact ⟨ret_bool (by rw [db.out]), _, rfl⟩
theorem iE_out {k a b i : Int} (h : ¬ ((0 ≤ k ∧ k ≤ 8) ∧ (0 ≤ a ∧ a ≤ 7) ∧ (0 ≤ b ∧ b ≤ 7) ∧ (0 ≤ i ∧ i ≤ 63))) : iE k a b i = 2 := by
  unfold iE
  rw [if_neg]
  simp only [rngI, Bool.and_eq_true, decide_eq_true_eq]
  exact fun x => h ⟨x.1.1.1, x.1.1.2, x.1.2, x.2⟩
theorem iE_in {k a b i : Int} (hk : 0 ≤ k ∧ k ≤ 8) (ha : 0 ≤ a ∧ a ≤ 7) (hb : 0 ≤ b ∧ b ≤ 7) (hi : 0 ≤ i ∧ i ≤ 63) : iE k a b i = if fitI k a b i = true then 0 else 3 := by
  unfold iE
  rw [if_pos]
  simp only [rngI, Bool.and_eq_true, decide_eq_true_eq]
  exact ⟨⟨⟨hk, ha⟩, hb⟩, hi⟩
theorem iW_bad {k a b i e : Int} (h : iE k a b i = e) (hn : ¬ e = 0) : iW k a b i = 0 := if_neg (fun x => hn (h.symm.trans x))
set_option maxHeartbeats 1000000 in
theorem cPut_any (k a b i : Int) (w : World) :
    Calls Tryz.prog 139 #[.agg #[.int .i64 k, .int .i64 a, .int .i64 b, .int .i64 i]] w fun e w' => e = .returned (.tuple #[.int .i64 (iW k a b i), .int .i64 (iE k a b i)]) ∧ Below w.heap.size w w' := by
  by_cases k0 : k < 0
  · have he : iE k a b i = 2 := iE_out (by omega)
    rw [iW_bad he (by decide), he]
    clear he
    go_enter Tryz.func139, Tryz.ntmps139
    go_wp2
    go_ret2
    exact ⟨rfl, bel_alloc (Below.refl _ _) _⟩
  by_cases k1 : 8 < k
  · have he : iE k a b i = 2 := iE_out (by omega)
    rw [iW_bad he (by decide), he]
    clear he
    go_enter Tryz.func139, Tryz.ntmps139
    go_wp2
    go_ret2
    exact ⟨rfl, bel_alloc (Below.refl _ _) _⟩
  cases ha : betweenB 0 7 a
  · have ha' : ¬ (0 ≤ a ∧ a ≤ 7) := of_decide_eq_false ha
    have he : iE k a b i = 2 := iE_out (by omega)
    rw [iW_bad he (by decide), he]
    clear he ha'
    go_enter Tryz.func139, Tryz.ntmps139
    go_wp2_with (first | (go_at_call 157; refine (isReg_any _ _).mono ?_; rintro e w1 ⟨rfl, rfl⟩; rw [ha]))
    go_ret2
    exact ⟨rfl, bel_alloc (Below.refl _ _) _⟩
  have ha' := of_between ha
  cases hb : betweenB 0 7 b
  · have hb' : ¬ (0 ≤ b ∧ b ≤ 7) := of_decide_eq_false hb
    have he : iE k a b i = 2 := iE_out (by omega)
    rw [iW_bad he (by decide), he]
    clear he ha' hb'
    go_enter Tryz.func139, Tryz.ntmps139
    go_wp2_with (first | (go_at_call 157; refine (isReg_any _ _).mono ?_; rintro e w1 ⟨rfl, rfl⟩; first | rw [ha] | rw [hb]))
    go_ret2
    exact ⟨rfl, bel_alloc (Below.refl _ _) _⟩
  have hb' := of_between hb
  cases hi : betweenB 0 63 i
  · have hi' : ¬ (0 ≤ i ∧ i ≤ 63) := of_decide_eq_false hi
    have he : iE k a b i = 2 := iE_out (by omega)
    rw [iW_bad he (by decide), he]
    clear he ha' hb' hi'
    go_enter Tryz.func139, Tryz.ntmps139
    go_wp2_with (first | (go_at_call 157; refine (isReg_any _ _).mono ?_; rintro e w1 ⟨rfl, rfl⟩; first | rw [ha] | rw [hb]) | (go_at_call 158; refine (isImm_any _ _).mono ?_; rintro e w1 ⟨rfl, rfl⟩; rw [hi]))
    go_ret2
    exact ⟨rfl, bel_alloc (Below.refl _ _) _⟩
  have hi' := of_between hi
  have he := iE_in (k := k) (by omega) ha' hb' hi'
  have k0 : 0 ≤ k := by omega
  have k1 : k ≤ 8 := by omega
  cases hf : fitI k a b i
  · rw [hf] at he
    rw [iW_bad he (by decide), he]
    clear he ha' hb' hi'
    go_enter Tryz.func139, Tryz.ntmps139
    go_wp2_with (first | (go_at_call 157; refine (isReg_any _ _).mono ?_; rintro e w1 ⟨rfl, rfl⟩; first | rw [ha] | rw [hb]) | (go_at_call 158; refine (isImm_any _ _).mono ?_; rintro e w1 ⟨rfl, rfl⟩; rw [hi]) | (go_at_call 159; refine (isIns_any _ _ _ _ _ ⟨k0, k1⟩).mono ?_; rintro e w1 ⟨rfl, o1, rfl⟩; rw [hf]))
    go_ret2
    exact ⟨rfl, bel_alloc (bel_alloc (Below.refl _ _) _) _⟩
  · rw [hf] at he
    have he : iE k a b i = 0 := he
    rw [iW_ok he, he]
    clear he
    obtain ⟨a0, a1⟩ := ha'
    obtain ⟨b0, b1⟩ := hb'
    obtain ⟨i0, i1⟩ := hi'
    go_enter Tryz.func139, Tryz.ntmps139
    go_wp2_with (first | (go_at_call 157; refine (isReg_any _ _).mono ?_; rintro e w1 ⟨rfl, rfl⟩; first | rw [ha] | rw [hb]) | (go_at_call 158; refine (isImm_any _ _).mono ?_; rintro e w1 ⟨rfl, rfl⟩; rw [hi]) | (go_at_call 159; refine (isIns_any _ _ _ _ _ ⟨k0, k1⟩).mono ?_; rintro e w1 ⟨rfl, o1, rfl⟩; rw [hf]))
    go_ret2
    exact ⟨rfl, bel_alloc (bel_alloc (Below.refl _ _) _) _⟩
end Go.Proofs.YtlgjllmecjkbjacGreat
/-
  drawbridgeref's InsWord, first its closure: has a short string a letter?
-/
namespace Go.Proofs.YtlgjllmecjkbjacGreat
open Go.RowKit
end Go.Proofs.YtlgjllmecjkbjacGreat
/-
  What drawbridgeref's InsWord answers, by kind: the same as Put.
-/
namespace Go.Proofs.YtlgjllmecjkbjacGreat
open Go.RowKit
end Go.Proofs.YtlgjllmecjkbjacGreat
/-
  What drawbridgeref's InsWord answers, by kind: the same as Put.
-/
namespace Go.Proofs.YtlgjllmecjkbjacGreat
open Go.RowKit
end Go.Proofs.YtlgjllmecjkbjacGreat
/-
  What drawbridgeref's InsWord answers, by kind: the same as Put.
-/
namespace Go.Proofs.YtlgjllmecjkbjacGreat
open Go.RowKit
end Go.Proofs.YtlgjllmecjkbjacGreat
/-
  What drawbridgeref's InsWord answers, by kind: the same as Put.
-/
namespace Go.Proofs.YtlgjllmecjkbjacGreat
open Go.RowKit
end Go.Proofs.YtlgjllmecjkbjacGreat
/-
  drawbridgeref's InsWord: whatever instruction: the same as Put.
-/
namespace Go.Proofs.YtlgjllmecjkbjacGreat
open Go.RowKit
end Go.Proofs.YtlgjllmecjkbjacGreat
/-
  What package code's Read answers, and drawbridgeref's InsOf: the same; none turns memory that was there.
-/
namespace Go.Proofs.YtlgjllmecjkbjacGreat
open Go.RowKit
theorem riE_out {z : Int} (h : ¬ (0 ≤ z ∧ z ≤ 65535)) : riE z = 2 := if_neg h
theorem riE_bad {z : Int} (h : 0 ≤ z ∧ z ≤ 65535) (k : ¬ iE (z / 4096) (z / 512 % 8) (z / 64 % 8) (z % 64) = 0) : riE z = 3 := by rw [riE, if_pos h, if_neg k]
theorem riX_bad {z e : Int} (h : riE z = e) (hn : ¬ e = 0) : riX z = (0, 0, 0, 0) := if_neg (fun x => hn (h.symm.trans x))
theorem riX_ok {z : Int} (h : riE z = 0) : riX z = (z / 4096, z / 512 % 8, z / 64 % 8, z % 64) := if_pos h
theorem ri_way {z : Int} (h : 0 ≤ z ∧ z ≤ 65535) :
    (riE z = 3 ∧ riX z = (0, 0, 0, 0) ∧ ¬ iE (z / 4096) (z / 512 % 8) (z / 64 % 8) (z % 64) = 0) ∨
    (riE z = 0 ∧ riX z = (z / 4096, z / 512 % 8, z / 64 % 8, z % 64) ∧ iE (z / 4096) (z / 512 % 8) (z / 64 % 8) (z % 64) = 0) := by
  by_cases hk : iE (z / 4096) (z / 512 % 8) (z / 64 % 8) (z % 64) = 0
  · have hr := riE_mk h hk
    exact .inr ⟨hr, riX_ok hr, hk⟩
  · have hr := riE_bad h hk
    exact .inl ⟨hr, riX_bad hr (by decide), hk⟩
set_option maxHeartbeats 2000000 in
theorem cRead_any (z : Int) (w : World) :
    Calls Tryz.prog 111 #[.int .i64 z] w fun e w' => (∃ k a b i, e = .returned (.tuple #[.agg #[.int .i64 k, .int .i64 a, .int .i64 b, .int .i64 i], .int .i64 (riE z)]) ∧ riX z = (k, a, b, i)) ∧ Below w.heap.size w w' := by
  by_cases z0 : z < 0
  · have hr : riE z = 2 := riE_out (by omega)
    have HO : Hid (riX z = (0, 0, 0, 0)) := riX_bad hr (by decide)
    rw [hr]
    clear hr
    go_enter Tryz.func111, Tryz.ntmps111
    go_wp2
    refine bodyPost_ret (v := .tuple #[.agg #[.int .i64 0, .int .i64 0, .int .i64 0, .int .i64 0], .int .i64 2]) (by simp [results, Tryz.results111, go_sem]) rfl ⟨⟨_, _, _, _, rfl, HO.out⟩, ?_⟩
    exact bel_alloc (Below.refl _ _) _
  by_cases z1 : 65535 < z
  · have hr : riE z = 2 := riE_out (by omega)
    have HO : Hid (riX z = (0, 0, 0, 0)) := riX_bad hr (by decide)
    rw [hr]
    clear hr
    go_enter Tryz.func111, Tryz.ntmps111
    go_wp2
    refine bodyPost_ret (v := .tuple #[.agg #[.int .i64 0, .int .i64 0, .int .i64 0, .int .i64 0], .int .i64 2]) (by simp [results, Tryz.results111, go_sem]) rfl ⟨⟨_, _, _, _, rfl, HO.out⟩, ?_⟩
    exact bel_alloc (Below.refl _ _) _
  have hz : 0 ≤ z ∧ z ≤ 65535 := by omega
  have hway := ri_way hz
  obtain ⟨h0, h1⟩ := hz
  obtain ⟨eo, heo⟩ : ∃ eo, iE (z / 4096) (z / 512 % 8) (z / 64 % 8) (z % 64) = eo := ⟨_, rfl⟩
  rw [heo] at hway
  have HW : Hid _ := hway
  have HE : Hid _ := heo
  clear hway heo
  go_enter Tryz.func111, Tryz.ntmps111
  go_wp2_with fail
  refine (cPut_any _ _ _ _ _).mono ?_
  rintro e w1 ⟨rfl, b1⟩
  rw [HE.out]
  have X0 := (Box.newAt (n := w.heap.size) (by simp) 115 #[.int .i64 0, .int .i64 0, .int .i64 0, .int .i64 0]).past (.cells #[.int .i64 (z / 4096), .int .i64 (z / 512 % 8), .int .i64 (z / 64 % 8), .int .i64 (z % 64)] 115) |>.keep b1
  have X1 := (Box.newAt (w := w.alloc (.cells #[.int .i64 0, .int .i64 0, .int .i64 0, .int .i64 0] 115)) (n := w.heap.size + 1) (by simp) 115 #[.int .i64 (z / 4096), .int .i64 (z / 512 % 8), .int .i64 (z / 64 % 8), .int .i64 (z % 64)]).keep b1
  have B1 : Hid (Below w.heap.size w w1) := bel_trans (bel_alloc (bel_alloc (Below.refl _ _) _) _) b1
  clear b1
  obtain ⟨u0, u1, u2, u3, g0, g1, g2, g3, s0⟩ := X0.four
  obtain ⟨q0, q1, q2, q3, -, -, -, -, s1⟩ := X1.four
  clear X0 X1
  rcases HW.out with ⟨hr, ho, hk⟩ | ⟨hr, ho, hk⟩
  · have HR : Hid _ := hr
    have HO : Hid _ := ho
    have hq : (eo != 0) = true := by simpa using hk
    clear hr ho HW HE hk
    go_wp2
    refine bodyPost_ret (v := .tuple #[.agg #[.int .i64 0, .int .i64 0, .int .i64 0, .int .i64 0], .int .i64 3]) (by simp [results, Tryz.results111, go_sem, *]) rfl ⟨⟨_, _, _, _, by rw [HR.out], HO.out⟩, ?_⟩
    exact bel_set4 (by omega) B1.out _ _ _ _
  · have HR : Hid _ := hr
    have HO : Hid _ := ho
    clear hr ho HW HE
    subst hk
    go_wp2
    refine bodyPost_ret (v := .tuple #[.agg #[.int .i64 (z / 4096), .int .i64 (z / 512 % 8), .int .i64 (z / 64 % 8), .int .i64 (z % 64)], .int .i64 0]) (by simp [results, Tryz.results111, go_sem, *]) rfl ⟨⟨_, _, _, _, by rw [HR.out], HO.out⟩, ?_⟩
    exact bel_set4 (by omega) B1.out _ _ _ _
end Go.Proofs.YtlgjllmecjkbjacGreat
/-
  The closed fact drawbridgelaw.coded; the answers where they are known.
-/
namespace Go.Proofs.YtlgjllmecjkbjacGreat
open Go.RowKit
theorem cRead_at {z k a b i e1 : Int} {w : World} (hE : riE z = e1) (hO : riX z = (k, a, b, i)) :
    Calls Tryz.prog 111 #[.int .i64 z] w fun e w' => e = .returned (.tuple #[.agg #[.int .i64 k, .int .i64 a, .int .i64 b, .int .i64 i], .int .i64 e1]) ∧ Below w.heap.size w w' := by
  refine (cRead_any z w).mono ?_
  rintro e w' ⟨⟨k', a', b', i', rfl, h⟩, hb⟩
  rw [hO] at h
  simp only [Prod.mk.injEq] at h
  obtain ⟨rfl, rfl, rfl, rfl⟩ := h
  rw [hE]
  exact ⟨rfl, hb⟩
end Go.Proofs.YtlgjllmecjkbjacGreat
