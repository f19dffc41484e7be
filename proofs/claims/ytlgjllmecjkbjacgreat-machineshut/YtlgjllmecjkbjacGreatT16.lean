/-
  Laid together: HNext, CloneI, HHart.
-/
import Derived.Test.YtlgjllmecjkbjacGreatT15
import Derived.Deep.RegionHeld3
/-
  Package hart: do at every instruction; next: the state behind the instruction at which it is, or not; nothing that was there turns.
-/
namespace Go.Proofs.YtlgjllmecjkbjacGreat
open Go.RowKit
theorem nextP_wrap {p : Int} (h0 : 0 ≤ p) (h1 : p < 512) : (IntKind.i64.wrap (p + 1)).tmod 512 = nextP p := by
  rw [wraps_i64 _ (by omega) (by omega), Int.tmod_eq_emod_of_nonneg (by omega)]; rfl
theorem hDo_any (am : Option Addr) (nm cm : Nat) (zs : List Int) (p : Int) (rs : List Int) (mo ba op oh ot fe fp fh ft : Int) (st lo : Bool) (ca : Option Addr) (ck cc : Nat) (l : List Ln) (k x y i : Int) (w : World) (hs : Sl w (.slice am nm cm) zs) (hL : Ls w (.slice ca ck cc) l) (hb : chkB ⟨mo, ba, l, op, oh, ot, st, fe, fp, fh, ft, lo⟩ = 0) (hz : chk zs = 0) (h8 : rs.length = 8) (hw : ∀ j, j < 8 → 0 ≤ nth rs j ∧ nth rs j ≤ 65535) (hi : iE k x y i = 0) :
    Calls Tryz.prog 112 #[.agg #[.slice am nm cm, .int .i64 (nextP p), .int .i64 (nth rs 0), .int .i64 (nth rs 1), .int .i64 (nth rs 2), .int .i64 (nth rs 3), .int .i64 (nth rs 4), .int .i64 (nth rs 5), .int .i64 (nth rs 6), .int .i64 (nth rs 7), .int .i64 mo, .int .i64 ba, .slice ca ck cc, .int .i64 op, .int .i64 oh, .int .i64 ot, .bool st, .int .i64 fe, .int .i64 fp, .int .i64 fh, .int .i64 ft, .bool lo], .agg #[.int .i64 k, .int .i64 x, .int .i64 y, .int .i64 i]] w fun e w' => DoH am nm cm zs p rs mo ba op oh ot fe fp fh ft st lo ca ck cc l k x y i w e w' := by
  obtain ⟨hk, hx, hy, hii, -⟩ := iE_ok hi
  have parts : k = 0 ∨ k = 1 ∨ k = 2 ∨ k = 3 ∨ k = 4 ∨ k = 5 ∨ k = 6 ∨ k = 7 ∨ k = 8 := by omega
  rcases parts with rfl | rfl | rfl | rfl | rfl | rfl | rfl | rfl | rfl
  · exact do_0 am nm cm zs p rs mo ba op oh ot fe fp fh ft st lo ca ck cc l x y i w hs hL hb hz h8 hw hx hy hii
  · exact do_1 am nm cm zs p rs mo ba op oh ot fe fp fh ft st lo ca ck cc l x y i w hs hL hb hz h8 hw hx hy hii
  · exact do_2 am nm cm zs p rs mo ba op oh ot fe fp fh ft st lo ca ck cc l x y i w hs hL hb hz h8 hw hx hy hii
  · exact do_3 am nm cm zs p rs mo ba op oh ot fe fp fh ft st lo ca ck cc l x y i w hs hL hb hz h8 hw hx hy hii
  · exact do_4 am nm cm zs p rs mo ba op oh ot fe fp fh ft st lo ca ck cc l x y i w hs hL hb hz h8 hw hx hy hii
  · exact do_5 am nm cm zs p rs mo ba op oh ot fe fp fh ft st lo ca ck cc l x y i w hs hL hb hz h8 hw hx hy hii
  · exact do_6 am nm cm zs p rs mo ba op oh ot fe fp fh ft st lo ca ck cc l x y i w hs hL hb hz h8 hw hx hy hii
  · exact do_7 am nm cm zs p rs mo ba op oh ot fe fp fh ft st lo ca ck cc l x y i w hs hL hb hz h8 hw hx hy hii
  · exact do_8 am nm cm zs p rs mo ba op oh ot fe fp fh ft st lo ca ck cc l x y i w hs hL hb hz h8 hw hx hy hii
abbrev NextH (am : Option Addr) (nm cm : Nat) (zs : List Int) (p : Int) (rs : List Int) (mo ba op oh ot fe fp fh ft : Int) (st lo : Bool) (ca : Option Addr) (ck cc : Nat) (l : List Ln) (w : World) (e : Ending) (w' : World) : Prop :=
  ∃ ok a1 n1 c1 pc1 rs1 mo1 ba1 op1 oh1 ot1 fe1 fp1 fh1 ft1 st1 lo1 ca1 ck1 cc1, e = .returned (.tuple #[.agg #[.slice a1 n1 c1, .int .i64 pc1, .int .i64 (nth rs1 0), .int .i64 (nth rs1 1), .int .i64 (nth rs1 2), .int .i64 (nth rs1 3), .int .i64 (nth rs1 4), .int .i64 (nth rs1 5), .int .i64 (nth rs1 6), .int .i64 (nth rs1 7), .int .i64 mo1, .int .i64 ba1, .slice ca1 ck1 cc1, .int .i64 op1, .int .i64 oh1, .int .i64 ot1, .bool st1, .int .i64 fe1, .int .i64 fp1, .int .i64 fh1, .int .i64 ft1, .bool lo1], .bool ok]) ∧
    (ok = false → goS zs ⟨p, rs, false⟩ ⟨mo, ba, l, op, oh, ot, st, fe, fp, fh, ft, lo⟩ = stand zs ⟨p, rs, false⟩ ⟨mo, ba, l, op, oh, ot, st, fe, fp, fh, ft, lo⟩) ∧
    (ok = true → ∃ zs1, goS zs ⟨p, rs, false⟩ ⟨mo, ba, l, op, oh, ot, st, fe, fp, fh, ft, lo⟩ = (zs1, ⟨pc1, rs1, false⟩, ⟨mo1, ba1, l, op1, oh1, ot1, st1, fe1, fp1, fh1, ft1, lo1⟩) ∧ rs1.length = 8 ∧ Value.slice ca ck cc = .slice ca1 ck1 cc1 ∧
      ((Value.slice am nm cm = .slice a1 n1 c1 ∧ zs1 = zs) ∨ (Sl w' (.slice a1 n1 c1) zs1 ∧ Fresh w.heap.size (.slice a1 n1 c1)))) ∧ Below w.heap.size w w'
set_option maxRecDepth 10000 in
set_option maxHeartbeats 4000000 in
theorem hNext_any (am : Option Addr) (nm cm : Nat) (zs : List Int) (p : Int) (rs : List Int) (mo ba op oh ot fe fp fh ft : Int) (st lo : Bool) (ca : Option Addr) (ck cc : Nat) (l : List Ln) (w : World) (hs : Sl w (.slice am nm cm) zs) (hL : Ls w (.slice ca ck cc) l) (hb : chkB ⟨mo, ba, l, op, oh, ot, st, fe, fp, fh, ft, lo⟩ = 0) (hz : chk zs = 0) (h8 : rs.length = 8) (hw : ∀ j, j < 8 → 0 ≤ nth rs j ∧ nth rs j ≤ 65535) (hp : 0 ≤ p ∧ p < 512) :
    Calls Tryz.prog 84 #[.agg #[.slice am nm cm, .int .i64 p, .int .i64 (nth rs 0), .int .i64 (nth rs 1), .int .i64 (nth rs 2), .int .i64 (nth rs 3), .int .i64 (nth rs 4), .int .i64 (nth rs 5), .int .i64 (nth rs 6), .int .i64 (nth rs 7), .int .i64 mo, .int .i64 ba, .slice ca ck cc, .int .i64 op, .int .i64 oh, .int .i64 ot, .bool st, .int .i64 fe, .int .i64 fp, .int .i64 fh, .int .i64 ft, .bool lo]] w fun e w' => NextH am nm cm zs p rs mo ba op oh ot fe fp fh ft st lo ca ck cc l w e w' := by
  have HL : Hid (Ls w (.slice ca ck cc) l) := hL
  have HB : Hid (chkB ⟨mo, ba, l, op, oh, ot, st, fe, fp, fh, ft, lo⟩ = 0) := hb
  have HZ : Hid (chk zs = 0) := hz
  have H8 : Hid (rs.length = 8) := h8
  have HW : Hid (∀ j, j < 8 → 0 ≤ nth rs j ∧ nth rs j ≤ 65535) := hw
  have HM : Hid (Sl w (.slice am nm cm) zs) := hs
  obtain ⟨b, o, cap, hv, hbb, hcs⟩ := hs.open512 (chk_ok hz).1
  simp only [Value.slice.injEq] at hv
  obtain ⟨rfl, rfl, rfl⟩ := hv
  obtain ⟨hp0, hp1⟩ := hp
  have gz := hcs p.toNat (by omega)
  obtain ⟨z, hzz⟩ : ∃ z, nth zs p.toNat = z := ⟨_, rfl⟩
  rw [hzz] at gz
  have HI : Hid (insW zs ⟨p, rs, false⟩ = z) := hzz
  obtain ⟨e2, hE2⟩ : ∃ e2, riE z = e2 := ⟨_, rfl⟩
  obtain ⟨k, x, y, i, hX2⟩ : ∃ k x y i, riX z = (k, x, y, i) := ⟨_, _, _, _, rfl⟩
  have HE2 : Hid _ := hE2
  have HX2 : Hid _ := hX2
  have HPN : Hid ((IntKind.i64.wrap (p + 1)).tmod 512 = nextP p) := nextP_wrap hp0 hp1
  clear hE2 hX2 hcs hzz hs hL hb hz h8 hw
  have X0 := (Box.newAt (w := w) (n := w.heap.size) rfl 135 #[.slice (some ⟨b, o, none⟩) 512 cm, .int .i64 p, .int .i64 (nth rs 0), .int .i64 (nth rs 1), .int .i64 (nth rs 2), .int .i64 (nth rs 3), .int .i64 (nth rs 4), .int .i64 (nth rs 5), .int .i64 (nth rs 6), .int .i64 (nth rs 7), .int .i64 mo, .int .i64 ba, .slice ca ck cc, .int .i64 op, .int .i64 oh, .int .i64 ot, .bool st, .int .i64 fe, .int .i64 fp, .int .i64 fh, .int .i64 ft, .bool lo]).past (.cells #[.slice none 0 0, .int .i64 0, .int .i64 0, .int .i64 0, .int .i64 0, .int .i64 0, .int .i64 0, .int .i64 0, .int .i64 0, .int .i64 0, .int .i64 0, .int .i64 0, .slice none 0 0, .int .i64 0, .int .i64 0, .int .i64 0, .bool false, .int .i64 0, .int .i64 0, .int .i64 0, .int .i64 0, .bool false] 135)
  have X1 := Box.newAt (w := w.alloc (.cells #[.slice (some ⟨b, o, none⟩) 512 cm, .int .i64 p, .int .i64 (nth rs 0), .int .i64 (nth rs 1), .int .i64 (nth rs 2), .int .i64 (nth rs 3), .int .i64 (nth rs 4), .int .i64 (nth rs 5), .int .i64 (nth rs 6), .int .i64 (nth rs 7), .int .i64 mo, .int .i64 ba, .slice ca ck cc, .int .i64 op, .int .i64 oh, .int .i64 ot, .bool st, .int .i64 fe, .int .i64 fp, .int .i64 fh, .int .i64 ft, .bool lo] 135)) (n := w.heap.size + 1) (by simp) 135 #[.slice none 0 0, .int .i64 0, .int .i64 0, .int .i64 0, .int .i64 0, .int .i64 0, .int .i64 0, .int .i64 0, .int .i64 0, .int .i64 0, .int .i64 0, .int .i64 0, .slice none 0 0, .int .i64 0, .int .i64 0, .int .i64 0, .bool false, .int .i64 0, .int .i64 0, .int .i64 0, .int .i64 0, .bool false]
  have B0 : Hid (Below w.heap.size w _) := bel_alloc (bel_alloc (Below.refl w.heap.size w) (.cells #[.slice (some ⟨b, o, none⟩) 512 cm, .int .i64 p, .int .i64 (nth rs 0), .int .i64 (nth rs 1), .int .i64 (nth rs 2), .int .i64 (nth rs 3), .int .i64 (nth rs 4), .int .i64 (nth rs 5), .int .i64 (nth rs 6), .int .i64 (nth rs 7), .int .i64 mo, .int .i64 ba, .slice ca ck cc, .int .i64 op, .int .i64 oh, .int .i64 ot, .bool st, .int .i64 fe, .int .i64 fp, .int .i64 fh, .int .i64 ft, .bool lo] 135)) (.cells #[.slice none 0 0, .int .i64 0, .int .i64 0, .int .i64 0, .int .i64 0, .int .i64 0, .int .i64 0, .int .i64 0, .int .i64 0, .int .i64 0, .int .i64 0, .int .i64 0, .slice none 0 0, .int .i64 0, .int .i64 0, .int .i64 0, .bool false, .int .i64 0, .int .i64 0, .int .i64 0, .int .i64 0, .bool false] 135)
  have W2 : Hid (((w.alloc (.cells #[.slice (some ⟨b, o, none⟩) 512 cm, .int .i64 p, .int .i64 (nth rs 0), .int .i64 (nth rs 1), .int .i64 (nth rs 2), .int .i64 (nth rs 3), .int .i64 (nth rs 4), .int .i64 (nth rs 5), .int .i64 (nth rs 6), .int .i64 (nth rs 7), .int .i64 mo, .int .i64 ba, .slice ca ck cc, .int .i64 op, .int .i64 oh, .int .i64 ot, .bool st, .int .i64 fe, .int .i64 fp, .int .i64 fh, .int .i64 ft, .bool lo] 135)).alloc (.cells #[.slice none 0 0, .int .i64 0, .int .i64 0, .int .i64 0, .int .i64 0, .int .i64 0, .int .i64 0, .int .i64 0, .int .i64 0, .int .i64 0, .int .i64 0, .int .i64 0, .slice none 0 0, .int .i64 0, .int .i64 0, .int .i64 0, .bool false, .int .i64 0, .int .i64 0, .int .i64 0, .int .i64 0, .bool false] 135)).heap.size = w.heap.size + 1 + 1) := by show _ = _; simp
  go_enter Tryz.func84, Tryz.ntmps84
  go_upto_region 1 with fail
  generalize ((w.alloc (.cells #[.slice (some ⟨b, o, none⟩) 512 cm, .int .i64 p, .int .i64 (nth rs 0), .int .i64 (nth rs 1), .int .i64 (nth rs 2), .int .i64 (nth rs 3), .int .i64 (nth rs 4), .int .i64 (nth rs 5), .int .i64 (nth rs 6), .int .i64 (nth rs 7), .int .i64 mo, .int .i64 ba, .slice ca ck cc, .int .i64 op, .int .i64 oh, .int .i64 ot, .bool st, .int .i64 fe, .int .i64 fp, .int .i64 fh, .int .i64 ft, .bool lo] 135)).alloc (.cells #[.slice none 0 0, .int .i64 0, .int .i64 0, .int .i64 0, .int .i64 0, .int .i64 0, .int .i64 0, .int .i64 0, .int .i64 0, .int .i64 0, .int .i64 0, .int .i64 0, .slice none 0 0, .int .i64 0, .int .i64 0, .int .i64 0, .bool false, .int .i64 0, .int .i64 0, .int .i64 0, .int .i64 0, .bool false] 135)) = W at *
  obtain ⟨⟨q0, q1, -⟩, -, s0⟩ := X0.state0
  rw [← B0.out.cell (p := ⟨b, o + p.toNat, none⟩) hbb] at gz
  have hbW : b < W.heap.size := Nat.lt_of_lt_of_le hbb B0.out.size
  go_wp2_with fail
  refine (cRead_at HE2.out HX2.out).mono ?_
  rintro e w1 ⟨rfl, b1⟩
  have X0 := (X0.keep b1).past (.cells #[.int .i64 k, .int .i64 x, .int .i64 y, .int .i64 i] 115)
  have X1 := (X1.keep b1).past (.cells #[.int .i64 k, .int .i64 x, .int .i64 y, .int .i64 i] 115)
  have XI := Box.newAt (w := w1) (n := w1.heap.size) rfl 115 #[.int .i64 k, .int .i64 x, .int .i64 y, .int .i64 i]
  have B1 : Hid (Below w.heap.size w (w1.alloc (.cells #[.int .i64 k, .int .i64 x, .int .i64 y, .int .i64 i] 115))) := bel_alloc (bel_trans B0.out b1) _
  have z1 : w.heap.size + 1 + 1 ≤ w1.heap.size := by have := b1.size; have := W2.out; omega
  clear gz q0 q1 s0 b1 B0 hbW
  by_cases h2 : e2 = 0
  rotate_left
  · have hq : (e2 != 0) = true := by simpa using h2
    have HT : Hid (goS zs ⟨p, rs, false⟩ ⟨mo, ba, l, op, oh, ot, st, fe, fp, fh, ft, lo⟩ = stand zs ⟨p, rs, false⟩ ⟨mo, ba, l, op, oh, ot, st, fe, fp, fh, ft, lo⟩) := by
      show _ = _
      rw [goS, HI.out, if_neg (by rw [HE2.out]; exact h2)]
    clear h2 HE2 HX2 X0 XI
    go_upto_region 3 with fail
    generalize (w1.alloc (.cells #[.int .i64 k, .int .i64 x, .int .i64 y, .int .i64 i] 115)) = W1 at *
    go_wp2_with (first
      | (refine wpList_store_row rfl 135 (.tmp 2) (.tmp 19) rfl (w.heap.size + 1) _ rfl rfl _ _ X1 infoState rfl (stateOne _ _ _ _ _ _ _ _ _ _ _ _ _ _ _ _ _ _ _ _ _ _ _ _ _ _) ?_))
    have hl := Box.loadState (X1.setRow #[.slice none 0 0, .int .i64 0, .int .i64 0, .int .i64 0, .int .i64 0, .int .i64 0, .int .i64 0, .int .i64 0, .int .i64 0, .int .i64 0, .int .i64 0, .int .i64 0, .slice none 0 0, .int .i64 0, .int .i64 0, .int .i64 0, .bool false, .int .i64 0, .int .i64 0, .int .i64 0, .int .i64 0, .bool false]) rfl
    refine bodyPost_ret (v := .tuple #[.agg #[.slice none 0 0, .int .i64 0, .int .i64 0, .int .i64 0, .int .i64 0, .int .i64 0, .int .i64 0, .int .i64 0, .int .i64 0, .int .i64 0, .int .i64 0, .int .i64 0, .slice none 0 0, .int .i64 0, .int .i64 0, .int .i64 0, .bool false, .int .i64 0, .int .i64 0, .int .i64 0, .int .i64 0, .bool false], .bool false]) (by simp [results, Tryz.results84, asAddr, hl]) rfl ⟨false, none, 0, 0, 0, List.replicate 8 0, _, _, _, _, _, _, _, _, _, _, _, none, 0, 0, rfl, fun _ => HT.out, fun h => (by cases h), bel_setRow (by omega) B1.out _⟩
  subst h2
  have HIE : Hid (iE k x y i = 0) := (i_read HE2.out HX2.out).1
  have HT : Hid (goS zs ⟨p, rs, false⟩ ⟨mo, ba, l, op, oh, ot, st, fe, fp, fh, ft, lo⟩ = exeI zs ⟨p, rs, false⟩ ⟨mo, ba, l, op, oh, ot, st, fe, fp, fh, ft, lo⟩ k x y i) := by
    show _ = _
    rw [goS, HI.out, if_pos HE2.out, HX2.out]
  obtain ⟨pc, hpc⟩ : ∃ pc, nextP p = pc := ⟨_, rfl⟩
  have HPC : Hid (nextP p = pc) := hpc
  have hPN : (IntKind.i64.wrap (p + 1)).tmod 512 = pc := by rw [HPN.out, hpc]
  have Y0 := Box.set X0 1 (.int .i64 pc)
  have Y0 : Box ((w1.alloc (.cells #[.int .i64 k, .int .i64 x, .int .i64 y, .int .i64 i] 115)).setCell ⟨w.heap.size, 1, none⟩ (.int .i64 pc)) w.heap.size 135 #[.slice (some ⟨b, o, none⟩) 512 cm, .int .i64 pc, .int .i64 (nth rs 0), .int .i64 (nth rs 1), .int .i64 (nth rs 2), .int .i64 (nth rs 3), .int .i64 (nth rs 4), .int .i64 (nth rs 5), .int .i64 (nth rs 6), .int .i64 (nth rs 7), .int .i64 mo, .int .i64 ba, .slice ca ck cc, .int .i64 op, .int .i64 oh, .int .i64 ot, .bool st, .int .i64 fe, .int .i64 fp, .int .i64 fh, .int .i64 ft, .bool lo] := Y0
  have Y1 := X1.other (p := ⟨w.heap.size, 1, none⟩) (by show w.heap.size + 1 ≠ w.heap.size; omega) (.int .i64 pc)
  have YI := XI.other (p := ⟨w.heap.size, 1, none⟩) (by show w1.heap.size ≠ w.heap.size; omega) (.int .i64 pc)
  have B2 : Hid (Below w.heap.size w ((w1.alloc (.cells #[.int .i64 k, .int .i64 x, .int .i64 y, .int .i64 i] 115)).setCell ⟨w.heap.size, 1, none⟩ (.int .i64 pc))) := bel_set (by show w.heap.size ≤ w.heap.size; omega) B1.out _
  have Z2 : Hid (w.heap.size + 1 + 1 ≤ ((w1.alloc (.cells #[.int .i64 k, .int .i64 x, .int .i64 y, .int .i64 i] 115)).setCell ⟨w.heap.size, 1, none⟩ (.int .i64 pc)).heap.size) := by show _ ≤ _; have := Y1.lt; omega
  have hwr : IntKind.i64.wrap (p + 1) = p + 1 := wraps_i64 _ (by omega) (by omega)
  have hpm : (p + 1) % 512 = pc := hpc
  obtain ⟨⟨q0, q1, -⟩, -, s0⟩ := X0.state0
  have fx := X0.marksAll
  clear HE2 HX2 hpc hPN
  go_upto_region 5 with fail
  clear q0 q1 s0 fx X0 X1 XI B1
  generalize w1.heap.size = N1 at *
  generalize ((w1.alloc (.cells #[.int .i64 k, .int .i64 x, .int .i64 y, .int .i64 i] 115)).setCell ⟨w.heap.size, 1, none⟩ (.int .i64 pc)) = W2 at *
  obtain ⟨i0, i1, i2, i3, -, -, -, -, s1⟩ := YI.four
  have hDo := hDo_any (some ⟨b, o, none⟩) 512 cm zs p rs mo ba op oh ot fe fp fh ft st lo ca ck cc l k x y i W2 (HM.out.keep B2.out) (HL.out.keep B2.out) HB.out HZ.out H8.out HW.out HIE.out
  rw [HPC.out] at hDo
  go_wp2_with (first
    | (refine wpList_load_row rfl 135 (.tmp 1) rfl w.heap.size rfl _ _ _ _ Y0 Tryz.underlying135 rfl infoState ?_))
  refine hDo.mono ?_
  rintro e w5 ⟨ok, a1, n1, c1, pc1, rs1, mo1, ba1, op1, oh1, ot1, fe1, fp1, fh1, ft1, st1, lo1, ca1, ck1, cc1, rfl, hno, hyes, b5⟩
  have HNO : Hid _ := hno
  have HYES : Hid _ := hyes
  have Y1 := Y1.keep b5
  have B6 : Hid (Below w.heap.size w w5) := bel_trans B2.out b5
  clear hno hyes b5 Y0 YI i0 i1 i2 i3 s1 hDo hpm hwr
  go_wp2_with (first
    | (refine wpList_store_row rfl 135 (.tmp 2) (.tmp 28) rfl (w.heap.size + 1) _ rfl rfl _ _ Y1 infoState rfl (stateOne _ _ _ _ _ _ _ _ _ _ _ _ _ _ _ _ _ _ _ _ _ _ _ _ _ _) ?_))
  have hl := Box.loadState (Y1.setRow #[.slice a1 n1 c1, .int .i64 pc1, .int .i64 (nth rs1 0), .int .i64 (nth rs1 1), .int .i64 (nth rs1 2), .int .i64 (nth rs1 3), .int .i64 (nth rs1 4), .int .i64 (nth rs1 5), .int .i64 (nth rs1 6), .int .i64 (nth rs1 7), .int .i64 mo1, .int .i64 ba1, .slice ca1 ck1 cc1, .int .i64 op1, .int .i64 oh1, .int .i64 ot1, .bool st1, .int .i64 fe1, .int .i64 fp1, .int .i64 fh1, .int .i64 ft1, .bool lo1]) rfl
  refine bodyPost_ret (v := .tuple #[.agg #[.slice a1 n1 c1, .int .i64 pc1, .int .i64 (nth rs1 0), .int .i64 (nth rs1 1), .int .i64 (nth rs1 2), .int .i64 (nth rs1 3), .int .i64 (nth rs1 4), .int .i64 (nth rs1 5), .int .i64 (nth rs1 6), .int .i64 (nth rs1 7), .int .i64 mo1, .int .i64 ba1, .slice ca1 ck1 cc1, .int .i64 op1, .int .i64 oh1, .int .i64 ot1, .bool st1, .int .i64 fe1, .int .i64 fp1, .int .i64 fh1, .int .i64 ft1, .bool lo1], .bool ok]) (by simp [results, Tryz.results84, asAddr, hl]) rfl ⟨ok, a1, n1, c1, pc1, rs1, mo1, ba1, op1, oh1, ot1, fe1, fp1, fh1, ft1, st1, lo1, ca1, ck1, cc1, rfl, fun h => by rw [HT.out]; exact HNO.out h, fun h => ?_, bel_setRow (by omega) B6.out _⟩
  obtain ⟨zs1, g1, g2, g3, g4⟩ := HYES.out h
  refine ⟨zs1, by rw [HT.out]; exact g1, g2, g3, ?_⟩
  rcases g4 with g4 | ⟨g4, g5⟩
  · exact .inl g4
  · exact .inr ⟨g4.otherRow (g5.ne (by have := Z2.out; omega)) _, g5.mono (by have := Z2.out; omega)⟩
end Go.Proofs.YtlgjllmecjkbjacGreat
/-
  A row of numbers of its own is read and written; slices.Clone of a memory's words.
-/
namespace Go.Proofs.YtlgjllmecjkbjacGreat
open Go.RowKit
theorem OwnI.open {w : World} {base g n cap : Nat} {zs : List Int} (h : OwnI w base (.slice (some ⟨g, 0, none⟩) n cap) zs) : ∃ cur : Array Value, n = zs.length ∧ base ≤ g ∧ w.heap[g]? = some (.cells cur 3 (0, 0)) ∧ zs.length ≤ cap ∧ cap ≤ maxLen ∧ cur.size = cap ∧ cur.toList.take zs.length = zs.map (fun z => Value.int .i64 z) := by
  obtain ⟨h1, h2⟩ := h
  rcases h2 with ⟨h2, _⟩ | ⟨g', cap', cur, e, hb, hg, hc, hm, hs, ht⟩
  · simp at h2
  · simp only [Value.slice.injEq, Option.some.injEq, Addr.mk.injEq, and_true] at e
    obtain ⟨rfl, rfl, rfl⟩ := e
    exact ⟨cur, rfl, hb, hg, hc, hm, by simpa using hs, by simpa using ht⟩
theorem OwnI.cellAt {w : World} {base g n cap : Nat} {zs : List Int} (h : OwnI w base (.slice (some ⟨g, 0, none⟩) n cap) zs) {i : Nat} (hi : i < zs.length) : w.cell? ⟨g, i, none⟩ = some (.int .i64 (nth zs i)) := by
  obtain ⟨cur, rfl, _, hg, hc, _, hs, ht⟩ := h.open
  rw [cell_of_row w g i cur _ _ hg, ← Array.getElem?_toList]
  have : (cur.toList.take zs.length)[i]? = cur.toList[i]? := by rw [List.getElem?_take, if_pos hi]
  rw [← this, ht]
  simp [nth, hi]
end Go.Proofs.YtlgjllmecjkbjacGreat
/-
  Package hart: hartOf: a hart of a state, its registers in memory of their own; nothing that was there turns.
-/
namespace Go.Proofs.YtlgjllmecjkbjacGreat
open Go.RowKit
set_option maxRecDepth 10000 in
set_option maxHeartbeats 1000000 in
theorem clone8 (b o : Nat) (c : Nat) (zs : List Int) (w : World) (h : Sl w (.slice (some ⟨b, o, none⟩) 8 c) zs) (hn : zs.length = 8) :
    Calls Tryz.prog 113 #[.slice (some ⟨b, o, none⟩) 8 c] w fun e w' => ∃ g cap, e = .returned (.slice (some ⟨g, 0, none⟩) 8 cap) ∧ OwnI w' w.heap.size (.slice (some ⟨g, 0, none⟩) 8 cap) zs ∧ Below w.heap.size w w' := by
  have HS : Hid (Sl w (.slice (some ⟨b, o, none⟩) 8 c) zs) := h
  have HN : Hid (zs.length = 8) := hn
  clear h hn
  have H1 : Hid (OwnI (w.alloc (.cells #[] 3)) w.heap.size (.slice (some ⟨w.heap.size, 0, none⟩) 0 0) []) := lit_row w w.heap.size (Nat.le_refl _)
  have heq : ∀ wx, Sem.run Tryz.prog (binOp .eql 22 (.slice (some ⟨b, o, none⟩) 8 c) (.slice none 0 0)) wx = .ok (.bool false) wx := fun wx => by kernel_rfl
  go_enter Tryz.func113, Tryz.ntmps113
  go_wp2_with (at_builtin; refine wpList_append_I rfl (.tmp 5) (.tmp 6) rfl w.heap.size _ _ [] zs rfl rfl H1.out ?hc ?hl ?hbase ?hne ?hrest)
  case hbase => simp
  case hl => have := HN.out; simp; omega
  case hne => intro e; have := HN.out; rw [e] at this; simp at this
  case hc => exact HS.out.keep (bel_alloc (Below.refl _ _) _)
  intro g cap w2 hown hgr hbel hat
  have HO : Hid (OwnI w2 w.heap.size (.slice (some ⟨g, 0, none⟩) 8 cap) zs) := by
    show OwnI _ _ _ _
    have := hown
    rw [HN.out] at this
    exact this
  have BB : Hid (Below w.heap.size w w2) := (bel_alloc (Below.refl _ _) (.cells #[] 3)).trans hbel
  rw [HN.out]
  clear hown hgr hbel hat
  go_wp2
  go_ret
  exact ⟨g, cap, rfl, HO.out, BB.out⟩
set_option maxRecDepth 10000 in
set_option maxHeartbeats 4000000 in
theorem hartOf_any (am : Option Addr) (nm cm : Nat) (pc : Int) (rs : List Int) (mo ba op oh ot fe fp fh ft : Int) (st lo : Bool) (ca : Option Addr) (ck cc : Nat) (d : Bool) (w : World) (h8 : rs.length = 8) :
    Calls Tryz.prog 85 #[.agg #[.slice am nm cm, .int .i64 pc, .int .i64 (nth rs 0), .int .i64 (nth rs 1), .int .i64 (nth rs 2), .int .i64 (nth rs 3), .int .i64 (nth rs 4), .int .i64 (nth rs 5), .int .i64 (nth rs 6), .int .i64 (nth rs 7), .int .i64 mo, .int .i64 ba, .slice ca ck cc, .int .i64 op, .int .i64 oh, .int .i64 ot, .bool st, .int .i64 fe, .int .i64 fp, .int .i64 fh, .int .i64 ft, .bool lo], .bool d] w fun e w' => ∃ g cap, e = .returned (.agg #[.int .i64 pc, .slice (some ⟨g, 0, none⟩) 8 cap, .bool d]) ∧ Sl w' (.slice (some ⟨g, 0, none⟩) 8 cap) rs ∧ w.heap.size ≤ g ∧ Below w.heap.size w w' := by
  have H8 : Hid (rs.length = 8) := h8
  clear h8
  go_enter Tryz.func85, Tryz.ntmps85
  go_upto_region 1 with fail
  have X0 := (Box.newAt (w := w) (n := w.heap.size) rfl 135 #[.slice am nm cm, .int .i64 pc, .int .i64 (nth rs 0), .int .i64 (nth rs 1), .int .i64 (nth rs 2), .int .i64 (nth rs 3), .int .i64 (nth rs 4), .int .i64 (nth rs 5), .int .i64 (nth rs 6), .int .i64 (nth rs 7), .int .i64 mo, .int .i64 ba, .slice ca ck cc, .int .i64 op, .int .i64 oh, .int .i64 ot, .bool st, .int .i64 fe, .int .i64 fp, .int .i64 fh, .int .i64 ft, .bool lo]).past (.cells #[.int .i64 0, .slice none 0 0, .bool false] 26)
  have W2 : Hid (((w.alloc (.cells #[.slice am nm cm, .int .i64 pc, .int .i64 (nth rs 0), .int .i64 (nth rs 1), .int .i64 (nth rs 2), .int .i64 (nth rs 3), .int .i64 (nth rs 4), .int .i64 (nth rs 5), .int .i64 (nth rs 6), .int .i64 (nth rs 7), .int .i64 mo, .int .i64 ba, .slice ca ck cc, .int .i64 op, .int .i64 oh, .int .i64 ot, .bool st, .int .i64 fe, .int .i64 fp, .int .i64 fh, .int .i64 ft, .bool lo] 135)).alloc (.cells #[.int .i64 0, .slice none 0 0, .bool false] 26)).heap.size = w.heap.size + 1 + 1) := by show _ = _; simp
  have X1 := Box.newAt (w := w.alloc (.cells #[.slice am nm cm, .int .i64 pc, .int .i64 (nth rs 0), .int .i64 (nth rs 1), .int .i64 (nth rs 2), .int .i64 (nth rs 3), .int .i64 (nth rs 4), .int .i64 (nth rs 5), .int .i64 (nth rs 6), .int .i64 (nth rs 7), .int .i64 mo, .int .i64 ba, .slice ca ck cc, .int .i64 op, .int .i64 oh, .int .i64 ot, .bool st, .int .i64 fe, .int .i64 fp, .int .i64 fh, .int .i64 ft, .bool lo] 135)) (n := w.heap.size + 1) (by simp) 26 #[.int .i64 0, .slice none 0 0, .bool false]
  have B0 : Hid (Below w.heap.size w _) := bel_alloc (bel_alloc (Below.refl w.heap.size w) (.cells #[.slice am nm cm, .int .i64 pc, .int .i64 (nth rs 0), .int .i64 (nth rs 1), .int .i64 (nth rs 2), .int .i64 (nth rs 3), .int .i64 (nth rs 4), .int .i64 (nth rs 5), .int .i64 (nth rs 6), .int .i64 (nth rs 7), .int .i64 mo, .int .i64 ba, .slice ca ck cc, .int .i64 op, .int .i64 oh, .int .i64 ot, .bool st, .int .i64 fe, .int .i64 fp, .int .i64 fh, .int .i64 ft, .bool lo] 135)) (.cells #[.int .i64 0, .slice none 0 0, .bool false] 26)
  generalize ((w.alloc (.cells #[.slice am nm cm, .int .i64 pc, .int .i64 (nth rs 0), .int .i64 (nth rs 1), .int .i64 (nth rs 2), .int .i64 (nth rs 3), .int .i64 (nth rs 4), .int .i64 (nth rs 5), .int .i64 (nth rs 6), .int .i64 (nth rs 7), .int .i64 mo, .int .i64 ba, .slice ca ck cc, .int .i64 op, .int .i64 oh, .int .i64 ot, .bool st, .int .i64 fe, .int .i64 fp, .int .i64 fh, .int .i64 ft, .bool lo] 135)).alloc (.cells #[.int .i64 0, .slice none 0 0, .bool false] 26)) = W at *
  have HSL : Hid (∀ wz, Below W.heap.size W wz → Sl wz (.slice (some ⟨w.heap.size, 2, none⟩) 8 8) rs) := fun wz hz =>
    ⟨_, 8, by rw [H8.out], by rw [H8.out]; simp [maxLen], .inr ⟨w.heap.size, 2, rfl, Nat.lt_of_lt_of_le X0.lt hz.size, fun i hi => (X0.keep hz).reg (by rw [H8.out] at hi; exact hi)⟩⟩
  refine wp_region_late (by kernel_rfl) 7 (fun w' => Below W.heap.size W w') (Below.drew (Below.refl _ _)) (fun hHeld => ?_)
  refine wpLate_takeL (i := 0) (v := ?_) rfl (by kernel_rfl) (by kernel_rfl) (by kernel_rfl) (by kernel_rfl) (by kernel_rfl) (fun _ _ _ h => h) (Or.inl ⟨by kernel_rfl, ?_⟩) (by assumption) ?_
  rotate_left 1
  focus (intro wz hSz; (try dsimp only at hSz); (obtain ⟨⟨q0, q1, -⟩, -, s0⟩ := (X0.keep hSz).state0); go_simp; (try with_reducible rfl))
  simp only [Act.put, List.setIfInBounds_toArray, List.set_cons_zero, List.set_cons_succ]
  refine wpLate_takeL (i := 1) (v := ?_) rfl (by kernel_rfl) (by kernel_rfl) (by kernel_rfl) (by kernel_rfl) (by kernel_rfl) (fun _ _ _ h => h) (Or.inl ⟨by kernel_rfl, ?_⟩) (by assumption) ?_
  rotate_left 1
  focus (intro wz hSz; (try dsimp only at hSz); (obtain ⟨⟨q0, q1, -⟩, -, s0⟩ := (X0.keep hSz).state0); go_simp; (try with_reducible rfl))
  simp only [Act.put, List.setIfInBounds_toArray, List.set_cons_zero, List.set_cons_succ]
  refine wpLate_takeL (i := 2) (v := ?_) rfl (by kernel_rfl) (by kernel_rfl) (by kernel_rfl) (by kernel_rfl) (by kernel_rfl) (fun _ _ _ h => h) (Or.inl ⟨by kernel_rfl, ?_⟩) (by assumption) ?_
  rotate_left 1
  focus (intro wz hSz; (try dsimp only at hSz); (obtain ⟨⟨q0, q1, -⟩, -, s0⟩ := (X0.keep hSz).state0); go_simp; (try with_reducible rfl))
  simp only [Act.put, List.setIfInBounds_toArray, List.set_cons_zero, List.set_cons_succ]
  refine wpLate_takeL (i := 3) (v := ?_) rfl (by kernel_rfl) (by kernel_rfl) (by kernel_rfl) (by kernel_rfl) (by kernel_rfl) (fun _ _ _ h => h) (Or.inl ⟨by kernel_rfl, ?_⟩) (by assumption) ?_
  rotate_left 1
  focus (intro wz hSz; (try dsimp only at hSz); (obtain ⟨⟨q0, q1, -⟩, -, s0⟩ := (X0.keep hSz).state0); go_simp; (try with_reducible rfl))
  simp only [Act.put, List.setIfInBounds_toArray, List.set_cons_zero, List.set_cons_succ]
  refine wpLate_takeL (i := 5) (v := ?_) rfl (by kernel_rfl) (by kernel_rfl) (by kernel_rfl) (by kernel_rfl) (by kernel_rfl) (fun _ _ _ h => h) (Or.inl ⟨by kernel_rfl, ?_⟩) (by assumption) ?_
  rotate_left 1
  focus (intro wz hSz; (try dsimp only at hSz); (obtain ⟨⟨q0, q1, -⟩, -, s0⟩ := (X0.keep hSz).state0); go_simp; (try with_reducible rfl))
  simp only [Act.put, List.setIfInBounds_toArray, List.set_cons_zero, List.set_cons_succ]
  refine wpLate_oneL (i := 4) (by kernel_rfl) (by rfl) (fun K hK => ?_)
  go_simp
  refine (clone8 _ _ _ rs _ (HSL.out _ hHeld) H8.out).mono ?_
  rintro e w5 ⟨g, cap, rfl, hO, b5⟩
  have HO : Hid (OwnI w5 W.drew.heap.size (.slice (some ⟨g, 0, none⟩) 8 cap) rs) := hO
  clear hO
  go_wp2_with fail
  refine hK.out _ _ (fun _ => bel_trans hHeld b5) ?_
  clear hK K
  have hHeld5 : Below W.heap.size W w5 := bel_trans hHeld b5
  refine wpLate_takeL (i := 6) (v := ?_) rfl (by kernel_rfl) (by kernel_rfl) (by kernel_rfl) (by kernel_rfl) (by kernel_rfl) (fun _ _ _ h => h) (Or.inl ⟨by kernel_rfl, ?_⟩) (by assumption) ?_
  rotate_left 1
  focus (intro wz hSz; (try dsimp only at hSz);  go_simp; (try with_reducible rfl))
  simp only [Act.put, List.setIfInBounds_toArray, List.set_cons_zero, List.set_cons_succ]
  have X1 := X1.keep hHeld5
  obtain ⟨a0, a1, a2, f0, f1, f2, s1⟩ := X1.three
  refine wpLate_oneL (i := 7) (by kernel_rfl) (by rfl) (fun K hK => ?_)
  go_simp
  refine hK.out _ _ (fun h => absurd h (by decide)) ?_
  clear hK K
  refine wpLate_done (by kernel_rfl) ?_ _
  have hg : W.heap.size ≤ g := OwnI.base HO.out g rfl
  have hW := X0.lt
  have B5 : Hid (Below w.heap.size w w5) := bel_trans B0.out hHeld5
  have hb5 := b5.size
  have hw2 : w.heap.size + 1 < W.heap.size := by have := W2.out; omega
  clear hHeld hHeld5 b5
  go_wp2_with fail
  refine bodyPost_ret (v := .agg #[.int .i64 pc, .slice (some ⟨g, 0, none⟩) 8 cap, .bool d]) (by simp [results, Tryz.results85, go_sem, *]) rfl ⟨g, cap, rfl, ?_, ?_, ?_⟩
  · refine Sl.setOther (Sl.setOther (Sl.setOther (OwnI.sl HO.out (by rw [H8.out]; simp [maxLen])) ?_ _) ?_ _) ?_ _ <;> (simp [Value.ownBlock]; omega)
  · omega
  · exact bel_set3 (by omega) B5.out _ _ _
end Go.Proofs.YtlgjllmecjkbjacGreat
