/-
  Laid together: MHap1, CopyN, Word1, Word2, Word3, Word4, Worded, ObeyB.
-/
import Derived.Test.YtlgjllmecjkbjacGreatT17
/-
  Package machine: happen, by kind: what it answers; nothing that was there turns.
-/
namespace Go.Proofs.YtlgjllmecjkbjacGreat
open Go.RowKit
set_option maxRecDepth 10000 in
set_option maxHeartbeats 8000000 in
theorem mHap_step (v : Value) (zs : List Int) (p : Int) (u : Value) (r : List Int) (d : Bool) (mo ba op oh ot fe fp fh ft : Int) (st lo : Bool) (vc : Value) (l : List Ln) (kd num dv a ct : Int) (wr : Bool) (y : Value) (ds : List Int) (bad : Nat → Prop) (w : World) (hs : Sl w v zs) (hr : Sl w u r) (h : Ls w vc l) (hd : Sl w y ds) (hE : chkM ⟨zs, ⟨p, r, d⟩, ⟨mo, ba, l, op, oh, ot, st, fe, fp, fh, ft, lo⟩⟩ = 0) (hN : ∀ q, bad q → q < w.heap.size) (f1 : Off bad v) (f2 : Off bad u) (f3 : Off bad vc) (hk : kd = 1) :
    Calls Tryz.prog 31 #[.agg #[v, .int .i64 p, u, .bool d, .int .i64 mo, .int .i64 ba, vc, .int .i64 op, .int .i64 oh, .int .i64 ot, .bool st, .int .i64 fe, .int .i64 fp, .int .i64 fh, .int .i64 ft, .bool lo], .agg #[.int .i64 kd, .int .i64 num, .int .i64 dv, .int .i64 a, .int .i64 ct, .bool wr, y]] w fun e w' => HapC bad ⟨zs, ⟨p, r, d⟩, ⟨mo, ba, l, op, oh, ot, st, fe, fp, fh, ft, lo⟩⟩ ⟨kd, num, dv, a, ct, wr, ds⟩ e w' ∧ Below w.heap.size w w' := by
  subst hk
  have HM : Hid (Sl w v zs) := hs
  have HR : Hid (Sl w u r) := hr
  have HL : Hid (Ls w vc l) := h
  have HD : Hid (Sl w y ds) := hd
  have HE : Hid (chkM _ = 0) := hE
  have HN : Hid (∀ q, bad q → q < w.heap.size) := hN
  have F1 : Hid (Off bad v) := f1
  have F2 : Hid (Off bad u) := f2
  have F3 : Hid (Off bad vc) := f3
  obtain ⟨ma, mn, mc, rfl⟩ : ∃ a k c, v = .slice a k c := let ⟨a, c, e, _⟩ := hs; ⟨a, _, c, e⟩
  obtain ⟨ra, rn, rc, rfl⟩ : ∃ a k c, u = .slice a k c := let ⟨a, c, e, _⟩ := hr; ⟨a, _, c, e⟩
  obtain ⟨va, vn, vk, rfl⟩ : ∃ a k c, vc = .slice a k c := let ⟨a, c, e, _⟩ := h; ⟨a, _, c, e⟩
  obtain ⟨da, dn, dc, rfl⟩ : ∃ a k c, y = .slice a k c := let ⟨a, c, e, _⟩ := hd; ⟨a, _, c, e⟩
  clear hs hr h hd hE hN f1 f2 f3
  have X0 := ((((Box.newAt (w := w) (n := w.heap.size) rfl 33 #[.slice ma mn mc, .int .i64 p, .slice ra rn rc, .bool d, .int .i64 mo, .int .i64 ba, .slice va vn vk, .int .i64 op, .int .i64 oh, .int .i64 ot, .bool st, .int .i64 fe, .int .i64 fp, .int .i64 fh, .int .i64 ft, .bool lo]).past (.cells #[.int .i64 1, .int .i64 num, .int .i64 dv, .int .i64 a, .int .i64 ct, .bool wr, .slice da dn dc] 37)).past (.cells #[.slice none 0 0, .int .i64 0, .slice none 0 0, .bool false, .int .i64 0, .int .i64 0, .slice none 0 0, .int .i64 0, .int .i64 0, .int .i64 0, .bool false, .int .i64 0, .int .i64 0, .int .i64 0, .int .i64 0, .bool false] 33)).past (.cells #[.bool false, .slice none 0 0, .int .i64 0, .slice none 0 0] 40)).past (.cells #[.bool false, .slice none 0 0, .int .i64 0, .slice none 0 0] 40)
  have X1 := (((Box.newAt (w := (w.alloc (.cells #[.slice ma mn mc, .int .i64 p, .slice ra rn rc, .bool d, .int .i64 mo, .int .i64 ba, .slice va vn vk, .int .i64 op, .int .i64 oh, .int .i64 ot, .bool st, .int .i64 fe, .int .i64 fp, .int .i64 fh, .int .i64 ft, .bool lo] 33))) (n := w.heap.size + 1) (by simp) 37 #[.int .i64 1, .int .i64 num, .int .i64 dv, .int .i64 a, .int .i64 ct, .bool wr, .slice da dn dc]).past (.cells #[.slice none 0 0, .int .i64 0, .slice none 0 0, .bool false, .int .i64 0, .int .i64 0, .slice none 0 0, .int .i64 0, .int .i64 0, .int .i64 0, .bool false, .int .i64 0, .int .i64 0, .int .i64 0, .int .i64 0, .bool false] 33)).past (.cells #[.bool false, .slice none 0 0, .int .i64 0, .slice none 0 0] 40)).past (.cells #[.bool false, .slice none 0 0, .int .i64 0, .slice none 0 0] 40)
  have X2 := ((Box.newAt (w := ((w.alloc (.cells #[.slice ma mn mc, .int .i64 p, .slice ra rn rc, .bool d, .int .i64 mo, .int .i64 ba, .slice va vn vk, .int .i64 op, .int .i64 oh, .int .i64 ot, .bool st, .int .i64 fe, .int .i64 fp, .int .i64 fh, .int .i64 ft, .bool lo] 33)).alloc (.cells #[.int .i64 1, .int .i64 num, .int .i64 dv, .int .i64 a, .int .i64 ct, .bool wr, .slice da dn dc] 37))) (n := w.heap.size + 1 + 1) (by simp) 33 #[.slice none 0 0, .int .i64 0, .slice none 0 0, .bool false, .int .i64 0, .int .i64 0, .slice none 0 0, .int .i64 0, .int .i64 0, .int .i64 0, .bool false, .int .i64 0, .int .i64 0, .int .i64 0, .int .i64 0, .bool false]).past (.cells #[.bool false, .slice none 0 0, .int .i64 0, .slice none 0 0] 40)).past (.cells #[.bool false, .slice none 0 0, .int .i64 0, .slice none 0 0] 40)
  have X3 := (Box.newAt (w := (((w.alloc (.cells #[.slice ma mn mc, .int .i64 p, .slice ra rn rc, .bool d, .int .i64 mo, .int .i64 ba, .slice va vn vk, .int .i64 op, .int .i64 oh, .int .i64 ot, .bool st, .int .i64 fe, .int .i64 fp, .int .i64 fh, .int .i64 ft, .bool lo] 33)).alloc (.cells #[.int .i64 1, .int .i64 num, .int .i64 dv, .int .i64 a, .int .i64 ct, .bool wr, .slice da dn dc] 37)).alloc (.cells #[.slice none 0 0, .int .i64 0, .slice none 0 0, .bool false, .int .i64 0, .int .i64 0, .slice none 0 0, .int .i64 0, .int .i64 0, .int .i64 0, .bool false, .int .i64 0, .int .i64 0, .int .i64 0, .int .i64 0, .bool false] 33))) (n := w.heap.size + 1 + 1 + 1) (by simp) 40 #[.bool false, .slice none 0 0, .int .i64 0, .slice none 0 0]).past (.cells #[.bool false, .slice none 0 0, .int .i64 0, .slice none 0 0] 40)
  have X4 := Box.newAt (w := ((((w.alloc (.cells #[.slice ma mn mc, .int .i64 p, .slice ra rn rc, .bool d, .int .i64 mo, .int .i64 ba, .slice va vn vk, .int .i64 op, .int .i64 oh, .int .i64 ot, .bool st, .int .i64 fe, .int .i64 fp, .int .i64 fh, .int .i64 ft, .bool lo] 33)).alloc (.cells #[.int .i64 1, .int .i64 num, .int .i64 dv, .int .i64 a, .int .i64 ct, .bool wr, .slice da dn dc] 37)).alloc (.cells #[.slice none 0 0, .int .i64 0, .slice none 0 0, .bool false, .int .i64 0, .int .i64 0, .slice none 0 0, .int .i64 0, .int .i64 0, .int .i64 0, .bool false, .int .i64 0, .int .i64 0, .int .i64 0, .int .i64 0, .bool false] 33)).alloc (.cells #[.bool false, .slice none 0 0, .int .i64 0, .slice none 0 0] 40))) (n := w.heap.size + 1 + 1 + 1 + 1) (by simp) 40 #[.bool false, .slice none 0 0, .int .i64 0, .slice none 0 0]
  have BW : Hid (Below w.heap.size w (((((w.alloc (.cells #[.slice ma mn mc, .int .i64 p, .slice ra rn rc, .bool d, .int .i64 mo, .int .i64 ba, .slice va vn vk, .int .i64 op, .int .i64 oh, .int .i64 ot, .bool st, .int .i64 fe, .int .i64 fp, .int .i64 fh, .int .i64 ft, .bool lo] 33)).alloc (.cells #[.int .i64 1, .int .i64 num, .int .i64 dv, .int .i64 a, .int .i64 ct, .bool wr, .slice da dn dc] 37)).alloc (.cells #[.slice none 0 0, .int .i64 0, .slice none 0 0, .bool false, .int .i64 0, .int .i64 0, .slice none 0 0, .int .i64 0, .int .i64 0, .int .i64 0, .bool false, .int .i64 0, .int .i64 0, .int .i64 0, .int .i64 0, .bool false] 33)).alloc (.cells #[.bool false, .slice none 0 0, .int .i64 0, .slice none 0 0] 40)).alloc (.cells #[.bool false, .slice none 0 0, .int .i64 0, .slice none 0 0] 40))) := bel_alloc (bel_alloc (bel_alloc (bel_alloc (bel_alloc (Below.refl w.heap.size w) _) _) _) _) _
  have hsz : (((((w.alloc (.cells #[.slice ma mn mc, .int .i64 p, .slice ra rn rc, .bool d, .int .i64 mo, .int .i64 ba, .slice va vn vk, .int .i64 op, .int .i64 oh, .int .i64 ot, .bool st, .int .i64 fe, .int .i64 fp, .int .i64 fh, .int .i64 ft, .bool lo] 33)).alloc (.cells #[.int .i64 1, .int .i64 num, .int .i64 dv, .int .i64 a, .int .i64 ct, .bool wr, .slice da dn dc] 37)).alloc (.cells #[.slice none 0 0, .int .i64 0, .slice none 0 0, .bool false, .int .i64 0, .int .i64 0, .slice none 0 0, .int .i64 0, .int .i64 0, .int .i64 0, .bool false, .int .i64 0, .int .i64 0, .int .i64 0, .int .i64 0, .bool false] 33)).alloc (.cells #[.bool false, .slice none 0 0, .int .i64 0, .slice none 0 0] 40)).alloc (.cells #[.bool false, .slice none 0 0, .int .i64 0, .slice none 0 0] 40)).heap.size = w.heap.size + 1 + 1 + 1 + 1 + 1 := by simp
  go_enter Tryz.func31, Tryz.ntmps31
  go_upto_region 2 with fail
  generalize (((((w.alloc (.cells #[.slice ma mn mc, .int .i64 p, .slice ra rn rc, .bool d, .int .i64 mo, .int .i64 ba, .slice va vn vk, .int .i64 op, .int .i64 oh, .int .i64 ot, .bool st, .int .i64 fe, .int .i64 fp, .int .i64 fh, .int .i64 ft, .bool lo] 33)).alloc (.cells #[.int .i64 1, .int .i64 num, .int .i64 dv, .int .i64 a, .int .i64 ct, .bool wr, .slice da dn dc] 37)).alloc (.cells #[.slice none 0 0, .int .i64 0, .slice none 0 0, .bool false, .int .i64 0, .int .i64 0, .slice none 0 0, .int .i64 0, .int .i64 0, .int .i64 0, .bool false, .int .i64 0, .int .i64 0, .int .i64 0, .int .i64 0, .bool false] 33)).alloc (.cells #[.bool false, .slice none 0 0, .int .i64 0, .slice none 0 0] 40)).alloc (.cells #[.bool false, .slice none 0 0, .int .i64 0, .slice none 0 0] 40)) = W at *
  have HSZ : Hid (W.heap.size = w.heap.size + 1 + 1 + 1 + 1 + 1) := hsz
  clear hsz
  obtain ⟨⟨k0, k1, k2, k3, k4, k5, k6⟩, sH⟩ := X1.seven
  have HST : Hid (hpE ⟨zs, ⟨p, r, d⟩, ⟨mo, ba, l, op, oh, ot, st, fe, fp, fh, ft, lo⟩⟩ ⟨1, num, dv, a, ct, wr, ds⟩ = stE zs ⟨p, r, d⟩ ⟨mo, ba, l, op, oh, ot, st, fe, fp, fh, ft, lo⟩) := by
    obtain ⟨q1, q2, q3⟩ := chkM_ok HE.out
    show _ = _
    rw [stE_mk q1 q2 q3, hpE, if_pos HE.out]
    rfl
  obtain ⟨⟨i0, i1, i2, i3⟩, ⟨j0, j1, j2, j3, j4, j5, j6, j7, j8, j9, j10, j11⟩, s0⟩ := X0.sixteen
  go_wp2_with fail
  refine (step_any _ zs p _ r d mo ba op oh ot fe fp fh ft st lo _ l _ (HM.out.keep BW.out) (HR.out.keep BW.out) (HL.out.keep BW.out)).mono ?_
  rintro e w1 ⟨v1, zs1, p1, u1, r1, d1, mo1, ba1, op1, oh1, ot1, fe1, fp1, fh1, ft1, st1, lo1, vc1, l1, rfl, h1, h2, h3, hF1, hF2, hF3, hG, b1⟩
  clear i0 i1 i2 i3 j0 j1 j2 j3 j4 j5 j6 j7 j8 j9 j10 j11 s0
  clear k0 k1 k2 k3 k4 k5 k6 sH
  obtain ⟨z, hz⟩ : ∃ z, stE zs ⟨p, r, d⟩ ⟨mo, ba, l, op, oh, ot, st, fe, fp, fh, ft, lo⟩ = z := ⟨_, rfl⟩
  have HZ : Hid (hpE ⟨zs, ⟨p, r, d⟩, ⟨mo, ba, l, op, oh, ot, st, fe, fp, fh, ft, lo⟩⟩ ⟨1, num, dv, a, ct, wr, ds⟩ = z) := HST.out.trans hz
  have HG : Hid (z = 0 → hpR ⟨zs, ⟨p, r, d⟩, ⟨mo, ba, l, op, oh, ot, st, fe, fp, fh, ft, lo⟩⟩ ⟨1, num, dv, a, ct, wr, ds⟩ = (⟨zs1, ⟨p1, r1, d1⟩, ⟨mo1, ba1, l1, op1, oh1, ot1, st1, fe1, fp1, fh1, ft1, lo1⟩⟩, ⟨false, [], 0, []⟩)) := fun h0 => by
    rw [hpR, if_pos (HZ.out.trans h0), hpG]
    dsimp only
    rw [if_pos rfl]
    rw [stR, if_pos (hz.trans h0)] at hG
    rw [hG]
    rfl
  rw [hz]
  clear hz hG HST
  obtain ⟨a1, n1, c1, rfl⟩ : ∃ a k c, v1 = .slice a k c := let ⟨a, c, e, _⟩ := h1; ⟨a, _, c, e⟩
  obtain ⟨a2, n2, c2, rfl⟩ : ∃ a k c, u1 = .slice a k c := let ⟨a, c, e, _⟩ := h2; ⟨a, _, c, e⟩
  obtain ⟨a3, n3, c3, rfl⟩ : ∃ a k c, vc1 = .slice a k c := let ⟨a, c, e, _⟩ := h3; ⟨a, _, c, e⟩
  have hFS1 : Fresh (w.heap.size + 1 + 1 + 1 + 1 + 1) (.slice a1 n1 c1) := by rw [← HSZ.out]; exact hF1
  have hFS2 : Fresh (w.heap.size + 1 + 1 + 1 + 1 + 1) (.slice a2 n2 c2) := by rw [← HSZ.out]; exact hF2
  have hFS3 : Fresh (w.heap.size + 1 + 1 + 1 + 1 + 1) (.slice a3 n3 c3) := by rw [← HSZ.out]; exact hF3
  have hWz := HSZ.out
  have hW1 : W.heap.size ≤ w1.heap.size := b1.size
  have X0 := X0.keep b1
  have X2 := X2.keep b1
  have X3 := X3.keep b1
  have X4 := X4.keep b1
  have B1 : Hid (Below w.heap.size w w1) := bel_trans BW.out b1
  have K2 : KeptB (fun q => q = w.heap.size) w1 ((((((((((((((((w1.setCell ⟨w.heap.size, 0, none⟩ (.slice a1 n1 c1)).setCell ⟨w.heap.size, 1, none⟩ (.int .i64 p1)).setCell ⟨w.heap.size, 2, none⟩ (.slice a2 n2 c2)).setCell ⟨w.heap.size, 3, none⟩ (.bool d1)).setCell ⟨w.heap.size, 4, none⟩ (.int .i64 mo1)).setCell ⟨w.heap.size, 5, none⟩ (.int .i64 ba1)).setCell ⟨w.heap.size, 6, none⟩ (.slice a3 n3 c3)).setCell ⟨w.heap.size, 7, none⟩ (.int .i64 op1)).setCell ⟨w.heap.size, 8, none⟩ (.int .i64 oh1)).setCell ⟨w.heap.size, 9, none⟩ (.int .i64 ot1)).setCell ⟨w.heap.size, 10, none⟩ (.bool st1)).setCell ⟨w.heap.size, 11, none⟩ (.int .i64 fe1)).setCell ⟨w.heap.size, 12, none⟩ (.int .i64 fp1)).setCell ⟨w.heap.size, 13, none⟩ (.int .i64 fh1)).setCell ⟨w.heap.size, 14, none⟩ (.int .i64 ft1)).setCell ⟨w.heap.size, 15, none⟩ (.bool lo1)) := by
    (repeat (first | with_reducible exact KeptB.refl _ _ | with_reducible refine KeptB.drew ?_ | with_reducible refine KeptB.alloc ?_ _ | (with_reducible refine KeptB.setCell ?_ ?_ _; rotate_left; (focus (dsimp only; omega)))))
  have B2 : Hid (Below w.heap.size w ((((((((((((((((w1.setCell ⟨w.heap.size, 0, none⟩ (.slice a1 n1 c1)).setCell ⟨w.heap.size, 1, none⟩ (.int .i64 p1)).setCell ⟨w.heap.size, 2, none⟩ (.slice a2 n2 c2)).setCell ⟨w.heap.size, 3, none⟩ (.bool d1)).setCell ⟨w.heap.size, 4, none⟩ (.int .i64 mo1)).setCell ⟨w.heap.size, 5, none⟩ (.int .i64 ba1)).setCell ⟨w.heap.size, 6, none⟩ (.slice a3 n3 c3)).setCell ⟨w.heap.size, 7, none⟩ (.int .i64 op1)).setCell ⟨w.heap.size, 8, none⟩ (.int .i64 oh1)).setCell ⟨w.heap.size, 9, none⟩ (.int .i64 ot1)).setCell ⟨w.heap.size, 10, none⟩ (.bool st1)).setCell ⟨w.heap.size, 11, none⟩ (.int .i64 fe1)).setCell ⟨w.heap.size, 12, none⟩ (.int .i64 fp1)).setCell ⟨w.heap.size, 13, none⟩ (.int .i64 fh1)).setCell ⟨w.heap.size, 14, none⟩ (.int .i64 ft1)).setCell ⟨w.heap.size, 15, none⟩ (.bool lo1))) := bel_set16 (Nat.le_refl _) B1.out _ _ _ _ _ _ _ _ _ _ _ _ _ _ _ _
  have PH : Hid (∀ w', KeptB (fun q => q = w.heap.size + 1 + 1 ∨ q = w.heap.size + 1 + 1 + 1) ((((((((((((((((w1.setCell ⟨w.heap.size, 0, none⟩ (.slice a1 n1 c1)).setCell ⟨w.heap.size, 1, none⟩ (.int .i64 p1)).setCell ⟨w.heap.size, 2, none⟩ (.slice a2 n2 c2)).setCell ⟨w.heap.size, 3, none⟩ (.bool d1)).setCell ⟨w.heap.size, 4, none⟩ (.int .i64 mo1)).setCell ⟨w.heap.size, 5, none⟩ (.int .i64 ba1)).setCell ⟨w.heap.size, 6, none⟩ (.slice a3 n3 c3)).setCell ⟨w.heap.size, 7, none⟩ (.int .i64 op1)).setCell ⟨w.heap.size, 8, none⟩ (.int .i64 oh1)).setCell ⟨w.heap.size, 9, none⟩ (.int .i64 ot1)).setCell ⟨w.heap.size, 10, none⟩ (.bool st1)).setCell ⟨w.heap.size, 11, none⟩ (.int .i64 fe1)).setCell ⟨w.heap.size, 12, none⟩ (.int .i64 fp1)).setCell ⟨w.heap.size, 13, none⟩ (.int .i64 fh1)).setCell ⟨w.heap.size, 14, none⟩ (.int .i64 ft1)).setCell ⟨w.heap.size, 15, none⟩ (.bool lo1)) w' → Below w.heap.size w w' → hpE ⟨zs, ⟨p, r, d⟩, ⟨mo, ba, l, op, oh, ot, st, fe, fp, fh, ft, lo⟩⟩ ⟨1, num, dv, a, ct, wr, ds⟩ = 0 → HapG bad ⟨zs, ⟨p, r, d⟩, ⟨mo, ba, l, op, oh, ot, st, fe, fp, fh, ft, lo⟩⟩ ⟨1, num, dv, a, ct, wr, ds⟩ w' (.slice a1 n1 c1) p1 (.slice a2 n2 c2) d1 mo1 ba1 op1 oh1 ot1 fe1 fp1 fh1 ft1 st1 lo1 (.slice a3 n3 c3) false (.slice none 0 0) 0 (.slice none 0 0)) := fun w' hk hb h0 =>
    ⟨zs1, r1, l1, [], [], HG.out (HZ.out.symm.trans h0), (h1.kept K2 (fun q hq => by have := hFS1 q hq; omega)).kept hk (fun q hq => by have := hFS1 q hq; omega), (h2.kept K2 (fun q hq => by have := hFS2 q hq; omega)).kept hk (fun q hq => by have := hFS2 q hq; omega), (h3.kept K2 (fun q hq => by have := hFS3 q hq; omega)).kept hk (fun q hq => by have := hFS3 q hq; omega), Sl.nil _ none 0, Ts.nothing _, hFS1.off (fun q hb => by have := HN.out q hb; omega), hFS2.off (fun q hb => by have := HN.out q hb; omega), hFS3.off (fun q hb => by have := HN.out q hb; omega), Off.none _ 0 0, Off.none _ 0 0⟩
  have Y0 : Box ((((((((((((((((w1.setCell ⟨w.heap.size, 0, none⟩ (.slice a1 n1 c1)).setCell ⟨w.heap.size, 1, none⟩ (.int .i64 p1)).setCell ⟨w.heap.size, 2, none⟩ (.slice a2 n2 c2)).setCell ⟨w.heap.size, 3, none⟩ (.bool d1)).setCell ⟨w.heap.size, 4, none⟩ (.int .i64 mo1)).setCell ⟨w.heap.size, 5, none⟩ (.int .i64 ba1)).setCell ⟨w.heap.size, 6, none⟩ (.slice a3 n3 c3)).setCell ⟨w.heap.size, 7, none⟩ (.int .i64 op1)).setCell ⟨w.heap.size, 8, none⟩ (.int .i64 oh1)).setCell ⟨w.heap.size, 9, none⟩ (.int .i64 ot1)).setCell ⟨w.heap.size, 10, none⟩ (.bool st1)).setCell ⟨w.heap.size, 11, none⟩ (.int .i64 fe1)).setCell ⟨w.heap.size, 12, none⟩ (.int .i64 fp1)).setCell ⟨w.heap.size, 13, none⟩ (.int .i64 fh1)).setCell ⟨w.heap.size, 14, none⟩ (.int .i64 ft1)).setCell ⟨w.heap.size, 15, none⟩ (.bool lo1)) w.heap.size 33 #[.slice a1 n1 c1, .int .i64 p1, .slice a2 n2 c2, .bool d1, .int .i64 mo1, .int .i64 ba1, .slice a3 n3 c3, .int .i64 op1, .int .i64 oh1, .int .i64 ot1, .bool st1, .int .i64 fe1, .int .i64 fp1, .int .i64 fh1, .int .i64 ft1, .bool lo1] := X0.set16 _ _ _ _ _ _ _ _ _ _ _ _ _ _ _ _
  have Y2 := X2.kept K2 (by omega)
  have Y3 := X3.kept K2 (by omega)
  have Y4 := X4.kept K2 (by omega)
  have mk := X0.marksOf
  obtain ⟨⟨i0, i1, i2, i3⟩, ⟨j0, j1, j2, j3, j4, j5, j6, j7, j8, j9, j10, j11⟩, s0⟩ := X0.sixteen
  clear h1 h2 h3 hF1 hF2 hF3 hFS1 hFS2 hFS3 b1 X0 X1 X2 X3 X4 K2
  go_upto_region 12 with fail
  clear mk
  clear i0 i1 i2 i3 j0 j1 j2 j3 j4 j5 j6 j7 j8 j9 j10 j11 s0
  generalize ((((((((((((((((w1.setCell ⟨w.heap.size, 0, none⟩ (.slice a1 n1 c1)).setCell ⟨w.heap.size, 1, none⟩ (.int .i64 p1)).setCell ⟨w.heap.size, 2, none⟩ (.slice a2 n2 c2)).setCell ⟨w.heap.size, 3, none⟩ (.bool d1)).setCell ⟨w.heap.size, 4, none⟩ (.int .i64 mo1)).setCell ⟨w.heap.size, 5, none⟩ (.int .i64 ba1)).setCell ⟨w.heap.size, 6, none⟩ (.slice a3 n3 c3)).setCell ⟨w.heap.size, 7, none⟩ (.int .i64 op1)).setCell ⟨w.heap.size, 8, none⟩ (.int .i64 oh1)).setCell ⟨w.heap.size, 9, none⟩ (.int .i64 ot1)).setCell ⟨w.heap.size, 10, none⟩ (.bool st1)).setCell ⟨w.heap.size, 11, none⟩ (.int .i64 fe1)).setCell ⟨w.heap.size, 12, none⟩ (.int .i64 fp1)).setCell ⟨w.heap.size, 13, none⟩ (.int .i64 fh1)).setCell ⟨w.heap.size, 14, none⟩ (.int .i64 ft1)).setCell ⟨w.heap.size, 15, none⟩ (.bool lo1)) = w2 at *
  have X0 := Y0
  have X2 := Y2
  have X3 := Y3
  have X4 := Y4
  clear Y0 Y2 Y3 Y4
  obtain ⟨⟨i0, i1, i2, i3⟩, ⟨j0, j1, j2, j3, j4, j5, j6, j7, j8, j9, j10, j11⟩, s0⟩ := X0.sixteen
  obtain ⟨⟨q0, q1, q2, q3⟩, ⟨g0, g1, g2, g3, g4, g5, g6, g7, g8, g9, g10, g11⟩, s2⟩ := X2.sixteen
  have mk := X2.marksOf
  obtain ⟨t0, t1, t2, t3, mf0, mf1, mf2, mf3, s3⟩ := X3.four
  obtain ⟨z0, z1, z2, z3, -, -, -, -, s4⟩ := X4.four
  clear X0 X2 X3 X4
  have n02 : ¬ w.heap.size = w.heap.size + 1 + 1 := by omega
  have n03 : ¬ w.heap.size = w.heap.size + 1 + 1 + 1 := by omega
  have n20 : ¬ w.heap.size + 1 + 1 = w.heap.size := by omega
  have n23 : ¬ w.heap.size + 1 + 1 = w.heap.size + 1 + 1 + 1 := by omega
  have n24 : ¬ w.heap.size + 1 + 1 = w.heap.size + 1 + 1 + 1 + 1 := by omega
  have n30 : ¬ w.heap.size + 1 + 1 + 1 = w.heap.size := by omega
  have n32 : ¬ w.heap.size + 1 + 1 + 1 = w.heap.size + 1 + 1 := by omega
  have n34 : ¬ w.heap.size + 1 + 1 + 1 = w.heap.size + 1 + 1 + 1 + 1 := by omega
  have n42 : ¬ w.heap.size + 1 + 1 + 1 + 1 = w.heap.size + 1 + 1 := by omega
  have n43 : ¬ w.heap.size + 1 + 1 + 1 + 1 = w.heap.size + 1 + 1 + 1 := by omega
  go_region
  all_goals
    go_wp2
    refine bodyPost_ret (v := .tuple #[.agg #[.slice a1 n1 c1, .int .i64 p1, .slice a2 n2 c2, .bool d1, .int .i64 mo1, .int .i64 ba1, .slice a3 n3 c3, .int .i64 op1, .int .i64 oh1, .int .i64 ot1, .bool st1, .int .i64 fe1, .int .i64 fp1, .int .i64 fh1, .int .i64 ft1, .bool lo1], .agg #[.bool false, .slice none 0 0, .int .i64 0, .slice none 0 0], .int .i64 z]) (by simp [results, Tryz.results31, go_sem, *]) rfl ⟨⟨_, _, _, _, _, _, _, _, _, _, _, _, _, _, _, _, _, _, _, _, _, _, _, _, _, _, _, _, _, _, ret_hap HZ.out.symm, fun h0 => PH.out _ ?_ ?_ h0⟩, ?_⟩
    · (repeat (first | with_reducible exact KeptB.refl _ _ | with_reducible refine KeptB.drew ?_ | with_reducible refine KeptB.alloc ?_ _ | (with_reducible refine KeptB.setCell ?_ ?_ _; rotate_left; (focus (dsimp only; omega)))))
    · (repeat (first | with_reducible exact B2.out | with_reducible refine Below.drew ?_ | (with_reducible refine bel_set16 ?_ ?_ _ _ _ _ _ _ _ _ _ _ _ _ _ _ _ _; (focus omega)) | (with_reducible refine bel_set4 ?_ ?_ _ _ _ _; (focus omega)) | (with_reducible refine bel_set ?_ ?_ _; (focus (dsimp only; omega)))))
    · (repeat (first | with_reducible exact B2.out | with_reducible refine Below.drew ?_ | (with_reducible refine bel_set16 ?_ ?_ _ _ _ _ _ _ _ _ _ _ _ _ _ _ _ _; (focus omega)) | (with_reducible refine bel_set4 ?_ ?_ _ _ _ _; (focus omega)) | (with_reducible refine bel_set ?_ ?_ _; (focus (dsimp only; omega)))))
end Go.Proofs.YtlgjllmecjkbjacGreat
/-
  Package bridge: copyOf's lines lie in new memory.
-/
namespace Go.Proofs.YtlgjllmecjkbjacGreat
open Go.RowKit
set_option maxHeartbeats 2000000 in
theorem copyOf_anyN (mo ba op oh ot fe fp fh ft : Int) (st lo : Bool) (vc : Value) (l : List Ln) (w : World) (h : Ls w vc l) (hn : l.length ≤ 6) :
    Calls Tryz.prog 78 #[.agg #[.int .i64 mo, .int .i64 ba, vc, .int .i64 op, .int .i64 oh, .int .i64 ot, .bool st, .int .i64 fe, .int .i64 fp, .int .i64 fh, .int .i64 ft, .bool lo]] w fun e w' => ∃ g, w.heap.size ≤ g ∧ e = .returned (.agg #[.int .i64 mo, .int .i64 ba, .slice (some ⟨g, 0, none⟩) l.length l.length, .int .i64 op, .int .i64 oh, .int .i64 ot, .bool st, .int .i64 fe, .int .i64 fp, .int .i64 fh, .int .i64 ft, .bool lo]) ∧ Ls w' (.slice (some ⟨g, 0, none⟩) l.length l.length) l ∧ Below w.heap.size w w' := by
  have HS : Hid (Ls w vc l) := h
  obtain ⟨va, vk, rfl, -⟩ := h.shape
  clear h
  have HN : Hid (l.length ≤ 6) := hn
  obtain ⟨N, hN⟩ : ∃ N, N = l.length := ⟨_, rfl⟩
  have HE : Hid (N = l.length) := hN
  rw [← hN]
  have hN6 : N ≤ 6 := by omega
  have HV : Hid (Ls w (.slice va N vk) l) := by show Ls _ _ _; rw [hN]; exact HS.out
  clear hN hn
  have hW : Below w.heap.size w ((w.alloc (.cells #[.int .i64 mo, .int .i64 ba, .slice va N vk, .int .i64 op, .int .i64 oh, .int .i64 ot, .bool st, .int .i64 fe, .int .i64 fp, .int .i64 fh, .int .i64 ft, .bool lo] 31)).alloc (.cells #[.int .i64 0, .int .i64 0, .slice none 0 0, .int .i64 0, .int .i64 0, .int .i64 0, .bool false, .int .i64 0, .int .i64 0, .int .i64 0, .int .i64 0, .bool false] 31)) := bel_alloc (bel_alloc (Below.refl _ _) _) _
  obtain ⟨cur, hmk, hcs⟩ := makeLines ((w.alloc (.cells #[.int .i64 mo, .int .i64 ba, .slice va N vk, .int .i64 op, .int .i64 oh, .int .i64 ot, .bool st, .int .i64 fe, .int .i64 fp, .int .i64 fh, .int .i64 ft, .bool lo] 31)).alloc (.cells #[.int .i64 0, .int .i64 0, .slice none 0 0, .int .i64 0, .int .i64 0, .int .i64 0, .bool false, .int .i64 0, .int .i64 0, .int .i64 0, .int .i64 0, .bool false] 31)) N hN6
  have hg0 : (((w.alloc (.cells #[.int .i64 mo, .int .i64 ba, .slice va N vk, .int .i64 op, .int .i64 oh, .int .i64 ot, .bool st, .int .i64 fe, .int .i64 fp, .int .i64 fh, .int .i64 ft, .bool lo] 31)).alloc (.cells #[.int .i64 0, .int .i64 0, .slice none 0 0, .int .i64 0, .int .i64 0, .int .i64 0, .bool false, .int .i64 0, .int .i64 0, .int .i64 0, .int .i64 0, .bool false] 31)).alloc (.cells cur 52)).heap[w.heap.size + 1 + 1]? = some (.cells cur 52 (0, 0)) := heap_at (by simp)
  obtain ⟨w3, hcp, hg3, ho3, hs3, hb3⟩ := copyLines _ 3 (.slice va N vk) (w.heap.size + 1 + 1) l cur hg0 (by rw [hcs, HE.out]) (HV.out.keep (bel_alloc hW _))
  rw [← HE.out] at hcp
  have X0 : Box w3 w.heap.size 31 #[.int .i64 mo, .int .i64 ba, .slice va N vk, .int .i64 op, .int .i64 oh, .int .i64 ot, .bool st, .int .i64 fe, .int .i64 fp, .int .i64 fh, .int .i64 ft, .bool lo] := by
    unfold Box; rw [ho3 _ (by omega)]
    exact ((Box.newAt (n := w.heap.size) rfl 31 _).past _).past _
  have X1 : Box w3 (w.heap.size + 1) 31 #[.int .i64 0, .int .i64 0, .slice none 0 0, .int .i64 0, .int .i64 0, .int .i64 0, .bool false, .int .i64 0, .int .i64 0, .int .i64 0, .int .i64 0, .bool false] := by
    unfold Box; rw [ho3 _ (by omega)]
    exact (Box.newAt (n := w.heap.size + 1) (by simp) 31 _).past _
  have B3 : Hid (Below w.heap.size w w3) := (bel_alloc hW _).trans (hb3.mono (by omega))
  obtain ⟨⟨q0, q1, q2, q3, q4, q5, q6, q7, q8, q9, q10, q11⟩, s0⟩ := X0.twelve
  obtain ⟨-, -, z2, -⟩ := X0.marks
  obtain ⟨⟨u0, u1, u2, u3, u4, u5, u6, u7, u8, u9, u10, u11⟩, s1⟩ := X1.twelve
  obtain ⟨y0, y1, y2, y3, y4, y5, y6, y7, y8, y9, y10, y11⟩ := X1.marks
  have HG : Hid _ := hg3
  clear hg3 ho3 hs3 hb3 hg0 hW hcs
  have n1 : ¬ w.heap.size + 1 + 1 = w.heap.size := by omega
  have n2 : ¬ w.heap.size + 1 + 1 = w.heap.size + 1 := by omega
  go_enter Tryz.func78, Tryz.ntmps78
  go_wp2
  refine bodyPost_ret (v := .agg #[.int .i64 mo, .int .i64 ba, .slice (some ⟨w.heap.size + 1 + 1, 0, none⟩) N N, .int .i64 op, .int .i64 oh, .int .i64 ot, .bool st, .int .i64 fe, .int .i64 fp, .int .i64 fh, .int .i64 ft, .bool lo]) (by simp [results, Tryz.results78, go_sem, *]) rfl ⟨_, by omega, rfl, ?_, ?_⟩
  · rw [HE.out]
    refine ls_block ?_ HN.out
    exact (Box.other (p := ⟨w.heap.size, 2, none⟩) HG.out (by dsimp only; omega) _).other12 (by omega) _ _ _ _ _ _ _ _ _ _ _ _
  · exact bel_set12 (by omega) (bel_set (by dsimp only; omega) B3.out _) _ _ _ _ _ _ _ _ _ _ _ _
end Go.Proofs.YtlgjllmecjkbjacGreat
/-
  Package word: what isWord, isDev, isPage, isOrder answer; none turns memory that was there.
-/
namespace Go.Proofs.YtlgjllmecjkbjacGreat
open Go.RowKit
theorem oIsWord_any (z : Int) (w : World) : Calls Tryz.prog 54 #[.int .i64 z] w fun e w' => e = .returned (.bool (betweenB 0 65535 z)) ∧ w' = w := by
  by_cases h1 : 0 ≤ z
  · by_cases h2 : z ≤ 65535
    · rw [between_yes ⟨h1, h2⟩]
      go_enter Tryz.func54, Tryz.ntmps54
      go_wp2
      go_ret
      exact ⟨rfl, rfl⟩
    · rw [between_no fun h => h2 h.2]
      go_enter Tryz.func54, Tryz.ntmps54
      go_wp2
      go_ret
      exact ⟨rfl, rfl⟩
  · rw [between_no fun h => h1 h.1]
    go_enter Tryz.func54, Tryz.ntmps54
    go_wp2
    go_ret
    exact ⟨rfl, rfl⟩
theorem oIsDev_any (z : Int) (w : World) : Calls Tryz.prog 80 #[.int .i64 z] w fun e w' => e = .returned (.bool (betweenB 0 7 z)) ∧ w' = w := by
  by_cases h1 : 0 ≤ z
  · by_cases h2 : z < 8
    · rw [between_yes ⟨h1, by omega⟩]
      go_enter Tryz.func80, Tryz.ntmps80
      go_wp2
      go_ret
      exact ⟨rfl, rfl⟩
    · rw [between_no fun h => h2 (by omega)]
      go_enter Tryz.func80, Tryz.ntmps80
      go_wp2
      go_ret
      exact ⟨rfl, rfl⟩
  · rw [between_no fun h => h1 h.1]
    go_enter Tryz.func80, Tryz.ntmps80
    go_wp2
    go_ret
    exact ⟨rfl, rfl⟩
theorem oIsPage_any (z : Int) (w : World) : Calls Tryz.prog 81 #[.int .i64 z] w fun e w' => e = .returned (.bool (betweenB 0 63 z)) ∧ w' = w := by
  by_cases h1 : 0 ≤ z
  · by_cases h2 : z < 64
    · rw [between_yes ⟨h1, by omega⟩]
      go_enter Tryz.func81, Tryz.ntmps81
      go_wp2
      go_ret
      exact ⟨rfl, rfl⟩
    · rw [between_no fun h => h2 (by omega)]
      go_enter Tryz.func81, Tryz.ntmps81
      go_wp2
      go_ret
      exact ⟨rfl, rfl⟩
  · rw [between_no fun h => h1 h.1]
    go_enter Tryz.func81, Tryz.ntmps81
    go_wp2
    go_ret
    exact ⟨rfl, rfl⟩
def forO (k d p : Int) : Bool := if k = 3 then true else if k = 2 then decide (p = 0) else decide (d = 0) && decide (p = 0)
theorem isOrder_any (k d p : Int) (w : World) :
    Calls Tryz.prog 146 #[.agg #[.int .i64 k, .int .i64 d, .int .i64 p]] w fun e w' => e = .returned (.bool (forO k d p)) ∧ ∃ o, w' = w.alloc o := by
  by_cases h3 : k = 3
  · subst h3
    go_enter Tryz.func146, Tryz.ntmps146
    go_wp2
    go_ret
    exact ⟨rfl, _, rfl⟩
  have n3 : (k == 3) = false := by simpa using h3
  by_cases h2 : k = 2
  · subst h2
    by_cases hp : p = 0
    · subst hp
      go_enter Tryz.func146, Tryz.ntmps146
      go_wp2
      go_ret
      exact ⟨rfl, _, rfl⟩
    · have np : (p == 0) = false := by simpa using hp
      have HF : Hid (forO 2 d p = false) := by simp [forO, hp, Hid]
      clear hp
      go_enter Tryz.func146, Tryz.ntmps146
      go_wp2
      go_ret
      exact ⟨ret_bool HF.out.symm, _, rfl⟩
  have n2 : (k == 2) = false := by simpa using h2
  by_cases hd : d = 0
  · subst hd
    by_cases hp : p = 0
    · subst hp
      have HF : Hid (forO k 0 0 = true) := by simp [forO, h3, h2, Hid]
      clear h3 h2
      go_enter Tryz.func146, Tryz.ntmps146
      go_wp2
      go_ret
      exact ⟨ret_bool HF.out.symm, _, rfl⟩
    · have np : (p == 0) = false := by simpa using hp
      have HF : Hid (forO k 0 p = false) := by simp [forO, h3, h2, hp, Hid]
      clear h3 h2 hp
      go_enter Tryz.func146, Tryz.ntmps146
      go_wp2
      go_ret
      exact ⟨ret_bool HF.out.symm, _, rfl⟩
  · have nd : (d == 0) = false := by simpa using hd
    have HF : Hid (forO k d p = false) := by simp [forO, h3, h2, hd, Hid]
    clear h3 h2 hd
    go_enter Tryz.func146, Tryz.ntmps146
    go_wp2
    go_ret
    exact ⟨ret_bool HF.out.symm, _, rfl⟩
end Go.Proofs.YtlgjllmecjkbjacGreat
/-
  What PutOrder, PutFault answer, and drawbridgeref's OrderWord, FaultWord: the same; none turns memory that was there.
-/
namespace Go.Proofs.YtlgjllmecjkbjacGreat
open Go.RowKit
theorem forO_ok {k d p : Int} (hk : 0 ≤ k ∧ k ≤ 3) (hd : 0 ≤ d ∧ d ≤ 7) (hp : 0 ≤ p ∧ p ≤ 63) (h : forO k d p = true) : oE k d p = 0 := by
  refine oE_mk hk hd hp ?_ ?_
  · intro ⟨a, b⟩
    have n3 : ¬ k = 3 := by omega
    have n2 : ¬ k = 2 := by omega
    have nd : ¬ d = 0 := by omega
    simp [forO, n3, n2, nd] at h
  · intro ⟨a, b⟩
    have n3 : ¬ k = 3 := by omega
    have np : ¬ p = 0 := by omega
    by_cases n2 : k = 2 <;> simp [forO, n3, n2, np] at h
theorem forO_bad {k d p : Int} (hk : 0 ≤ k ∧ k ≤ 3) (hd : 0 ≤ d ∧ d ≤ 7) (hp : 0 ≤ p ∧ p ≤ 63) (h : forO k d p = false) : oE k d p = 3 := by
  unfold oE
  rw [if_pos ⟨hk, hd, hp⟩, if_pos]
  by_cases n3 : k = 3
  · simp [forO, n3] at h
  by_cases n2 : k = 2
  · by_cases np : p = 0
    · simp [forO, n2, np] at h
    · exact .inr (by omega)
  by_cases nd : d = 0
  · by_cases np : p = 0
    · simp [forO, n2, n3, nd, np] at h
    · exact .inr (by omega)
  · exact .inl (by omega)
theorem oE_out {k d p : Int} (h : ¬ ((0 ≤ k ∧ k ≤ 3) ∧ (0 ≤ d ∧ d ≤ 7) ∧ (0 ≤ p ∧ p ≤ 63))) : oE k d p = 2 := if_neg h
theorem oW_bad {k d p e : Int} (h : oE k d p = e) (hn : ¬ e = 0) : oW k d p = 0 := if_neg (fun x => hn (h.symm.trans x))
theorem fE_out {c d p : Int} (h : ¬ ((1 ≤ c ∧ c ≤ 5) ∧ (0 ≤ d ∧ d ≤ 7) ∧ (0 ≤ p ∧ p ≤ 63))) : fE c d p = 2 := if_neg h
theorem fW_bad {c d p : Int} {x : Bool} (h : fE c d p = 2) : fW c d p x = 0 := if_neg (by rw [h]; decide)
set_option maxHeartbeats 1000000 in
theorem putOrder_any (k d p : Int) (w : World) :
    Calls Tryz.prog 118 #[.agg #[.int .i64 k, .int .i64 d, .int .i64 p]] w fun e w' => e = .returned (.tuple #[.int .i64 (oW k d p), .int .i64 (oE k d p)]) ∧ Below w.heap.size w w' := by
  by_cases k0 : k < 0
  · have he : oE k d p = 2 := oE_out (by omega)
    rw [oW_bad he (by decide), he]
    clear he
    go_enter Tryz.func118, Tryz.ntmps118
    go_wp2
    go_ret2
    exact ⟨rfl, bel_alloc (Below.refl _ _) _⟩
  by_cases k1 : 3 < k
  · have he : oE k d p = 2 := oE_out (by omega)
    rw [oW_bad he (by decide), he]
    clear he
    go_enter Tryz.func118, Tryz.ntmps118
    go_wp2
    go_ret2
    exact ⟨rfl, bel_alloc (Below.refl _ _) _⟩
  cases hd : betweenB 0 7 d
  · have hd' : ¬ (0 ≤ d ∧ d ≤ 7) := of_decide_eq_false hd
    have he : oE k d p = 2 := oE_out (by omega)
    rw [oW_bad he (by decide), he]
    clear he hd'
    go_enter Tryz.func118, Tryz.ntmps118
    go_wp2_with fail
    refine (oIsDev_any _ _).mono ?_
    rintro e w1 ⟨rfl, rfl⟩
    rw [hd]
    go_wp2
    go_ret2
    exact ⟨rfl, bel_alloc (Below.refl _ _) _⟩
  have hd' := of_between hd
  cases hp : betweenB 0 63 p
  · have hp' : ¬ (0 ≤ p ∧ p ≤ 63) := of_decide_eq_false hp
    have he : oE k d p = 2 := oE_out (by omega)
    rw [oW_bad he (by decide), he]
    clear he hd' hp'
    go_enter Tryz.func118, Tryz.ntmps118
    go_wp2_with fail
    refine (oIsDev_any _ _).mono ?_
    rintro e w1 ⟨rfl, rfl⟩
    rw [hd]
    go_wp2_with fail
    refine (oIsPage_any _ _).mono ?_
    rintro e w1 ⟨rfl, rfl⟩
    rw [hp]
    go_wp2
    go_ret2
    exact ⟨rfl, bel_alloc (Below.refl _ _) _⟩
  have hp' := of_between hp
  cases hf : forO k d p
  · have he : oE k d p = 3 := forO_bad (by omega) hd' hp' hf
    rw [oW_bad he (by decide), he]
    clear he hd' hp'
    go_enter Tryz.func118, Tryz.ntmps118
    go_wp2_with fail
    refine (oIsDev_any _ _).mono ?_
    rintro e w1 ⟨rfl, rfl⟩
    rw [hd]
    go_wp2_with fail
    refine (oIsPage_any _ _).mono ?_
    rintro e w1 ⟨rfl, rfl⟩
    rw [hp]
    go_wp2_with fail
    refine (isOrder_any _ _ _ _).mono ?_
    rintro e w1 ⟨rfl, o1, rfl⟩
    rw [hf]
    go_wp2
    go_ret2
    exact ⟨rfl, bel_alloc (bel_alloc (Below.refl _ _) _) _⟩
  · have he : oE k d p = 0 := forO_ok (by omega) hd' hp' hf
    rw [oW_ok he, he]
    clear he
    obtain ⟨d0, d1⟩ := hd'
    obtain ⟨p0, p1⟩ := hp'
    go_enter Tryz.func118, Tryz.ntmps118
    go_wp2_with fail
    refine (oIsDev_any _ _).mono ?_
    rintro e w1 ⟨rfl, rfl⟩
    rw [hd]
    go_wp2_with fail
    refine (oIsPage_any _ _).mono ?_
    rintro e w1 ⟨rfl, rfl⟩
    rw [hp]
    go_wp2_with fail
    refine (isOrder_any _ _ _ _).mono ?_
    rintro e w1 ⟨rfl, o1, rfl⟩
    rw [hf]
    go_wp2
    go_ret2
    exact ⟨rfl, bel_alloc (bel_alloc (Below.refl _ _) _) _⟩
set_option maxHeartbeats 1000000 in
theorem putFault_any (c d p : Int) (x : Bool) (w : World) :
    Calls Tryz.prog 55 #[.agg #[.int .i64 c, .int .i64 d, .int .i64 p, .bool x]] w fun e w' => e = .returned (.tuple #[.int .i64 (fW c d p x), .int .i64 (fE c d p)]) ∧ Below w.heap.size w w' := by
  by_cases k0 : c < 1
  · have he : fE c d p = 2 := fE_out (by omega)
    rw [fW_bad he, he]
    clear he
    go_enter Tryz.func55, Tryz.ntmps55
    go_wp2
    go_ret2
    exact ⟨rfl, bel_alloc (Below.refl _ _) _⟩
  by_cases k1 : 5 < c
  · have he : fE c d p = 2 := fE_out (by omega)
    rw [fW_bad he, he]
    clear he
    go_enter Tryz.func55, Tryz.ntmps55
    go_wp2
    go_ret2
    exact ⟨rfl, bel_alloc (Below.refl _ _) _⟩
  cases hd : betweenB 0 7 d
  · have hd' : ¬ (0 ≤ d ∧ d ≤ 7) := of_decide_eq_false hd
    have he : fE c d p = 2 := fE_out (by omega)
    rw [fW_bad he, he]
    clear he hd'
    go_enter Tryz.func55, Tryz.ntmps55
    go_wp2_with fail
    refine (oIsDev_any _ _).mono ?_
    rintro e w1 ⟨rfl, rfl⟩
    rw [hd]
    go_wp2
    go_ret2
    exact ⟨rfl, bel_alloc (Below.refl _ _) _⟩
  have hd' := of_between hd
  cases hp : betweenB 0 63 p
  · have hp' : ¬ (0 ≤ p ∧ p ≤ 63) := of_decide_eq_false hp
    have he : fE c d p = 2 := fE_out (by omega)
    rw [fW_bad he, he]
    clear he hd' hp'
    go_enter Tryz.func55, Tryz.ntmps55
    go_wp2_with fail
    refine (oIsDev_any _ _).mono ?_
    rintro e w1 ⟨rfl, rfl⟩
    rw [hd]
    go_wp2_with fail
    refine (oIsPage_any _ _).mono ?_
    rintro e w1 ⟨rfl, rfl⟩
    rw [hp]
    go_wp2
    go_ret2
    exact ⟨rfl, bel_alloc (Below.refl _ _) _⟩
  have hp' := of_between hp
  have he : fE c d p = 0 := fE_mk (by omega) hd' hp'
  rw [fW_ok he, he]
  clear he
  obtain ⟨d0, d1⟩ := hd'
  obtain ⟨p0, p1⟩ := hp'
  cases x
  · rw [show fX false = 0 from rfl, Int.add_zero]
    go_enter Tryz.func55, Tryz.ntmps55
    go_wp2_with fail
    refine (oIsDev_any _ _).mono ?_
    rintro e w1 ⟨rfl, rfl⟩
    rw [hd]
    go_wp2_with fail
    refine (oIsPage_any _ _).mono ?_
    rintro e w1 ⟨rfl, rfl⟩
    rw [hp]
    go_wp2
    go_ret2
    exact ⟨rfl, bel_alloc (Below.refl _ _) _⟩
  · rw [show fX true = 4096 from rfl]
    go_enter Tryz.func55, Tryz.ntmps55
    go_wp2_with fail
    refine (oIsDev_any _ _).mono ?_
    rintro e w1 ⟨rfl, rfl⟩
    rw [hd]
    go_wp2_with fail
    refine (oIsPage_any _ _).mono ?_
    rintro e w1 ⟨rfl, rfl⟩
    rw [hp]
    go_wp2
    go_ret2
    exact ⟨rfl, bel_alloc (Below.refl _ _) _⟩
end Go.Proofs.YtlgjllmecjkbjacGreat
/-
  What ReadOrder, ReadFault answer, and drawbridgeref's OrderOf, FaultOf: the same; none turns memory that was there.
-/
namespace Go.Proofs.YtlgjllmecjkbjacGreat
open Go.RowKit
theorem roE_out {z : Int} (h : ¬ (0 ≤ z ∧ z ≤ 65535)) : roE z = 2 := if_neg h
theorem roE_bad {z : Int} (h : 0 ≤ z ∧ z ≤ 65535) (k : ¬ oE (z % 4) (z / 4 % 8) (z / 32) = 0) : roE z = 3 := by rw [roE, if_pos h, if_neg k]
theorem roO_bad {z e : Int} (h : roE z = e) (hn : ¬ e = 0) : roO z = (0, 0, 0) := if_neg (fun x => hn (h.symm.trans x))
theorem roO_ok {z : Int} (h : roE z = 0) : roO z = (z % 4, z / 4 % 8, z / 32) := if_pos h
theorem ro_way {z : Int} (h : 0 ≤ z ∧ z ≤ 65535) :
    (roE z = 3 ∧ roO z = (0, 0, 0) ∧ (¬ oE (z % 4) (z / 4 % 8) (z / 32 % 64) = 0 ∨ (oE (z % 4) (z / 4 % 8) (z / 32 % 64) = 0 ∧ ¬ oW (z % 4) (z / 4 % 8) (z / 32 % 64) = z))) ∨
    (roE z = 0 ∧ roO z = (z % 4, z / 4 % 8, z / 32 % 64) ∧ oE (z % 4) (z / 4 % 8) (z / 32 % 64) = 0 ∧ oW (z % 4) (z / 4 % 8) (z / 32 % 64) = z) := by
  by_cases hs : z < 2048
  · have e : z / 32 % 64 = z / 32 := by omega
    rw [e]
    by_cases hk : oE (z % 4) (z / 4 % 8) (z / 32) = 0
    · have hr := roE_mk h hk
      exact .inr ⟨hr, roO_ok hr, hk, by rw [oW_ok hk]; omega⟩
    · have hr := roE_bad h hk
      exact .inl ⟨hr, roO_bad hr (by decide), .inl hk⟩
  · have hr : roE z = 3 := roE_bad h fun hk => by have := (oE_ok hk).2.2.1; omega
    refine .inl ⟨hr, roO_bad hr (by decide), ?_⟩
    by_cases hk : oE (z % 4) (z / 4 % 8) (z / 32 % 64) = 0
    · exact .inr ⟨hk, by rw [oW_ok hk]; omega⟩
    · exact .inl hk
set_option maxHeartbeats 2000000 in
theorem readOrder_any (z : Int) (w : World) :
    Calls Tryz.prog 87 #[.int .i64 z] w fun e w' => (∃ k d p, e = .returned (.tuple #[.agg #[.int .i64 k, .int .i64 d, .int .i64 p], .int .i64 (roE z)]) ∧ roO z = (k, d, p)) ∧ Below w.heap.size w w' := by
  cases hw : betweenB 0 65535 z
  · have hr : roE z = 2 := roE_out (of_decide_eq_false hw)
    have HO : Hid (roO z = (0, 0, 0)) := roO_bad hr (by decide)
    rw [hr]
    clear hr
    go_enter Tryz.func87, Tryz.ntmps87
    go_wp2_with fail
    refine (oIsWord_any _ _).mono ?_
    rintro e w1 ⟨rfl, rfl⟩
    rw [hw]
    go_wp2
    refine bodyPost_ret (v := .tuple #[.agg #[.int .i64 0, .int .i64 0, .int .i64 0], .int .i64 2]) (by simp [results, Tryz.results87, go_sem]) rfl ⟨⟨_, _, _, rfl, HO.out⟩, ?_⟩
    exact bel_alloc (Below.refl _ _) _
  have hz := of_between hw
  have hway := ro_way hz
  obtain ⟨h0, h1⟩ := hz
  obtain ⟨eo, heo⟩ : ∃ eo, oE (z % 4) (z / 4 % 8) (z / 32 % 64) = eo := ⟨_, rfl⟩
  obtain ⟨xo, hxo⟩ : ∃ xo, oW (z % 4) (z / 4 % 8) (z / 32 % 64) = xo := ⟨_, rfl⟩
  rw [heo, hxo] at hway
  have HW : Hid _ := hway
  have HE : Hid _ := heo
  have HX : Hid _ := hxo
  clear hway heo hxo
  go_enter Tryz.func87, Tryz.ntmps87
  go_wp2_with fail
  refine (oIsWord_any _ _).mono ?_
  rintro e w1 ⟨rfl, rfl⟩
  rw [hw]
  go_wp2_with fail
  refine (putOrder_any _ _ _ _).mono ?_
  rintro e w1 ⟨rfl, b1⟩
  rw [HE.out, HX.out]
  have X0 := (Box.newAt (n := w.heap.size) (by simp) 120 #[.int .i64 0, .int .i64 0, .int .i64 0]).past (.cells #[.int .i64 (z % 4), .int .i64 (z / 4 % 8), .int .i64 (z / 32 % 64)] 120) |>.keep b1
  have X1 := (Box.newAt (w := w.alloc (.cells #[.int .i64 0, .int .i64 0, .int .i64 0] 120)) (n := w.heap.size + 1) (by simp) 120 #[.int .i64 (z % 4), .int .i64 (z / 4 % 8), .int .i64 (z / 32 % 64)]).keep b1
  have B1 : Hid (Below w.heap.size w w1) := bel_trans (bel_alloc (bel_alloc (Below.refl _ _) _) _) b1
  clear b1
  obtain ⟨u0, u1, u2, g0, g1, g2, s0⟩ := X0.three
  obtain ⟨q0, q1, q2, -, -, -, s1⟩ := X1.three
  clear X0 X1
  rcases HW.out with ⟨hr, ho, hk | ⟨hk, hx⟩⟩ | ⟨hr, ho, hk, hx⟩
  · have HR : Hid _ := hr
    have HO : Hid _ := ho
    have hq : (eo != 0) = true := by simpa using hk
    clear hr ho HW HE HX hk
    go_wp2
    refine bodyPost_ret (v := .tuple #[.agg #[.int .i64 0, .int .i64 0, .int .i64 0], .int .i64 3]) (by simp [results, Tryz.results87, go_sem, *]) rfl ⟨⟨_, _, _, by rw [HR.out], HO.out⟩, ?_⟩
    exact bel_set3 (by omega) B1.out _ _ _
  · have HR : Hid _ := hr
    have HO : Hid _ := ho
    have hq : (xo != z) = true := by simpa using hx
    clear hr ho HW HE HX hx
    subst hk
    go_wp2
    refine bodyPost_ret (v := .tuple #[.agg #[.int .i64 0, .int .i64 0, .int .i64 0], .int .i64 3]) (by simp [results, Tryz.results87, go_sem, *]) rfl ⟨⟨_, _, _, by rw [HR.out], HO.out⟩, ?_⟩
    exact bel_set3 (by omega) B1.out _ _ _
  · have HR : Hid _ := hr
    have HO : Hid _ := ho
    clear hr ho HW HE HX
    subst hk hx
    go_wp2
    refine bodyPost_ret (v := .tuple #[.agg #[.int .i64 (xo % 4), .int .i64 (xo / 4 % 8), .int .i64 (xo / 32 % 64)], .int .i64 0]) (by simp [results, Tryz.results87, go_sem, *]) rfl ⟨⟨_, _, _, by rw [HR.out], HO.out⟩, ?_⟩
    exact bel_set3 (by omega) B1.out _ _ _
end Go.Proofs.YtlgjllmecjkbjacGreat
/-
  What ReadFault answers, and drawbridgeref's OrderOf, FaultOf: the same as ReadOrder, ReadFault; none turns memory that was there.
-/
namespace Go.Proofs.YtlgjllmecjkbjacGreat
open Go.RowKit
end Go.Proofs.YtlgjllmecjkbjacGreat
/-
  The closed fact drawbridgelaw.worded; the reads where their answer is known.
-/
namespace Go.Proofs.YtlgjllmecjkbjacGreat
open Go.RowKit
theorem readOrder_at {z k d p e1 : Int} {w : World} (hE : roE z = e1) (hO : roO z = (k, d, p)) :
    Calls Tryz.prog 87 #[.int .i64 z] w fun e w' => e = .returned (.tuple #[.agg #[.int .i64 k, .int .i64 d, .int .i64 p], .int .i64 e1]) ∧ Below w.heap.size w w' := by
  refine (readOrder_any z w).mono ?_
  rintro e w' ⟨⟨k', d', p', rfl, h⟩, hb⟩
  rw [hO] at h
  simp only [Prod.mk.injEq] at h
  obtain ⟨rfl, rfl, rfl⟩ := h
  rw [hE]
  exact ⟨rfl, hb⟩
end Go.Proofs.YtlgjllmecjkbjacGreat
/-
  Package bridge: Obey: what it answers, of anything; nothing that was there turns.
-/
namespace Go.Proofs.YtlgjllmecjkbjacGreat
open Go.RowKit
abbrev ObOutN (zs : List Int) (b : Br) (w : World) (e : Ending) (w' : World) : Prop :=
  ∃ mo1 ba1 op1 oh1 ot1 fe1 fp1 fh1 ft1 st1 lo1 va1 vk1 l1, e = .returned (.tuple #[.agg #[.int .i64 mo1, .int .i64 ba1, .slice va1 l1.length vk1, .int .i64 op1, .int .i64 oh1, .int .i64 ot1, .bool st1, .int .i64 fe1, .int .i64 fp1, .int .i64 fh1, .int .i64 ft1, .bool lo1], .int .i64 (obE zs b)]) ∧ obB zs b = ⟨mo1, ba1, l1, op1, oh1, ot1, st1, fe1, fp1, fh1, ft1, lo1⟩ ∧ Ls w' (.slice va1 l1.length vk1) l1 ∧ Fresh w.heap.size (.slice va1 l1.length vk1) ∧ Below w.heap.size w w'
set_option maxHeartbeats 4000000 in
theorem obey_anyN (v : Value) (zs : List Int) (mo ba op oh ot fe fp fh ft : Int) (st lo : Bool) (vc : Value) (l : List Ln) (w : World) (hs : Sl w v zs) (h : Ls w vc l) :
    Calls Tryz.prog 57 #[.agg #[v], .agg #[.int .i64 mo, .int .i64 ba, vc, .int .i64 op, .int .i64 oh, .int .i64 ot, .bool st, .int .i64 fe, .int .i64 fp, .int .i64 fh, .int .i64 ft, .bool lo]] w fun e w' => ObOutN zs ⟨mo, ba, l, op, oh, ot, st, fe, fp, fh, ft, lo⟩ w e w' := by
  have HS : Hid (Ls w vc l) := h
  obtain ⟨va, vk, rfl, -⟩ := h.shape
  have HM : Hid (Sl w v zs) := hs
  obtain ⟨ma, mc, rfl⟩ := hs.shape
  clear h hs
  go_enter Tryz.func57, Tryz.ntmps57
  go_wp2_with fail
  have B0 : Hid (Below w.heap.size w _) := bel_alloc (bel_alloc (bel_alloc (Below.refl w.heap.size w) (.cells #[.slice ma zs.length mc] 24)) (.cells #[.int .i64 mo, .int .i64 ba, .slice va l.length vk, .int .i64 op, .int .i64 oh, .int .i64 ot, .bool st, .int .i64 fe, .int .i64 fp, .int .i64 fh, .int .i64 ft, .bool lo] 31)) (.cells #[.int .i64 0, .int .i64 0, .slice none 0 0, .int .i64 0, .int .i64 0, .int .i64 0, .bool false, .int .i64 0, .int .i64 0, .int .i64 0, .int .i64 0, .bool false] 31)
  refine (checkBothB_any _ zs mo ba op oh ot fe fp fh ft st lo (.slice va l.length vk) l _ (HM.out.keep B0.out) (HS.out.keep B0.out)).mono ?_
  rintro e w1 ⟨rfl, b1⟩
  have X0 := (((Box.newAt (n := w.heap.size) rfl 24 #[.slice ma zs.length mc]).past _).past _).keep b1
  have X1 := ((Box.newAt (n := w.heap.size + 1) (by simp) 31 #[.int .i64 mo, .int .i64 ba, .slice va l.length vk, .int .i64 op, .int .i64 oh, .int .i64 ot, .bool st, .int .i64 fe, .int .i64 fp, .int .i64 fh, .int .i64 ft, .bool lo]).past _).keep b1
  have X2 := (Box.newAt (n := w.heap.size + 1 + 1) (by simp) 31 #[.int .i64 0, .int .i64 0, .slice none 0 0, .int .i64 0, .int .i64 0, .int .i64 0, .bool false, .int .i64 0, .int .i64 0, .int .i64 0, .int .i64 0, .bool false]).keep b1
  have B1 : Hid (Below w.heap.size w w1) := bel_trans B0.out b1
  clear b1 B0
  obtain ⟨m0, -, s0⟩ := X0.one
  obtain ⟨⟨q0, q1, q2, q3, q4, q5, q6, q7, q8, q9, q10, q11⟩, s1⟩ := X1.twelve
  obtain ⟨⟨u0, u1, u2, u3, u4, u5, u6, u7, u8, u9, u10, u11⟩, s2⟩ := X2.twelve
  obtain ⟨y0, y1, y2, y3, y4, y5, y6, y7, y8, y9, y10, y11⟩ := X2.marks
  by_cases hk : bothB zs ⟨mo, ba, l, op, oh, ot, st, fe, fp, fh, ft, lo⟩ = 0
  rotate_left
  · have HE : Hid (obE zs ⟨mo, ba, l, op, oh, ot, st, fe, fp, fh, ft, lo⟩ = bothB zs ⟨mo, ba, l, op, oh, ot, st, fe, fp, fh, ft, lo⟩) := if_neg hk
    have HB : Hid (obB zs ⟨mo, ba, l, op, oh, ot, st, fe, fp, fh, ft, lo⟩ = B0) := if_neg (by rw [HE.out]; exact hk)
    generalize bothB zs ⟨mo, ba, l, op, oh, ot, st, fe, fp, fh, ft, lo⟩ = E at *
    have hq : (E != 0) = true := by simpa using hk
    go_wp2
    refine bodyPost_ret (v := .tuple #[.agg #[.int .i64 0, .int .i64 0, .slice none 0 0, .int .i64 0, .int .i64 0, .int .i64 0, .bool false, .int .i64 0, .int .i64 0, .int .i64 0, .int .i64 0, .bool false], .int .i64 E]) (by simp [results, Tryz.results57, go_sem, *]) rfl ⟨_, _, _, _, _, _, _, _, _, _, _, _, _, [], by rw [HE.out]; rfl, HB.out, Ls.nothing _, Fresh.none _ _ _, ?_⟩
    (repeat (first | with_reducible exact B1.out | with_reducible refine bel_alloc ?_ _ | (with_reducible refine bel_set12 ?_ ?_ _ _ _ _ _ _ _ _ _ _ _ _; (focus omega)) | (with_reducible refine bel_set ?_ ?_ _; (focus (dsimp only; omega)))))
  have HK : Hid (_ = _) := hk
  rw [hk]
  clear hk
  cases st
  rotate_left
  · have HE : Hid (obE zs ⟨mo, ba, l, op, oh, ot, true, fe, fp, fh, ft, lo⟩ = 6) := by show _ = _; rw [obE, if_pos HK.out]; rfl
    have HB : Hid (obB zs ⟨mo, ba, l, op, oh, ot, true, fe, fp, fh, ft, lo⟩ = B0) := if_neg (by rw [HE.out]; decide)
    go_wp2
    refine bodyPost_ret (v := .tuple #[.agg #[.int .i64 0, .int .i64 0, .slice none 0 0, .int .i64 0, .int .i64 0, .int .i64 0, .bool false, .int .i64 0, .int .i64 0, .int .i64 0, .int .i64 0, .bool false], .int .i64 6]) (by simp [results, Tryz.results57, go_sem, *]) rfl ⟨_, _, _, _, _, _, _, _, _, _, _, _, _, [], by rw [HE.out]; rfl, HB.out, Ls.nothing _, Fresh.none _ _ _, ?_⟩
    (repeat (first | with_reducible exact B1.out | with_reducible refine bel_alloc ?_ _ | (with_reducible refine bel_set12 ?_ ?_ _ _ _ _ _ _ _ _ _ _ _ _; (focus omega)) | (with_reducible refine bel_set ?_ ?_ _; (focus (dsimp only; omega)))))
  have HZ : Hid (chk zs = 0) := (bothB_ok HK.out).1
  have HR : Hid (chkR op oh ot = 0) := (chkB_ok (bothB_ok HK.out).2).2.2.2.2.1
  have hl6 : l.length ≤ 6 := (chkC_zero.1 (chkB_ok (bothB_ok HK.out).2).2.2.2.1).1
  by_cases ho : oh = ot
  · subst ho
    have HE : Hid (obE zs ⟨mo, ba, l, op, oh, oh, false, fe, fp, fh, ft, lo⟩ = 6) := by show _ = _; rw [obE, if_pos HK.out]; simp
    have HB : Hid (obB zs ⟨mo, ba, l, op, oh, oh, false, fe, fp, fh, ft, lo⟩ = B0) := if_neg (by rw [HE.out]; decide)
    go_wp2_with fail
    refine (pop_none (HM.out.keep B1.out) HZ.out HR.out).mono ?_
    rintro e w2 ⟨rfl, b2⟩
    clear m0 s0 q0 q1 q2 q3 q4 q5 q6 q7 q8 q9 q10 q11 s1 u0 u1 u2 u3 u4 u5 u6 u7 u8 u9 u10 u11 y0 y1 y2 y3 y4 y5 y6 y7 y8 y9 y10 y11 s2
    have X2 := X2.keep b2
    have B2 : Hid (Below w.heap.size w w2) := bel_trans B1.out b2
    clear b2 B1
    obtain ⟨⟨u0, u1, u2, u3, u4, u5, u6, u7, u8, u9, u10, u11⟩, s2⟩ := X2.twelve
    obtain ⟨y0, y1, y2, y3, y4, y5, y6, y7, y8, y9, y10, y11⟩ := X2.marks
    go_wp2
    refine bodyPost_ret (v := .tuple #[.agg #[.int .i64 0, .int .i64 0, .slice none 0 0, .int .i64 0, .int .i64 0, .int .i64 0, .bool false, .int .i64 0, .int .i64 0, .int .i64 0, .int .i64 0, .bool false], .int .i64 6]) (by simp [results, Tryz.results57, go_sem, *]) rfl ⟨_, _, _, _, _, _, _, _, _, _, _, _, _, [], by rw [HE.out]; rfl, HB.out, Ls.nothing _, Fresh.none _ _ _, ?_⟩
    (repeat (first | with_reducible exact B2.out | with_reducible refine bel_alloc ?_ _ | (with_reducible refine bel_set12 ?_ ?_ _ _ _ _ _ _ _ _ _ _ _ _; (focus omega)) | (with_reducible refine bel_set ?_ ?_ _; (focus (dsimp only; omega)))))
  have hE : obE zs ⟨mo, ba, l, op, oh, ot, false, fe, fp, fh, ft, lo⟩ = 0 := by rw [obE, if_pos HK.out]; exact if_neg ho
  have HE : Hid (_ = _) := hE
  have HO : Hid (¬ oh = ot) := ho
  have hfe : 0 ≤ fe ∧ fe ≤ 999 := (chkB_ok (bothB_ok HK.out).2).2.2.1
  clear ho hE
  go_wp2_with fail
  refine (pop_ok (HM.out.keep B1.out) HZ.out HR.out HO.out).mono ?_
  rintro e w2 ⟨rfl, b2⟩
  obtain ⟨z, hz⟩ : ∃ z, nth zs (op * 8 + oh).toNat = z := ⟨_, rfl⟩
  have HW : Hid (ordW zs ⟨mo, ba, l, op, oh, ot, false, fe, fp, fh, ft, lo⟩ = z) := hz
  rw [hz]
  clear hz
  clear m0 s0 q0 q1 q2 q3 q4 q5 q6 q7 q8 q9 q10 q11 s1 u0 u1 u2 u3 u4 u5 u6 u7 u8 u9 u10 u11 y0 y1 y2 y3 y4 y5 y6 y7 y8 y9 y10 y11 s2
  have X1 := X1.keep b2
  have X2 := X2.keep b2
  have B2 : Hid (Below w.heap.size w w2) := bel_trans B1.out b2
  clear b2 B1 X0
  obtain ⟨⟨q0, q1, q2, q3, q4, q5, q6, q7, q8, q9, q10, q11⟩, s1⟩ := X1.twelve
  obtain ⟨⟨u0, u1, u2, u3, u4, u5, u6, u7, u8, u9, u10, u11⟩, s2⟩ := X2.twelve
  obtain ⟨y0, y1, y2, y3, y4, y5, y6, y7, y8, y9, y10, y11⟩ := X2.marks
  obtain ⟨nh, hnh⟩ : ∃ z, (oh + 1) % 8 = z := ⟨_, rfl⟩
  have HNH : Hid (_ = _) := hnh
  rw [hnh]
  clear hnh
  go_wp2_with fail
  refine (copyOf_anyN mo ba op oh ot fe fp fh ft false lo (.slice va l.length vk) l _ (HS.out.keep (bel_alloc B2.out _)) hl6).mono ?_
  rintro e w3 ⟨gl, hgl, rfl, hS3, b3⟩
  have FG : Hid (w.heap.size ≤ gl) := by
    have q0 := B2.out.size
    have q1 : w2.heap.size + 1 ≤ gl := by simpa using hgl
    show _ ≤ _
    omega
  clear hgl
  have XR := (Box.newAt (w := w2) rfl 29 #[.int .i64 op, .int .i64 nh, .int .i64 ot]).keep b3
  have zR : w.heap.size + 1 + 1 < w2.heap.size := s2
  clear q0 q1 q2 q3 q4 q5 q6 q7 q8 q9 q10 q11 s1
  clear u0 u1 u2 u3 u4 u5 u6 u7 u8 u9 u10 u11 y0 y1 y2 y3 y4 y5 y6 y7 y8 y9 y10 y11 s2
  have X2 := (X2.past _).keep b3
  have B3 : Hid (Below w.heap.size w w3) := bel_trans (bel_alloc B2.out _) b3
  have H3 : Hid (Ls _ _ _) := hS3
  have AP2 : Hid (Apart _ _ _) := hS3.apart X2
  have zN : w2.heap.size < w3.heap.size := XR.lt
  clear b3 B2 X1 hS3
  obtain ⟨c, e1, hro⟩ : ∃ c e1, (roO z = c ∧ roE z = e1) := ⟨_, _, rfl, rfl⟩
  obtain ⟨k, d, p⟩ := c
  obtain ⟨hO, hEE⟩ := hro
  have HRO : Hid (roO z = (k, d, p)) := hO
  have HRE : Hid (roE z = e1) := hEE
  clear hO hEE
  go_wp2_with fail
  refine (readOrder_at HRE.out HRO.out).mono ?_
  rintro e w4 ⟨rfl, b4⟩
  have X2 := (X2.past _).keep b4
  have XR := (XR.past _).keep b4
  have XN := (Box.newAt (w := w3) rfl 31 #[.int .i64 mo, .int .i64 ba, .slice (some ⟨gl, 0, none⟩) l.length l.length, .int .i64 op, .int .i64 oh, .int .i64 ot, .bool false, .int .i64 fe, .int .i64 fp, .int .i64 fh, .int .i64 ft, .bool lo]).keep b4
  have H4 : Hid (Ls _ _ _) := (H3.out.alloc _).keep b4
  have APN : Hid (Apart _ _ _) := H4.out.apart XN
  have B4 : Hid (Below w.heap.size w w4) := bel_trans (bel_alloc B3.out _) b4
  have zO : w3.heap.size < w4.heap.size := XN.lt
  clear b4 B3 H3
  generalize w3.heap.size = N at *
  generalize w2.heap.size = R at *
  obtain ⟨⟨n0, n1, n2, n3, n4, n5, n6, n7, n8, n9, n10, n11⟩, sN⟩ := XN.twelve
  obtain ⟨i0, i1, i2, i3, i4, i5, i6, i7, i8, i9, i10, i11⟩ := XN.marks
  obtain ⟨r0, r1, r2, -, -, -, sR⟩ := XR.three
  obtain ⟨⟨u0, u1, u2, u3, u4, u5, u6, u7, u8, u9, u10, u11⟩, s2⟩ := X2.twelve
  obtain ⟨y0, y1, y2, y3, y4, y5, y6, y7, y8, y9, y10, y11⟩ := X2.marks
  have nN2 : ¬ N = w.heap.size + 1 + 1 := by omega
  have nM2 : ¬ w.heap.size + 1 + 1 = N := by omega
  have nR2 : ¬ R = w.heap.size + 1 + 1 := by omega
  have nRN : ¬ R = N := by omega
  have nNR : ¬ N = R := by omega
  have zN0 : w.heap.size ≤ N := by omega
  by_cases he : e1 = 0
  rotate_left
  · have HB : Hid (obB zs ⟨mo, ba, l, op, oh, ot, false, fe, fp, fh, ft, lo⟩ = ⟨mo, ba, l, op, oh, ot, true, fe, fp, fh, ft, lo⟩) := (ob_bad HE.out (by rw [HW.out, HRE.out]; exact he)).1
    have hq : (e1 != 0) = true := by simpa using he
    go_wp2
    refine bodyPost_ret (v := .tuple #[.agg #[.int .i64 mo, .int .i64 ba, .slice (some ⟨gl, 0, none⟩) l.length l.length, .int .i64 op, .int .i64 oh, .int .i64 ot, .bool true, .int .i64 fe, .int .i64 fp, .int .i64 fh, .int .i64 ft, .bool lo], .int .i64 0]) (by simp [results, Tryz.results57, go_sem, *]) rfl ⟨_, _, _, _, _, _, _, _, _, _, _, _, _, l, by rw [HE.out], HB.out, ?_, fresh_at FG.out _ _ _, ?_⟩
    · exact Ls.alloc (Ls.put12 (Ls.putAt H4.out APN.out 6 _) AP2.out _ _ _ _ _ _ _ _ _ _ _ _) _
    · exact bel_alloc (bel_set12 (by omega) (bel_set (p := ⟨N, 6, none⟩) zN0 B4.out _) _ _ _ _ _ _ _ _ _ _ _ _) _
  subst he
  obtain ⟨eB, -, eD, hk3, -⟩ := ob_right (k := k) (d := d) (p := p) HE.out (by rw [HW.out]; exact HRE.out) (by rw [HW.out]; exact HRO.out)
  have HB : Hid (obB zs ⟨mo, ba, l, op, oh, ot, false, fe, fp, fh, ft, lo⟩ = ⟨mo, ba, drC l k d p, op, (oh + 1) % 8, ot, false, if k = 0 then (fe + 1) % 1000 else fe, fp, fh, ft, lo⟩) := eB
  have HD : Hid (drE l k = 0) := eD
  clear eB eD
  obtain ⟨c, hc⟩ : ∃ c, drC l k d p = c := ⟨_, rfl⟩
  have HC : Hid (_ = _) := hc
  clear hc
  go_wp2_with fail
  have X2 := (((X2.other (p := ⟨N, 3, none⟩) nM2 (.int .i64 op)).other (p := ⟨N, 4, none⟩) nM2 (.int .i64 nh)).other (p := ⟨N, 5, none⟩) nM2 (.int .i64 ot)).past (.cells #[.int .i64 k, .int .i64 d, .int .i64 p] 120)
  have XN : Box ((((w4.setCell ⟨N, 3, none⟩ (.int .i64 op)).setCell ⟨N, 4, none⟩ (.int .i64 nh)).setCell ⟨N, 5, none⟩ (.int .i64 ot)).alloc (.cells #[.int .i64 k, .int .i64 d, .int .i64 p] 120)) N 31 #[.int .i64 mo, .int .i64 ba, .slice (some ⟨gl, 0, none⟩) l.length l.length, .int .i64 op, .int .i64 nh, .int .i64 ot, .bool false, .int .i64 fe, .int .i64 fp, .int .i64 fh, .int .i64 ft, .bool lo] := (((XN.set 3 (.int .i64 op)).set 4 (.int .i64 nh)).set 5 (.int .i64 ot)).past _
  have XO : Box ((((w4.setCell ⟨N, 3, none⟩ (.int .i64 op)).setCell ⟨N, 4, none⟩ (.int .i64 nh)).setCell ⟨N, 5, none⟩ (.int .i64 ot)).alloc (.cells #[.int .i64 k, .int .i64 d, .int .i64 p] 120)) w4.heap.size 120 #[.int .i64 k, .int .i64 d, .int .i64 p] := Box.newAt (by simp) _ _
  have H5 : Hid (Ls ((((w4.setCell ⟨N, 3, none⟩ (.int .i64 op)).setCell ⟨N, 4, none⟩ (.int .i64 nh)).setCell ⟨N, 5, none⟩ (.int .i64 ot)).alloc (.cells #[.int .i64 k, .int .i64 d, .int .i64 p] 120)) _ l) := (((H4.out.putAt APN.out 3 _).putAt APN.out 4 _).putAt APN.out 5 _).alloc _
  have B5 : Hid (Below w.heap.size w ((((w4.setCell ⟨N, 3, none⟩ (.int .i64 op)).setCell ⟨N, 4, none⟩ (.int .i64 nh)).setCell ⟨N, 5, none⟩ (.int .i64 ot)).alloc (.cells #[.int .i64 k, .int .i64 d, .int .i64 p] 120))) := bel_alloc (bel_set (p := ⟨N, 5, none⟩) zN0 (bel_set (p := ⟨N, 4, none⟩) zN0 (bel_set (p := ⟨N, 3, none⟩) zN0 B4.out _) _) _) _
  clear n0 n1 n2 n3 n4 n5 n6 n7 n8 n9 n10 n11 sN i0 i1 i2 i3 i4 i5 i6 i7 i8 i9 i10 i11 r0 r1 r2 sR u0 u1 u2 u3 u4 u5 u6 u7 u8 u9 u10 u11 y0 y1 y2 y3 y4 y5 y6 y7 y8 y9 y10 y11 s2 H4 B4 XR
  have nO2 : ¬ w4.heap.size = w.heap.size + 1 + 1 := by omega
  have nON : ¬ w4.heap.size = N := by omega
  generalize ((((w4.setCell ⟨N, 3, none⟩ (.int .i64 op)).setCell ⟨N, 4, none⟩ (.int .i64 nh)).setCell ⟨N, 5, none⟩ (.int .i64 ot)).alloc (.cells #[.int .i64 k, .int .i64 d, .int .i64 p] 120)) = W5 at *
  generalize w4.heap.size = O at *
  refine (drop_atN H5.out (by omega) (by omega) HD.out HC.out).mono ?_
  rintro e w6 ⟨b6, cap6, rfl, hS6, hF6, bb⟩
  have F6 : Hid (Fresh w.heap.size (.slice b6 c.length cap6)) := hF6.mono B5.out.size
  clear hF6
  have X2 := X2.keep bb
  have XN := XN.keep bb
  have XO := XO.keep bb
  have AP2 : Hid (Apart _ _ _) := hS6.apart X2
  have APN : Hid (Apart _ _ _) := hS6.apart XN
  have H6 : Hid (Ls _ _ _) := hS6
  have B6 : Hid (Below w.heap.size w w6) := bel_trans B5.out bb
  clear bb B5 H5 hS6
  obtain ⟨⟨n0, n1, n2, n3, n4, n5, n6, n7, n8, n9, n10, n11⟩, sN⟩ := XN.twelve
  obtain ⟨-, -, i2, -, -, -, -, i7, -, -, -, -⟩ := XN.marks
  obtain ⟨o0, o1, o2, -, -, -, sO⟩ := XO.three
  obtain ⟨⟨u0, u1, u2, u3, u4, u5, u6, u7, u8, u9, u10, u11⟩, s2⟩ := X2.twelve
  obtain ⟨y0, y1, y2, y3, y4, y5, y6, y7, y8, y9, y10, y11⟩ := X2.marks
  by_cases hk0 : k = 0
  · subst hk0
    have f0 : 0 ≤ fe := hfe.1
    have f1 : fe ≤ 999 := hfe.2
    go_wp2
    refine bodyPost_ret (v := .tuple #[.agg #[.int .i64 mo, .int .i64 ba, .slice b6 c.length cap6, .int .i64 op, .int .i64 nh, .int .i64 ot, .bool false, .int .i64 ((fe + 1) % 1000), .int .i64 fp, .int .i64 fh, .int .i64 ft, .bool lo], .int .i64 0]) (by simp [results, Tryz.results57, go_sem, *]) rfl ⟨_, _, _, _, _, _, _, _, _, _, _, _, _, c, by rw [HE.out], HB.out.trans (by rw [HC.out, HNH.out]; rfl), ?_, F6.out, ?_⟩
    · exact Ls.put12 (Ls.putAt (Ls.putAt H6.out APN.out 2 _) APN.out 7 _) AP2.out _ _ _ _ _ _ _ _ _ _ _ _
    · exact bel_set12 (by omega) (bel_set (p := ⟨N, 7, none⟩) zN0 (bel_set (p := ⟨N, 2, none⟩) zN0 B6.out _) _) _ _ _ _ _ _ _ _ _ _ _ _
  · have hq : (k == 0) = false := by simpa using hk0
    have HK0 : Hid (¬ k = 0) := hk0
    clear hk0
    go_wp2
    refine bodyPost_ret (v := .tuple #[.agg #[.int .i64 mo, .int .i64 ba, .slice b6 c.length cap6, .int .i64 op, .int .i64 nh, .int .i64 ot, .bool false, .int .i64 fe, .int .i64 fp, .int .i64 fh, .int .i64 ft, .bool lo], .int .i64 0]) (by simp [results, Tryz.results57, go_sem, *]) rfl ⟨_, _, _, _, _, _, _, _, _, _, _, _, _, c, by rw [HE.out], HB.out.trans (by rw [HC.out, HNH.out, if_neg HK0.out]), ?_, F6.out, ?_⟩
    · exact Ls.put12 (Ls.putAt H6.out APN.out 2 _) AP2.out _ _ _ _ _ _ _ _ _ _ _ _
    · exact bel_set12 (by omega) (bel_set (p := ⟨N, 2, none⟩) zN0 B6.out _) _ _ _ _ _ _ _ _ _ _ _ _
end Go.Proofs.YtlgjllmecjkbjacGreat
