/-
  Laid together: MHap1, CopyN, Word1, Word2.
-/
import Derived.Test.YthlhocneggcekaaGreatB1
import Derived.Test.YthlhocneggcekaaGreatB2
import Derived.Test.YthlhocneggcekaaGreatB3
import Derived.Test.YthlhocneggcekaaGreatB4
import Derived.Test.YthlhocneggcekaaGreatB5
import Derived.Test.YthlhocneggcekaaGreatB6
import Derived.Test.YthlhocneggcekaaGreatB7
import Derived.Test.YthlhocneggcekaaGreatB8
import Derived.Test.YthlhocneggcekaaGreatB9
import Derived.Test.YthlhocneggcekaaGreatB10
import Derived.Test.YthlhocneggcekaaGreatB11
import Derived.Test.YthlhocneggcekaaGreatB12
import Derived.Test.YthlhocneggcekaaGreatB13
import Derived.Test.YthlhocneggcekaaGreatB14
import Derived.Test.YthlhocneggcekaaGreatB15
import Derived.Test.YthlhocneggcekaaGreatB16
import Derived.Test.YthlhocneggcekaaGreatB17
import Derived.Test.YthlhocneggcekaaGreatB18
import Derived.Test.YthlhocneggcekaaGreatB19
import Derived.Test.YthlhocneggcekaaGreatB20
import Derived.Test.YthlhocneggcekaaGreatB21
import Derived.Test.YthlhocneggcekaaGreatB22
import Derived.Test.YthlhocneggcekaaGreatB23
import Derived.Test.YthlhocneggcekaaGreatB24
import Derived.Test.YthlhocneggcekaaGreatB25
import Derived.Test.YthlhocneggcekaaGreatB26
import Derived.Test.YthlhocneggcekaaGreatB27
import Derived.Test.YthlhocneggcekaaGreatB28
import Derived.Test.YthlhocneggcekaaGreatB29
import Derived.Maps.OwnOps
import Derived.Maps.OwnSet
import Derived.Deep.AppendLies
import Derived.Deep.RegionWith
import Derived.Deep.RegionHeld3
import Derived.LoopN
import Derived.Deep.CutRange
import Derived.Test.YthlhocneggcekaaGreatRows
import Derived.WalkKit
import Derived.WalkSpells
import Derived.WalkLawsBesides
import Derived.Below
import Derived.WalkSmall
import Derived.Deep.QuietTactic
import Derived.BigQuiet
import Derived.Deep.Draws
import Derived.Deep.RegionHeld
import Derived.Deep.DrawnRows
import Derived.Laws.CopyOwn
namespace Go.Proofs.YthlhocneggcekaaGreat
open Go.RowKit
set_option maxRecDepth 10000 in
set_option maxHeartbeats 8000000 in
theorem mHap_step (v : Value) (zs : List Int) (p : Int) (u : Value) (r : List Int) (d : Bool) (mo ba op oh ot fe fp fh ft : Int) (st lo : Bool) (vc : Value) (l : List Ln) (kd num dv a ct : Int) (wr : Bool) (y : Value) (ds : List Int) (bad : Nat → Prop) (w : World) (hs : Sl w v zs) (hr : Sl w u r) (h : Ls w vc l) (hd : Sl w y ds) (hE : chkM ⟨zs, ⟨p, r, d⟩, ⟨mo, ba, l, op, oh, ot, st, fe, fp, fh, ft, lo⟩⟩ = 0) (hN : ∀ q, bad q → q < w.heap.size) (f1 : Off bad v) (f2 : Off bad u) (f3 : Off bad vc) (hk : kd = 1) :
    Calls Tryz.prog 35 #[.agg #[v, J p, u, .bool d, J mo, J ba, vc, J op, J oh, J ot, .bool st, J fe, J fp, J fh, J ft, .bool lo], .agg #[J kd, J num, J dv, J a, J ct, .bool wr, y]] w fun e w' => HapC bad ⟨zs, ⟨p, r, d⟩, ⟨mo, ba, l, op, oh, ot, st, fe, fp, fh, ft, lo⟩⟩ ⟨kd, num, dv, a, ct, wr, ds⟩ e w' ∧ Below w.heap.size w w' := by
  subst hk
  have HM : Hid (Sl w v zs) := hs
  have HR : Hid (Sl w u r) := hr
  have HL : Hid (Ls w vc l) := h
  have HD : Hid (Sl w y ds) := hd
  have HE : Hid (chkM _ = 0) := hE
  have HN : Hid (∀ q, bad q → q < w.heap.size) := hN
  have F1 : Hid (Off bad v) := f1
  have F2 : Hid (Off bad u) := f2
  have F3 : Hid (Off bad vc) := f3
  obtain ⟨ma, mn, mc, rfl⟩ : ∃ a k c, v = .slice a k c := let ⟨a, c, e, _⟩ := hs; ⟨a, _, c, e⟩
  obtain ⟨ra, rn, rc, rfl⟩ : ∃ a k c, u = .slice a k c := let ⟨a, c, e, _⟩ := hr; ⟨a, _, c, e⟩
  obtain ⟨va, vn, vk, rfl⟩ : ∃ a k c, vc = .slice a k c := let ⟨a, c, e, _⟩ := h; ⟨a, _, c, e⟩
  obtain ⟨da, dn, dc, rfl⟩ : ∃ a k c, y = .slice a k c := let ⟨a, c, e, _⟩ := hd; ⟨a, _, c, e⟩
  clear hs hr h hd hE hN f1 f2 f3
  have X0 := ((((Box.newAt (w := w) (n := w.heap.size) rfl 33 #[.slice ma mn mc, J p, .slice ra rn rc, .bool d, J mo, J ba, .slice va vn vk, J op, J oh, J ot, .bool st, J fe, J fp, J fh, J ft, .bool lo]).past (.cells #[J 1, J num, J dv, J a, J ct, .bool wr, .slice da dn dc] 37)).past (.cells #[.slice none 0 0, J 0, .slice none 0 0, .bool false, J 0, J 0, .slice none 0 0, J 0, J 0, J 0, .bool false, J 0, J 0, J 0, J 0, .bool false] 33)).past (.cells #[.bool false, .slice none 0 0, J 0, .slice none 0 0] 40)).past (.cells #[.bool false, .slice none 0 0, J 0, .slice none 0 0] 40)
  have X1 := (((Box.newAt (w := (w.alloc (.cells #[.slice ma mn mc, J p, .slice ra rn rc, .bool d, J mo, J ba, .slice va vn vk, J op, J oh, J ot, .bool st, J fe, J fp, J fh, J ft, .bool lo] 33))) (n := w.heap.size + 1) (by simp) 37 #[J 1, J num, J dv, J a, J ct, .bool wr, .slice da dn dc]).past (.cells #[.slice none 0 0, J 0, .slice none 0 0, .bool false, J 0, J 0, .slice none 0 0, J 0, J 0, J 0, .bool false, J 0, J 0, J 0, J 0, .bool false] 33)).past (.cells #[.bool false, .slice none 0 0, J 0, .slice none 0 0] 40)).past (.cells #[.bool false, .slice none 0 0, J 0, .slice none 0 0] 40)
  have X2 := ((Box.newAt (w := ((w.alloc (.cells #[.slice ma mn mc, J p, .slice ra rn rc, .bool d, J mo, J ba, .slice va vn vk, J op, J oh, J ot, .bool st, J fe, J fp, J fh, J ft, .bool lo] 33)).alloc (.cells #[J 1, J num, J dv, J a, J ct, .bool wr, .slice da dn dc] 37))) (n := w.heap.size + 1 + 1) (by simp) 33 #[.slice none 0 0, J 0, .slice none 0 0, .bool false, J 0, J 0, .slice none 0 0, J 0, J 0, J 0, .bool false, J 0, J 0, J 0, J 0, .bool false]).past (.cells #[.bool false, .slice none 0 0, J 0, .slice none 0 0] 40)).past (.cells #[.bool false, .slice none 0 0, J 0, .slice none 0 0] 40)
  have X3 := (Box.newAt (w := (((w.alloc (.cells #[.slice ma mn mc, J p, .slice ra rn rc, .bool d, J mo, J ba, .slice va vn vk, J op, J oh, J ot, .bool st, J fe, J fp, J fh, J ft, .bool lo] 33)).alloc (.cells #[J 1, J num, J dv, J a, J ct, .bool wr, .slice da dn dc] 37)).alloc (.cells #[.slice none 0 0, J 0, .slice none 0 0, .bool false, J 0, J 0, .slice none 0 0, J 0, J 0, J 0, .bool false, J 0, J 0, J 0, J 0, .bool false] 33))) (n := w.heap.size + 1 + 1 + 1) (by simp) 40 #[.bool false, .slice none 0 0, J 0, .slice none 0 0]).past (.cells #[.bool false, .slice none 0 0, J 0, .slice none 0 0] 40)
  have X4 := Box.newAt (w := ((((w.alloc (.cells #[.slice ma mn mc, J p, .slice ra rn rc, .bool d, J mo, J ba, .slice va vn vk, J op, J oh, J ot, .bool st, J fe, J fp, J fh, J ft, .bool lo] 33)).alloc (.cells #[J 1, J num, J dv, J a, J ct, .bool wr, .slice da dn dc] 37)).alloc (.cells #[.slice none 0 0, J 0, .slice none 0 0, .bool false, J 0, J 0, .slice none 0 0, J 0, J 0, J 0, .bool false, J 0, J 0, J 0, J 0, .bool false] 33)).alloc (.cells #[.bool false, .slice none 0 0, J 0, .slice none 0 0] 40))) (n := w.heap.size + 1 + 1 + 1 + 1) (by simp) 40 #[.bool false, .slice none 0 0, J 0, .slice none 0 0]
  have BW : Hid (Below w.heap.size w (((((w.alloc (.cells #[.slice ma mn mc, J p, .slice ra rn rc, .bool d, J mo, J ba, .slice va vn vk, J op, J oh, J ot, .bool st, J fe, J fp, J fh, J ft, .bool lo] 33)).alloc (.cells #[J 1, J num, J dv, J a, J ct, .bool wr, .slice da dn dc] 37)).alloc (.cells #[.slice none 0 0, J 0, .slice none 0 0, .bool false, J 0, J 0, .slice none 0 0, J 0, J 0, J 0, .bool false, J 0, J 0, J 0, J 0, .bool false] 33)).alloc (.cells #[.bool false, .slice none 0 0, J 0, .slice none 0 0] 40)).alloc (.cells #[.bool false, .slice none 0 0, J 0, .slice none 0 0] 40))) := bel_alloc (bel_alloc (bel_alloc (bel_alloc (bel_alloc (Below.refl w.heap.size w) _) _) _) _) _
  have hsz : (((((w.alloc (.cells #[.slice ma mn mc, J p, .slice ra rn rc, .bool d, J mo, J ba, .slice va vn vk, J op, J oh, J ot, .bool st, J fe, J fp, J fh, J ft, .bool lo] 33)).alloc (.cells #[J 1, J num, J dv, J a, J ct, .bool wr, .slice da dn dc] 37)).alloc (.cells #[.slice none 0 0, J 0, .slice none 0 0, .bool false, J 0, J 0, .slice none 0 0, J 0, J 0, J 0, .bool false, J 0, J 0, J 0, J 0, .bool false] 33)).alloc (.cells #[.bool false, .slice none 0 0, J 0, .slice none 0 0] 40)).alloc (.cells #[.bool false, .slice none 0 0, J 0, .slice none 0 0] 40)).heap.size = w.heap.size + 1 + 1 + 1 + 1 + 1 := by simp
  go_enter Tryz.func35, Tryz.ntmps35
  go_upto_region 2 with fail
  generalize (((((w.alloc (.cells #[.slice ma mn mc, J p, .slice ra rn rc, .bool d, J mo, J ba, .slice va vn vk, J op, J oh, J ot, .bool st, J fe, J fp, J fh, J ft, .bool lo] 33)).alloc (.cells #[J 1, J num, J dv, J a, J ct, .bool wr, .slice da dn dc] 37)).alloc (.cells #[.slice none 0 0, J 0, .slice none 0 0, .bool false, J 0, J 0, .slice none 0 0, J 0, J 0, J 0, .bool false, J 0, J 0, J 0, J 0, .bool false] 33)).alloc (.cells #[.bool false, .slice none 0 0, J 0, .slice none 0 0] 40)).alloc (.cells #[.bool false, .slice none 0 0, J 0, .slice none 0 0] 40)) = W at *
  have HSZ : Hid (W.heap.size = w.heap.size + 1 + 1 + 1 + 1 + 1) := hsz
  clear hsz
  obtain ⟨⟨k0, k1, k2, k3, k4, k5, k6⟩, sH⟩ := X1.seven
  have HST : Hid (hpE ⟨zs, ⟨p, r, d⟩, ⟨mo, ba, l, op, oh, ot, st, fe, fp, fh, ft, lo⟩⟩ ⟨1, num, dv, a, ct, wr, ds⟩ = stE zs ⟨p, r, d⟩ ⟨mo, ba, l, op, oh, ot, st, fe, fp, fh, ft, lo⟩) := by
    obtain ⟨q1, q2, q3⟩ := chkM_ok HE.out
    show _ = _
    rw [stE_mk q1 q2 q3, hpE, if_pos HE.out]
    rfl
  obtain ⟨⟨i0, i1, i2, i3⟩, ⟨j0, j1, j2, j3, j4, j5, j6, j7, j8, j9, j10, j11⟩, s0⟩ := X0.sixteen
  go_wp2_with fail
  refine (step_any _ zs p _ r d mo ba op oh ot fe fp fh ft st lo _ l _ (HM.out.keep BW.out) (HR.out.keep BW.out) (HL.out.keep BW.out)).mono ?_
  rintro e w1 ⟨v1, zs1, p1, u1, r1, d1, mo1, ba1, op1, oh1, ot1, fe1, fp1, fh1, ft1, st1, lo1, vc1, l1, rfl, h1, h2, h3, hF1, hF2, hF3, hG, b1⟩
  clear i0 i1 i2 i3 j0 j1 j2 j3 j4 j5 j6 j7 j8 j9 j10 j11 s0
  clear k0 k1 k2 k3 k4 k5 k6 sH
  obtain ⟨z, hz⟩ : ∃ z, stE zs ⟨p, r, d⟩ ⟨mo, ba, l, op, oh, ot, st, fe, fp, fh, ft, lo⟩ = z := ⟨_, rfl⟩
  have HZ : Hid (hpE ⟨zs, ⟨p, r, d⟩, ⟨mo, ba, l, op, oh, ot, st, fe, fp, fh, ft, lo⟩⟩ ⟨1, num, dv, a, ct, wr, ds⟩ = z) := HST.out.trans hz
  have HG : Hid (z = 0 → hpR ⟨zs, ⟨p, r, d⟩, ⟨mo, ba, l, op, oh, ot, st, fe, fp, fh, ft, lo⟩⟩ ⟨1, num, dv, a, ct, wr, ds⟩ = (⟨zs1, ⟨p1, r1, d1⟩, ⟨mo1, ba1, l1, op1, oh1, ot1, st1, fe1, fp1, fh1, ft1, lo1⟩⟩, ⟨false, [], 0, []⟩)) := fun h0 => by
    rw [hpR, if_pos (HZ.out.trans h0), hpG]
    dsimp only
    rw [if_pos rfl]
    rw [stR, if_pos (hz.trans h0)] at hG
    rw [hG]
    rfl
  rw [hz]
  clear hz hG HST
  obtain ⟨a1, n1, c1, rfl⟩ : ∃ a k c, v1 = .slice a k c := let ⟨a, c, e, _⟩ := h1; ⟨a, _, c, e⟩
  obtain ⟨a2, n2, c2, rfl⟩ : ∃ a k c, u1 = .slice a k c := let ⟨a, c, e, _⟩ := h2; ⟨a, _, c, e⟩
  obtain ⟨a3, n3, c3, rfl⟩ : ∃ a k c, vc1 = .slice a k c := let ⟨a, c, e, _⟩ := h3; ⟨a, _, c, e⟩
  have hFS1 : Fresh (w.heap.size + 1 + 1 + 1 + 1 + 1) (.slice a1 n1 c1) := by rw [← HSZ.out]; exact hF1
  have hFS2 : Fresh (w.heap.size + 1 + 1 + 1 + 1 + 1) (.slice a2 n2 c2) := by rw [← HSZ.out]; exact hF2
  have hFS3 : Fresh (w.heap.size + 1 + 1 + 1 + 1 + 1) (.slice a3 n3 c3) := by rw [← HSZ.out]; exact hF3
  have hWz := HSZ.out
  have hW1 : W.heap.size ≤ w1.heap.size := b1.size
  have X0 := X0.keep b1
  have X2 := X2.keep b1
  have X3 := X3.keep b1
  have X4 := X4.keep b1
  have B1 : Hid (Below w.heap.size w w1) := bel_trans BW.out b1
  have K2 : KeptB (fun q => q = w.heap.size) w1 ((((((((((((((((w1.setCell ⟨w.heap.size, 0, none⟩ (.slice a1 n1 c1)).setCell ⟨w.heap.size, 1, none⟩ (J p1)).setCell ⟨w.heap.size, 2, none⟩ (.slice a2 n2 c2)).setCell ⟨w.heap.size, 3, none⟩ (.bool d1)).setCell ⟨w.heap.size, 4, none⟩ (J mo1)).setCell ⟨w.heap.size, 5, none⟩ (J ba1)).setCell ⟨w.heap.size, 6, none⟩ (.slice a3 n3 c3)).setCell ⟨w.heap.size, 7, none⟩ (J op1)).setCell ⟨w.heap.size, 8, none⟩ (J oh1)).setCell ⟨w.heap.size, 9, none⟩ (J ot1)).setCell ⟨w.heap.size, 10, none⟩ (.bool st1)).setCell ⟨w.heap.size, 11, none⟩ (J fe1)).setCell ⟨w.heap.size, 12, none⟩ (J fp1)).setCell ⟨w.heap.size, 13, none⟩ (J fh1)).setCell ⟨w.heap.size, 14, none⟩ (J ft1)).setCell ⟨w.heap.size, 15, none⟩ (.bool lo1)) := by
    (repeat (first | with_reducible exact KeptB.refl _ _ | with_reducible refine KeptB.drew ?_ | with_reducible refine KeptB.alloc ?_ _ | (with_reducible refine KeptB.setCell ?_ ?_ _; rotate_left; (focus (dsimp only; omega)))))
  have B2 : Hid (Below w.heap.size w ((((((((((((((((w1.setCell ⟨w.heap.size, 0, none⟩ (.slice a1 n1 c1)).setCell ⟨w.heap.size, 1, none⟩ (J p1)).setCell ⟨w.heap.size, 2, none⟩ (.slice a2 n2 c2)).setCell ⟨w.heap.size, 3, none⟩ (.bool d1)).setCell ⟨w.heap.size, 4, none⟩ (J mo1)).setCell ⟨w.heap.size, 5, none⟩ (J ba1)).setCell ⟨w.heap.size, 6, none⟩ (.slice a3 n3 c3)).setCell ⟨w.heap.size, 7, none⟩ (J op1)).setCell ⟨w.heap.size, 8, none⟩ (J oh1)).setCell ⟨w.heap.size, 9, none⟩ (J ot1)).setCell ⟨w.heap.size, 10, none⟩ (.bool st1)).setCell ⟨w.heap.size, 11, none⟩ (J fe1)).setCell ⟨w.heap.size, 12, none⟩ (J fp1)).setCell ⟨w.heap.size, 13, none⟩ (J fh1)).setCell ⟨w.heap.size, 14, none⟩ (J ft1)).setCell ⟨w.heap.size, 15, none⟩ (.bool lo1))) := bel_set16 (Nat.le_refl _) B1.out _ _ _ _ _ _ _ _ _ _ _ _ _ _ _ _
  have PH : Hid (∀ w', KeptB (fun q => q = w.heap.size + 1 + 1 ∨ q = w.heap.size + 1 + 1 + 1) ((((((((((((((((w1.setCell ⟨w.heap.size, 0, none⟩ (.slice a1 n1 c1)).setCell ⟨w.heap.size, 1, none⟩ (J p1)).setCell ⟨w.heap.size, 2, none⟩ (.slice a2 n2 c2)).setCell ⟨w.heap.size, 3, none⟩ (.bool d1)).setCell ⟨w.heap.size, 4, none⟩ (J mo1)).setCell ⟨w.heap.size, 5, none⟩ (J ba1)).setCell ⟨w.heap.size, 6, none⟩ (.slice a3 n3 c3)).setCell ⟨w.heap.size, 7, none⟩ (J op1)).setCell ⟨w.heap.size, 8, none⟩ (J oh1)).setCell ⟨w.heap.size, 9, none⟩ (J ot1)).setCell ⟨w.heap.size, 10, none⟩ (.bool st1)).setCell ⟨w.heap.size, 11, none⟩ (J fe1)).setCell ⟨w.heap.size, 12, none⟩ (J fp1)).setCell ⟨w.heap.size, 13, none⟩ (J fh1)).setCell ⟨w.heap.size, 14, none⟩ (J ft1)).setCell ⟨w.heap.size, 15, none⟩ (.bool lo1)) w' → Below w.heap.size w w' → hpE ⟨zs, ⟨p, r, d⟩, ⟨mo, ba, l, op, oh, ot, st, fe, fp, fh, ft, lo⟩⟩ ⟨1, num, dv, a, ct, wr, ds⟩ = 0 → HapG bad ⟨zs, ⟨p, r, d⟩, ⟨mo, ba, l, op, oh, ot, st, fe, fp, fh, ft, lo⟩⟩ ⟨1, num, dv, a, ct, wr, ds⟩ w' (.slice a1 n1 c1) p1 (.slice a2 n2 c2) d1 mo1 ba1 op1 oh1 ot1 fe1 fp1 fh1 ft1 st1 lo1 (.slice a3 n3 c3) false (.slice none 0 0) 0 (.slice none 0 0)) := fun w' hk hb h0 =>
    ⟨zs1, r1, l1, [], [], HG.out (HZ.out.symm.trans h0), (h1.kept K2 (fun q hq => by have := hFS1 q hq; omega)).kept hk (fun q hq => by have := hFS1 q hq; omega), (h2.kept K2 (fun q hq => by have := hFS2 q hq; omega)).kept hk (fun q hq => by have := hFS2 q hq; omega), (h3.kept K2 (fun q hq => by have := hFS3 q hq; omega)).kept hk (fun q hq => by have := hFS3 q hq; omega), Sl.nil _ none 0, Ts.nothing _, hFS1.off (fun q hb => by have := HN.out q hb; omega), hFS2.off (fun q hb => by have := HN.out q hb; omega), hFS3.off (fun q hb => by have := HN.out q hb; omega), Off.none _ 0 0, Off.none _ 0 0⟩
  have Y0 : Box ((((((((((((((((w1.setCell ⟨w.heap.size, 0, none⟩ (.slice a1 n1 c1)).setCell ⟨w.heap.size, 1, none⟩ (J p1)).setCell ⟨w.heap.size, 2, none⟩ (.slice a2 n2 c2)).setCell ⟨w.heap.size, 3, none⟩ (.bool d1)).setCell ⟨w.heap.size, 4, none⟩ (J mo1)).setCell ⟨w.heap.size, 5, none⟩ (J ba1)).setCell ⟨w.heap.size, 6, none⟩ (.slice a3 n3 c3)).setCell ⟨w.heap.size, 7, none⟩ (J op1)).setCell ⟨w.heap.size, 8, none⟩ (J oh1)).setCell ⟨w.heap.size, 9, none⟩ (J ot1)).setCell ⟨w.heap.size, 10, none⟩ (.bool st1)).setCell ⟨w.heap.size, 11, none⟩ (J fe1)).setCell ⟨w.heap.size, 12, none⟩ (J fp1)).setCell ⟨w.heap.size, 13, none⟩ (J fh1)).setCell ⟨w.heap.size, 14, none⟩ (J ft1)).setCell ⟨w.heap.size, 15, none⟩ (.bool lo1)) w.heap.size 33 #[.slice a1 n1 c1, J p1, .slice a2 n2 c2, .bool d1, J mo1, J ba1, .slice a3 n3 c3, J op1, J oh1, J ot1, .bool st1, J fe1, J fp1, J fh1, J ft1, .bool lo1] := X0.set16 _ _ _ _ _ _ _ _ _ _ _ _ _ _ _ _
  have Y2 := X2.kept K2 (by omega)
  have Y3 := X3.kept K2 (by omega)
  have Y4 := X4.kept K2 (by omega)
  have mk := X0.marksOf
  obtain ⟨⟨i0, i1, i2, i3⟩, ⟨j0, j1, j2, j3, j4, j5, j6, j7, j8, j9, j10, j11⟩, s0⟩ := X0.sixteen
  clear h1 h2 h3 hF1 hF2 hF3 hFS1 hFS2 hFS3 b1 X0 X1 X2 X3 X4 K2
  go_upto_region 12 with fail
  clear mk
  clear i0 i1 i2 i3 j0 j1 j2 j3 j4 j5 j6 j7 j8 j9 j10 j11 s0
  generalize ((((((((((((((((w1.setCell ⟨w.heap.size, 0, none⟩ (.slice a1 n1 c1)).setCell ⟨w.heap.size, 1, none⟩ (J p1)).setCell ⟨w.heap.size, 2, none⟩ (.slice a2 n2 c2)).setCell ⟨w.heap.size, 3, none⟩ (.bool d1)).setCell ⟨w.heap.size, 4, none⟩ (J mo1)).setCell ⟨w.heap.size, 5, none⟩ (J ba1)).setCell ⟨w.heap.size, 6, none⟩ (.slice a3 n3 c3)).setCell ⟨w.heap.size, 7, none⟩ (J op1)).setCell ⟨w.heap.size, 8, none⟩ (J oh1)).setCell ⟨w.heap.size, 9, none⟩ (J ot1)).setCell ⟨w.heap.size, 10, none⟩ (.bool st1)).setCell ⟨w.heap.size, 11, none⟩ (J fe1)).setCell ⟨w.heap.size, 12, none⟩ (J fp1)).setCell ⟨w.heap.size, 13, none⟩ (J fh1)).setCell ⟨w.heap.size, 14, none⟩ (J ft1)).setCell ⟨w.heap.size, 15, none⟩ (.bool lo1)) = w2 at *
  have X0 := Y0
  have X2 := Y2
  have X3 := Y3
  have X4 := Y4
  clear Y0 Y2 Y3 Y4
  obtain ⟨⟨i0, i1, i2, i3⟩, ⟨j0, j1, j2, j3, j4, j5, j6, j7, j8, j9, j10, j11⟩, s0⟩ := X0.sixteen
  obtain ⟨⟨q0, q1, q2, q3⟩, ⟨g0, g1, g2, g3, g4, g5, g6, g7, g8, g9, g10, g11⟩, s2⟩ := X2.sixteen
  have mk := X2.marksOf
  obtain ⟨t0, t1, t2, t3, mf0, mf1, mf2, mf3, s3⟩ := X3.four
  obtain ⟨z0, z1, z2, z3, -, -, -, -, s4⟩ := X4.four
  clear X0 X2 X3 X4
  have n02 : ¬ w.heap.size = w.heap.size + 1 + 1 := by omega
  have n03 : ¬ w.heap.size = w.heap.size + 1 + 1 + 1 := by omega
  have n20 : ¬ w.heap.size + 1 + 1 = w.heap.size := by omega
  have n23 : ¬ w.heap.size + 1 + 1 = w.heap.size + 1 + 1 + 1 := by omega
  have n24 : ¬ w.heap.size + 1 + 1 = w.heap.size + 1 + 1 + 1 + 1 := by omega
  have n30 : ¬ w.heap.size + 1 + 1 + 1 = w.heap.size := by omega
  have n32 : ¬ w.heap.size + 1 + 1 + 1 = w.heap.size + 1 + 1 := by omega
  have n34 : ¬ w.heap.size + 1 + 1 + 1 = w.heap.size + 1 + 1 + 1 + 1 := by omega
  have n42 : ¬ w.heap.size + 1 + 1 + 1 + 1 = w.heap.size + 1 + 1 := by omega
  have n43 : ¬ w.heap.size + 1 + 1 + 1 + 1 = w.heap.size + 1 + 1 + 1 := by omega
  go_region
  all_goals
    go_wp2
    refine bodyPost_ret (v := .tuple #[.agg #[.slice a1 n1 c1, J p1, .slice a2 n2 c2, .bool d1, J mo1, J ba1, .slice a3 n3 c3, J op1, J oh1, J ot1, .bool st1, J fe1, J fp1, J fh1, J ft1, .bool lo1], .agg #[.bool false, .slice none 0 0, J 0, .slice none 0 0], J z]) (by simp [results, Tryz.results35, go_sem, *]) rfl ⟨⟨_, _, _, _, _, _, _, _, _, _, _, _, _, _, _, _, _, _, _, _, _, _, _, _, _, _, _, _, _, _, ret_hap HZ.out.symm, fun h0 => PH.out _ ?_ ?_ h0⟩, ?_⟩
    · (repeat (first | with_reducible exact KeptB.refl _ _ | with_reducible refine KeptB.drew ?_ | with_reducible refine KeptB.alloc ?_ _ | (with_reducible refine KeptB.setCell ?_ ?_ _; rotate_left; (focus (dsimp only; omega)))))
    · (repeat (first | with_reducible exact B2.out | with_reducible refine Below.drew ?_ | (with_reducible refine bel_set16 ?_ ?_ _ _ _ _ _ _ _ _ _ _ _ _ _ _ _ _; (focus omega)) | (with_reducible refine bel_set4 ?_ ?_ _ _ _ _; (focus omega)) | (with_reducible refine bel_set ?_ ?_ _; (focus (dsimp only; omega)))))
    · (repeat (first | with_reducible exact B2.out | with_reducible refine Below.drew ?_ | (with_reducible refine bel_set16 ?_ ?_ _ _ _ _ _ _ _ _ _ _ _ _ _ _ _ _; (focus omega)) | (with_reducible refine bel_set4 ?_ ?_ _ _ _ _; (focus omega)) | (with_reducible refine bel_set ?_ ?_ _; (focus (dsimp only; omega)))))
set_option maxHeartbeats 2000000 in
theorem copyOf_anyN (mo ba op oh ot fe fp fh ft : Int) (st lo : Bool) (vc : Value) (l : List Ln) (w : World) (h : Ls w vc l) (hn : l.length ≤ 6) :
    Calls Tryz.prog 87 #[.agg #[J mo, J ba, vc, J op, J oh, J ot, .bool st, J fe, J fp, J fh, J ft, .bool lo]] w fun e w' => ∃ g, w.heap.size ≤ g ∧ e = .returned (.agg #[J mo, J ba, .slice (some ⟨g, 0, none⟩) l.length l.length, J op, J oh, J ot, .bool st, J fe, J fp, J fh, J ft, .bool lo]) ∧ Ls w' (.slice (some ⟨g, 0, none⟩) l.length l.length) l ∧ Below w.heap.size w w' := by
  have HS : Hid (Ls w vc l) := h
  obtain ⟨va, vk, rfl, -⟩ := h.shape
  clear h
  have HN : Hid (l.length ≤ 6) := hn
  obtain ⟨N, hN⟩ : ∃ N, N = l.length := ⟨_, rfl⟩
  have HE : Hid (N = l.length) := hN
  rw [← hN]
  have hN6 : N ≤ 6 := by omega
  have HV : Hid (Ls w (.slice va N vk) l) := by show Ls _ _ _; rw [hN]; exact HS.out
  clear hN hn
  have hW : Below w.heap.size w ((w.alloc (.cells #[J mo, J ba, .slice va N vk, J op, J oh, J ot, .bool st, J fe, J fp, J fh, J ft, .bool lo] 31)).alloc (.cells #[J 0, J 0, .slice none 0 0, J 0, J 0, J 0, .bool false, J 0, J 0, J 0, J 0, .bool false] 31)) := bel_alloc (bel_alloc (Below.refl _ _) _) _
  obtain ⟨cur, hmk, hcs⟩ := makeLines ((w.alloc (.cells #[J mo, J ba, .slice va N vk, J op, J oh, J ot, .bool st, J fe, J fp, J fh, J ft, .bool lo] 31)).alloc (.cells #[J 0, J 0, .slice none 0 0, J 0, J 0, J 0, .bool false, J 0, J 0, J 0, J 0, .bool false] 31)) N hN6
  have hg0 : (((w.alloc (.cells #[J mo, J ba, .slice va N vk, J op, J oh, J ot, .bool st, J fe, J fp, J fh, J ft, .bool lo] 31)).alloc (.cells #[J 0, J 0, .slice none 0 0, J 0, J 0, J 0, .bool false, J 0, J 0, J 0, J 0, .bool false] 31)).alloc (.cells cur 52)).heap[w.heap.size + 1 + 1]? = some (.cells cur 52 (0, 0)) := heap_at (by simp)
  obtain ⟨w3, hcp, hg3, ho3, hs3, hb3⟩ := copyLines _ 3 (.slice va N vk) (w.heap.size + 1 + 1) l cur hg0 (by rw [hcs, HE.out]) (HV.out.keep (bel_alloc hW _))
  rw [← HE.out] at hcp
  have X0 : Box w3 w.heap.size 31 #[J mo, J ba, .slice va N vk, J op, J oh, J ot, .bool st, J fe, J fp, J fh, J ft, .bool lo] := by
    unfold Box; rw [ho3 _ (by omega)]
    exact ((Box.newAt (n := w.heap.size) rfl 31 _).past _).past _
  have X1 : Box w3 (w.heap.size + 1) 31 #[J 0, J 0, .slice none 0 0, J 0, J 0, J 0, .bool false, J 0, J 0, J 0, J 0, .bool false] := by
    unfold Box; rw [ho3 _ (by omega)]
    exact (Box.newAt (n := w.heap.size + 1) (by simp) 31 _).past _
  have B3 : Hid (Below w.heap.size w w3) := (bel_alloc hW _).trans (hb3.mono (by omega))
  obtain ⟨⟨q0, q1, q2, q3, q4, q5, q6, q7, q8, q9, q10, q11⟩, s0⟩ := X0.twelve
  obtain ⟨-, -, z2, -⟩ := X0.marks
  obtain ⟨⟨u0, u1, u2, u3, u4, u5, u6, u7, u8, u9, u10, u11⟩, s1⟩ := X1.twelve
  obtain ⟨y0, y1, y2, y3, y4, y5, y6, y7, y8, y9, y10, y11⟩ := X1.marks
  have HG : Hid _ := hg3
  clear hg3 ho3 hs3 hb3 hg0 hW hcs
  have n1 : ¬ w.heap.size + 1 + 1 = w.heap.size := by omega
  have n2 : ¬ w.heap.size + 1 + 1 = w.heap.size + 1 := by omega
  go_enter Tryz.func87, Tryz.ntmps87
  go_wp2
  refine bodyPost_ret (v := .agg #[J mo, J ba, .slice (some ⟨w.heap.size + 1 + 1, 0, none⟩) N N, J op, J oh, J ot, .bool st, J fe, J fp, J fh, J ft, .bool lo]) (by simp [results, Tryz.results87, go_sem, *]) rfl ⟨_, by omega, rfl, ?_, ?_⟩
  · rw [HE.out]
    refine ls_block ?_ HN.out
    exact (Box.other (p := ⟨w.heap.size, 2, none⟩) HG.out (by dsimp only; omega) _).other12 (by omega) _ _ _ _ _ _ _ _ _ _ _ _
  · exact bel_set12 (by omega) (bel_set (by dsimp only; omega) B3.out _) _ _ _ _ _ _ _ _ _ _ _ _
theorem oIsWord_any (z : Int) (w : World) : Calls Tryz.prog 58 #[J z] w fun e w' => e = .returned (.bool (betweenB 0 65535 z)) ∧ w' = w := by
  by_cases h1 : 0 ≤ z
  · by_cases h2 : z ≤ 65535
    · rw [between_yes ⟨h1, h2⟩]
      go_enter Tryz.func58, Tryz.ntmps58
      go_wp2
      go_ret
      exact ⟨rfl, rfl⟩
    · rw [between_no fun h => h2 h.2]
      go_enter Tryz.func58, Tryz.ntmps58
      go_wp2
      go_ret
      exact ⟨rfl, rfl⟩
  · rw [between_no fun h => h1 h.1]
    go_enter Tryz.func58, Tryz.ntmps58
    go_wp2
    go_ret
    exact ⟨rfl, rfl⟩
theorem oIsDev_any (z : Int) (w : World) : Calls Tryz.prog 89 #[J z] w fun e w' => e = .returned (.bool (betweenB 0 7 z)) ∧ w' = w := by
  by_cases h1 : 0 ≤ z
  · by_cases h2 : z < 8
    · rw [between_yes ⟨h1, by omega⟩]
      go_enter Tryz.func89, Tryz.ntmps89
      go_wp2
      go_ret
      exact ⟨rfl, rfl⟩
    · rw [between_no fun h => h2 (by omega)]
      go_enter Tryz.func89, Tryz.ntmps89
      go_wp2
      go_ret
      exact ⟨rfl, rfl⟩
  · rw [between_no fun h => h1 h.1]
    go_enter Tryz.func89, Tryz.ntmps89
    go_wp2
    go_ret
    exact ⟨rfl, rfl⟩
theorem oIsPage_any (z : Int) (w : World) : Calls Tryz.prog 90 #[J z] w fun e w' => e = .returned (.bool (betweenB 0 63 z)) ∧ w' = w := by
  by_cases h1 : 0 ≤ z
  · by_cases h2 : z < 64
    · rw [between_yes ⟨h1, by omega⟩]
      go_enter Tryz.func90, Tryz.ntmps90
      go_wp2
      go_ret
      exact ⟨rfl, rfl⟩
    · rw [between_no fun h => h2 (by omega)]
      go_enter Tryz.func90, Tryz.ntmps90
      go_wp2
      go_ret
      exact ⟨rfl, rfl⟩
  · rw [between_no fun h => h1 h.1]
    go_enter Tryz.func90, Tryz.ntmps90
    go_wp2
    go_ret
    exact ⟨rfl, rfl⟩
def forO (k d p : Int) : Bool := if k = 3 then true else if k = 2 then decide (p = 0) else decide (d = 0) && decide (p = 0)
theorem isOrder_any (k d p : Int) (w : World) :
    Calls Tryz.prog 125 #[.agg #[J k, J d, J p]] w fun e w' => e = .returned (.bool (forO k d p)) ∧ ∃ o, w' = w.alloc o := by
  by_cases h3 : k = 3
  · subst h3
    go_enter Tryz.func125, Tryz.ntmps125
    go_wp2
    go_ret
    exact ⟨rfl, _, rfl⟩
  have n3 : (k == 3) = false := by simpa using h3
  by_cases h2 : k = 2
  · subst h2
    by_cases hp : p = 0
    · subst hp
      go_enter Tryz.func125, Tryz.ntmps125
      go_wp2
      go_ret
      exact ⟨rfl, _, rfl⟩
    · have np : (p == 0) = false := by simpa using hp
      have HF : Hid (forO 2 d p = false) := by simp [forO, hp, Hid]
      clear hp
      go_enter Tryz.func125, Tryz.ntmps125
      go_wp2
      go_ret
      exact ⟨ret_bool HF.out.symm, _, rfl⟩
  have n2 : (k == 2) = false := by simpa using h2
  by_cases hd : d = 0
  · subst hd
    by_cases hp : p = 0
    · subst hp
      have HF : Hid (forO k 0 0 = true) := by simp [forO, h3, h2, Hid]
      clear h3 h2
      go_enter Tryz.func125, Tryz.ntmps125
      go_wp2
      go_ret
      exact ⟨ret_bool HF.out.symm, _, rfl⟩
    · have np : (p == 0) = false := by simpa using hp
      have HF : Hid (forO k 0 p = false) := by simp [forO, h3, h2, hp, Hid]
      clear h3 h2 hp
      go_enter Tryz.func125, Tryz.ntmps125
      go_wp2
      go_ret
      exact ⟨ret_bool HF.out.symm, _, rfl⟩
  · have nd : (d == 0) = false := by simpa using hd
    have HF : Hid (forO k d p = false) := by simp [forO, h3, h2, hd, Hid]
    clear h3 h2 hd
    go_enter Tryz.func125, Tryz.ntmps125
    go_wp2
    go_ret
    exact ⟨ret_bool HF.out.symm, _, rfl⟩
theorem forO_ok {k d p : Int} (hk : 0 ≤ k ∧ k ≤ 3) (hd : 0 ≤ d ∧ d ≤ 7) (hp : 0 ≤ p ∧ p ≤ 63) (h : forO k d p = true) : oE k d p = 0 := by
  refine oE_mk hk hd hp ?_ ?_
  · intro ⟨a, b⟩
    have n3 : ¬ k = 3 := by omega
    have n2 : ¬ k = 2 := by omega
    have nd : ¬ d = 0 := by omega
    simp [forO, n3, n2, nd] at h
  · intro ⟨a, b⟩
    have n3 : ¬ k = 3 := by omega
    have np : ¬ p = 0 := by omega
    by_cases n2 : k = 2 <;> simp [forO, n3, n2, np] at h
theorem forO_bad {k d p : Int} (hk : 0 ≤ k ∧ k ≤ 3) (hd : 0 ≤ d ∧ d ≤ 7) (hp : 0 ≤ p ∧ p ≤ 63) (h : forO k d p = false) : oE k d p = 3 := by
  unfold oE
  rw [if_pos ⟨hk, hd, hp⟩, if_pos]
  by_cases n3 : k = 3
  · simp [forO, n3] at h
  by_cases n2 : k = 2
  · by_cases np : p = 0
    · simp [forO, n2, np] at h
    · exact .inr (by omega)
  by_cases nd : d = 0
  · by_cases np : p = 0
    · simp [forO, n2, n3, nd, np] at h
    · exact .inr (by omega)
  · exact .inl (by omega)
theorem oE_out {k d p : Int} (h : ¬ ((0 ≤ k ∧ k ≤ 3) ∧ (0 ≤ d ∧ d ≤ 7) ∧ (0 ≤ p ∧ p ≤ 63))) : oE k d p = 2 := if_neg h
theorem oW_bad {k d p e : Int} (h : oE k d p = e) (hn : ¬ e = 0) : oW k d p = 0 := if_neg (fun x => hn (h.symm.trans x))
theorem fE_out {c d p : Int} (h : ¬ ((1 ≤ c ∧ c ≤ 5) ∧ (0 ≤ d ∧ d ≤ 7) ∧ (0 ≤ p ∧ p ≤ 63))) : fE c d p = 2 := if_neg h
theorem fW_bad {c d p : Int} {x : Bool} (h : fE c d p = 2) : fW c d p x = 0 := if_neg (by rw [h]; decide)
set_option maxHeartbeats 1000000 in
theorem putOrder_any (k d p : Int) (w : World) :
    Calls Tryz.prog 98 #[.agg #[J k, J d, J p]] w fun e w' => e = .returned (.tuple #[J (oW k d p), J (oE k d p)]) ∧ Below w.heap.size w w' := by
  by_cases k0 : k < 0
  · have he : oE k d p = 2 := oE_out (by omega)
    rw [oW_bad he (by decide), he]
    clear he
    go_enter Tryz.func98, Tryz.ntmps98
    go_wp2
    go_ret2
    exact ⟨rfl, bel_alloc (Below.refl _ _) _⟩
  by_cases k1 : 3 < k
  · have he : oE k d p = 2 := oE_out (by omega)
    rw [oW_bad he (by decide), he]
    clear he
    go_enter Tryz.func98, Tryz.ntmps98
    go_wp2
    go_ret2
    exact ⟨rfl, bel_alloc (Below.refl _ _) _⟩
  cases hd : betweenB 0 7 d
  · have hd' : ¬ (0 ≤ d ∧ d ≤ 7) := of_decide_eq_false hd
    have he : oE k d p = 2 := oE_out (by omega)
    rw [oW_bad he (by decide), he]
    clear he hd'
    go_enter Tryz.func98, Tryz.ntmps98
    go_wp2_with fail
    refine (oIsDev_any _ _).mono ?_
    rintro e w1 ⟨rfl, rfl⟩
    rw [hd]
    go_wp2
    go_ret2
    exact ⟨rfl, bel_alloc (Below.refl _ _) _⟩
  have hd' := of_between hd
  cases hp : betweenB 0 63 p
  · have hp' : ¬ (0 ≤ p ∧ p ≤ 63) := of_decide_eq_false hp
    have he : oE k d p = 2 := oE_out (by omega)
    rw [oW_bad he (by decide), he]
    clear he hd' hp'
    go_enter Tryz.func98, Tryz.ntmps98
    go_wp2_with fail
    refine (oIsDev_any _ _).mono ?_
    rintro e w1 ⟨rfl, rfl⟩
    rw [hd]
    go_wp2_with fail
    refine (oIsPage_any _ _).mono ?_
    rintro e w1 ⟨rfl, rfl⟩
    rw [hp]
    go_wp2
    go_ret2
    exact ⟨rfl, bel_alloc (Below.refl _ _) _⟩
  have hp' := of_between hp
  cases hf : forO k d p
  · have he : oE k d p = 3 := forO_bad (by omega) hd' hp' hf
    rw [oW_bad he (by decide), he]
    clear he hd' hp'
    go_enter Tryz.func98, Tryz.ntmps98
    go_wp2_with fail
    refine (oIsDev_any _ _).mono ?_
    rintro e w1 ⟨rfl, rfl⟩
    rw [hd]
    go_wp2_with fail
    refine (oIsPage_any _ _).mono ?_
    rintro e w1 ⟨rfl, rfl⟩
    rw [hp]
    go_wp2_with fail
    refine (isOrder_any _ _ _ _).mono ?_
    rintro e w1 ⟨rfl, o1, rfl⟩
    rw [hf]
    go_wp2
    go_ret2
    exact ⟨rfl, bel_alloc (bel_alloc (Below.refl _ _) _) _⟩
  · have he : oE k d p = 0 := forO_ok (by omega) hd' hp' hf
    rw [oW_ok he, he]
    clear he
    obtain ⟨d0, d1⟩ := hd'
    obtain ⟨p0, p1⟩ := hp'
    go_enter Tryz.func98, Tryz.ntmps98
    go_wp2_with fail
    refine (oIsDev_any _ _).mono ?_
    rintro e w1 ⟨rfl, rfl⟩
    rw [hd]
    go_wp2_with fail
    refine (oIsPage_any _ _).mono ?_
    rintro e w1 ⟨rfl, rfl⟩
    rw [hp]
    go_wp2_with fail
    refine (isOrder_any _ _ _ _).mono ?_
    rintro e w1 ⟨rfl, o1, rfl⟩
    rw [hf]
    go_wp2
    go_ret2
    exact ⟨rfl, bel_alloc (bel_alloc (Below.refl _ _) _) _⟩
set_option maxHeartbeats 1000000 in
theorem putFault_any (c d p : Int) (x : Bool) (w : World) :
    Calls Tryz.prog 59 #[.agg #[J c, J d, J p, .bool x]] w fun e w' => e = .returned (.tuple #[J (fW c d p x), J (fE c d p)]) ∧ Below w.heap.size w w' := by
  by_cases k0 : c < 1
  · have he : fE c d p = 2 := fE_out (by omega)
    rw [fW_bad he, he]
    clear he
    go_enter Tryz.func59, Tryz.ntmps59
    go_wp2
    go_ret2
    exact ⟨rfl, bel_alloc (Below.refl _ _) _⟩
  by_cases k1 : 5 < c
  · have he : fE c d p = 2 := fE_out (by omega)
    rw [fW_bad he, he]
    clear he
    go_enter Tryz.func59, Tryz.ntmps59
    go_wp2
    go_ret2
    exact ⟨rfl, bel_alloc (Below.refl _ _) _⟩
  cases hd : betweenB 0 7 d
  · have hd' : ¬ (0 ≤ d ∧ d ≤ 7) := of_decide_eq_false hd
    have he : fE c d p = 2 := fE_out (by omega)
    rw [fW_bad he, he]
    clear he hd'
    go_enter Tryz.func59, Tryz.ntmps59
    go_wp2_with fail
    refine (oIsDev_any _ _).mono ?_
    rintro e w1 ⟨rfl, rfl⟩
    rw [hd]
    go_wp2
    go_ret2
    exact ⟨rfl, bel_alloc (Below.refl _ _) _⟩
  have hd' := of_between hd
  cases hp : betweenB 0 63 p
  · have hp' : ¬ (0 ≤ p ∧ p ≤ 63) := of_decide_eq_false hp
    have he : fE c d p = 2 := fE_out (by omega)
    rw [fW_bad he, he]
    clear he hd' hp'
    go_enter Tryz.func59, Tryz.ntmps59
    go_wp2_with fail
    refine (oIsDev_any _ _).mono ?_
    rintro e w1 ⟨rfl, rfl⟩
    rw [hd]
    go_wp2_with fail
    refine (oIsPage_any _ _).mono ?_
    rintro e w1 ⟨rfl, rfl⟩
    rw [hp]
    go_wp2
    go_ret2
    exact ⟨rfl, bel_alloc (Below.refl _ _) _⟩
  have hp' := of_between hp
  have he : fE c d p = 0 := fE_mk (by omega) hd' hp'
  rw [fW_ok he, he]
  clear he
  obtain ⟨d0, d1⟩ := hd'
  obtain ⟨p0, p1⟩ := hp'
  cases x
  · rw [show fX false = 0 from rfl, Int.add_zero]
    go_enter Tryz.func59, Tryz.ntmps59
    go_wp2_with fail
    refine (oIsDev_any _ _).mono ?_
    rintro e w1 ⟨rfl, rfl⟩
    rw [hd]
    go_wp2_with fail
    refine (oIsPage_any _ _).mono ?_
    rintro e w1 ⟨rfl, rfl⟩
    rw [hp]
    go_wp2
    go_ret2
    exact ⟨rfl, bel_alloc (Below.refl _ _) _⟩
  · rw [show fX true = 4096 from rfl]
    go_enter Tryz.func59, Tryz.ntmps59
    go_wp2_with fail
    refine (oIsDev_any _ _).mono ?_
    rintro e w1 ⟨rfl, rfl⟩
    rw [hd]
    go_wp2_with fail
    refine (oIsPage_any _ _).mono ?_
    rintro e w1 ⟨rfl, rfl⟩
    rw [hp]
    go_wp2
    go_ret2
    exact ⟨rfl, bel_alloc (Below.refl _ _) _⟩
end Go.Proofs.YthlhocneggcekaaGreat
