/-
  Laid together: MHap4, MHap4x, MHap.
-/
import Derived.Test.YthlhocneggcekaaGreatB1
import Derived.Test.YthlhocneggcekaaGreatB2
import Derived.Test.YthlhocneggcekaaGreatB3
import Derived.Test.YthlhocneggcekaaGreatB4
import Derived.Test.YthlhocneggcekaaGreatB5
import Derived.Test.YthlhocneggcekaaGreatB6
import Derived.Test.YthlhocneggcekaaGreatB7
import Derived.Test.YthlhocneggcekaaGreatB8
import Derived.Test.YthlhocneggcekaaGreatB9
import Derived.Test.YthlhocneggcekaaGreatB10
import Derived.Test.YthlhocneggcekaaGreatB11
import Derived.Test.YthlhocneggcekaaGreatB12
import Derived.Test.YthlhocneggcekaaGreatB13
import Derived.Test.YthlhocneggcekaaGreatB14
import Derived.Test.YthlhocneggcekaaGreatB15
import Derived.Test.YthlhocneggcekaaGreatB16
import Derived.Test.YthlhocneggcekaaGreatB17
import Derived.Test.YthlhocneggcekaaGreatB18
import Derived.Test.YthlhocneggcekaaGreatB19
import Derived.Test.YthlhocneggcekaaGreatB20
import Derived.Test.YthlhocneggcekaaGreatB21
import Derived.Test.YthlhocneggcekaaGreatB22
import Derived.Test.YthlhocneggcekaaGreatB23
import Derived.Test.YthlhocneggcekaaGreatB24
import Derived.Test.YthlhocneggcekaaGreatB25
import Derived.Test.YthlhocneggcekaaGreatB26
import Derived.Test.YthlhocneggcekaaGreatB27
import Derived.Test.YthlhocneggcekaaGreatB28
import Derived.Test.YthlhocneggcekaaGreatB29
import Derived.Test.YthlhocneggcekaaGreatB30
import Derived.Test.YthlhocneggcekaaGreatB31
import Derived.Test.YthlhocneggcekaaGreatB32
import Derived.Test.YthlhocneggcekaaGreatB33
import Derived.Test.YthlhocneggcekaaGreatB34
import Derived.Test.YthlhocneggcekaaGreatB35
import Derived.Test.YthlhocneggcekaaGreatB36
import Derived.Test.YthlhocneggcekaaGreatB37
import Derived.Maps.OwnOps
import Derived.Maps.OwnSet
import Derived.Deep.AppendLies
import Derived.Deep.RegionWith
import Derived.Lib.AppendZerosOnto
import Derived.Lib.SliceRun
import Derived.LoopN
import Derived.Deep.CutRange
import Derived.Deep.RegionHeld3
import Derived.Test.YthlhocneggcekaaGreatRows
import Derived.WalkKit
import Derived.WalkSpells
import Derived.WalkLawsBesides
import Derived.Below
import Derived.WalkSmall
import Derived.Deep.QuietTactic
import Derived.BigQuiet
import Derived.Deep.Draws
import Derived.Deep.RegionHeld
import Derived.Deep.DrawnRows
import Derived.Laws.CopyOwn
import Derived.Deep.RegionLaw
namespace Go.Proofs.YthlhocneggcekaaGreat
open Go.RowKit
set_option maxRecDepth 10000 in
set_option maxHeartbeats 8000000 in
theorem mHap_evict_ok (v : Value) (zs : List Int) (p : Int) (u : Value) (r : List Int) (d : Bool) (mo ba op oh ot fe fp fh ft : Int) (st lo : Bool) (vc : Value) (l : List Ln) (kd num dv a ct : Int) (wr : Bool) (y : Value) (ds : List Int) (bad : Nat → Prop) (w : World) (hs : Sl w v zs) (hr : Sl w u r) (h : Ls w vc l) (hd : Sl w y ds) (hE : chkM ⟨zs, ⟨p, r, d⟩, ⟨mo, ba, l, op, oh, ot, st, fe, fp, fh, ft, lo⟩⟩ = 0) (hN : ∀ q, bad q → q < w.heap.size) (f1 : Off bad v) (f2 : Off bad u) (f3 : Off bad vc) (hk : kd = 4) (hne : 0 ≤ num ∧ num < l.length) :
    Calls Tryz.prog 35 #[.agg #[v, J p, u, .bool d, J mo, J ba, vc, J op, J oh, J ot, .bool st, J fe, J fp, J fh, J ft, .bool lo], .agg #[J kd, J num, J dv, J a, J ct, .bool wr, y]] w fun e w' => HapC bad ⟨zs, ⟨p, r, d⟩, ⟨mo, ba, l, op, oh, ot, st, fe, fp, fh, ft, lo⟩⟩ ⟨kd, num, dv, a, ct, wr, ds⟩ e w' ∧ Below w.heap.size w w' := by
  subst hk
  obtain ⟨K, rfl⟩ : ∃ K : Nat, num = K := ⟨num.toNat, by omega⟩
  have HM : Hid (Sl w v zs) := hs
  have HR : Hid (Sl w u r) := hr
  have HL : Hid (Ls w vc l) := h
  have HD : Hid (Sl w y ds) := hd
  have HE : Hid (chkM _ = 0) := hE
  have HN : Hid (∀ q, bad q → q < w.heap.size) := hN
  have F1 : Hid (Off bad v) := f1
  have F2 : Hid (Off bad u) := f2
  have F3 : Hid (Off bad vc) := f3
  obtain ⟨ma, mn, mc, rfl⟩ : ∃ a k c, v = .slice a k c := let ⟨a, c, e, _⟩ := hs; ⟨a, _, c, e⟩
  obtain ⟨ra, rn, rc, rfl⟩ : ∃ a k c, u = .slice a k c := let ⟨a, c, e, _⟩ := hr; ⟨a, _, c, e⟩
  obtain ⟨va, vn, vk, rfl⟩ : ∃ a k c, vc = .slice a k c := let ⟨a, c, e, _⟩ := h; ⟨a, _, c, e⟩
  obtain ⟨da, dn, dc, rfl⟩ : ∃ a k c, y = .slice a k c := let ⟨a, c, e, _⟩ := hd; ⟨a, _, c, e⟩
  clear hs hr h hd hE hN f1 f2 f3
  have X0 := ((((Box.newAt (w := w) (n := w.heap.size) rfl 33 #[.slice ma mn mc, J p, .slice ra rn rc, .bool d, J mo, J ba, .slice va vn vk, J op, J oh, J ot, .bool st, J fe, J fp, J fh, J ft, .bool lo]).past (.cells #[J 4, J K, J dv, J a, J ct, .bool wr, .slice da dn dc] 37)).past (.cells #[.slice none 0 0, J 0, .slice none 0 0, .bool false, J 0, J 0, .slice none 0 0, J 0, J 0, J 0, .bool false, J 0, J 0, J 0, J 0, .bool false] 33)).past (.cells #[.bool false, .slice none 0 0, J 0, .slice none 0 0] 40)).past (.cells #[.bool false, .slice none 0 0, J 0, .slice none 0 0] 40)
  have X1 := (((Box.newAt (w := (w.alloc (.cells #[.slice ma mn mc, J p, .slice ra rn rc, .bool d, J mo, J ba, .slice va vn vk, J op, J oh, J ot, .bool st, J fe, J fp, J fh, J ft, .bool lo] 33))) (n := w.heap.size + 1) (by simp) 37 #[J 4, J K, J dv, J a, J ct, .bool wr, .slice da dn dc]).past (.cells #[.slice none 0 0, J 0, .slice none 0 0, .bool false, J 0, J 0, .slice none 0 0, J 0, J 0, J 0, .bool false, J 0, J 0, J 0, J 0, .bool false] 33)).past (.cells #[.bool false, .slice none 0 0, J 0, .slice none 0 0] 40)).past (.cells #[.bool false, .slice none 0 0, J 0, .slice none 0 0] 40)
  have X2 := ((Box.newAt (w := ((w.alloc (.cells #[.slice ma mn mc, J p, .slice ra rn rc, .bool d, J mo, J ba, .slice va vn vk, J op, J oh, J ot, .bool st, J fe, J fp, J fh, J ft, .bool lo] 33)).alloc (.cells #[J 4, J K, J dv, J a, J ct, .bool wr, .slice da dn dc] 37))) (n := w.heap.size + 1 + 1) (by simp) 33 #[.slice none 0 0, J 0, .slice none 0 0, .bool false, J 0, J 0, .slice none 0 0, J 0, J 0, J 0, .bool false, J 0, J 0, J 0, J 0, .bool false]).past (.cells #[.bool false, .slice none 0 0, J 0, .slice none 0 0] 40)).past (.cells #[.bool false, .slice none 0 0, J 0, .slice none 0 0] 40)
  have X3 := (Box.newAt (w := (((w.alloc (.cells #[.slice ma mn mc, J p, .slice ra rn rc, .bool d, J mo, J ba, .slice va vn vk, J op, J oh, J ot, .bool st, J fe, J fp, J fh, J ft, .bool lo] 33)).alloc (.cells #[J 4, J K, J dv, J a, J ct, .bool wr, .slice da dn dc] 37)).alloc (.cells #[.slice none 0 0, J 0, .slice none 0 0, .bool false, J 0, J 0, .slice none 0 0, J 0, J 0, J 0, .bool false, J 0, J 0, J 0, J 0, .bool false] 33))) (n := w.heap.size + 1 + 1 + 1) (by simp) 40 #[.bool false, .slice none 0 0, J 0, .slice none 0 0]).past (.cells #[.bool false, .slice none 0 0, J 0, .slice none 0 0] 40)
  have X4 := Box.newAt (w := ((((w.alloc (.cells #[.slice ma mn mc, J p, .slice ra rn rc, .bool d, J mo, J ba, .slice va vn vk, J op, J oh, J ot, .bool st, J fe, J fp, J fh, J ft, .bool lo] 33)).alloc (.cells #[J 4, J K, J dv, J a, J ct, .bool wr, .slice da dn dc] 37)).alloc (.cells #[.slice none 0 0, J 0, .slice none 0 0, .bool false, J 0, J 0, .slice none 0 0, J 0, J 0, J 0, .bool false, J 0, J 0, J 0, J 0, .bool false] 33)).alloc (.cells #[.bool false, .slice none 0 0, J 0, .slice none 0 0] 40))) (n := w.heap.size + 1 + 1 + 1 + 1) (by simp) 40 #[.bool false, .slice none 0 0, J 0, .slice none 0 0]
  have BW : Hid (Below w.heap.size w (((((w.alloc (.cells #[.slice ma mn mc, J p, .slice ra rn rc, .bool d, J mo, J ba, .slice va vn vk, J op, J oh, J ot, .bool st, J fe, J fp, J fh, J ft, .bool lo] 33)).alloc (.cells #[J 4, J K, J dv, J a, J ct, .bool wr, .slice da dn dc] 37)).alloc (.cells #[.slice none 0 0, J 0, .slice none 0 0, .bool false, J 0, J 0, .slice none 0 0, J 0, J 0, J 0, .bool false, J 0, J 0, J 0, J 0, .bool false] 33)).alloc (.cells #[.bool false, .slice none 0 0, J 0, .slice none 0 0] 40)).alloc (.cells #[.bool false, .slice none 0 0, J 0, .slice none 0 0] 40))) := bel_alloc (bel_alloc (bel_alloc (bel_alloc (bel_alloc (Below.refl w.heap.size w) _) _) _) _) _
  have hsz : (((((w.alloc (.cells #[.slice ma mn mc, J p, .slice ra rn rc, .bool d, J mo, J ba, .slice va vn vk, J op, J oh, J ot, .bool st, J fe, J fp, J fh, J ft, .bool lo] 33)).alloc (.cells #[J 4, J K, J dv, J a, J ct, .bool wr, .slice da dn dc] 37)).alloc (.cells #[.slice none 0 0, J 0, .slice none 0 0, .bool false, J 0, J 0, .slice none 0 0, J 0, J 0, J 0, .bool false, J 0, J 0, J 0, J 0, .bool false] 33)).alloc (.cells #[.bool false, .slice none 0 0, J 0, .slice none 0 0] 40)).alloc (.cells #[.bool false, .slice none 0 0, J 0, .slice none 0 0] 40)).heap.size = w.heap.size + 1 + 1 + 1 + 1 + 1 := by simp
  go_enter Tryz.func35, Tryz.ntmps35
  go_upto_region 2 with fail
  generalize (((((w.alloc (.cells #[.slice ma mn mc, J p, .slice ra rn rc, .bool d, J mo, J ba, .slice va vn vk, J op, J oh, J ot, .bool st, J fe, J fp, J fh, J ft, .bool lo] 33)).alloc (.cells #[J 4, J K, J dv, J a, J ct, .bool wr, .slice da dn dc] 37)).alloc (.cells #[.slice none 0 0, J 0, .slice none 0 0, .bool false, J 0, J 0, .slice none 0 0, J 0, J 0, J 0, .bool false, J 0, J 0, J 0, J 0, .bool false] 33)).alloc (.cells #[.bool false, .slice none 0 0, J 0, .slice none 0 0] 40)).alloc (.cells #[.bool false, .slice none 0 0, J 0, .slice none 0 0] 40)) = W at *
  have HSZ : Hid (W.heap.size = w.heap.size + 1 + 1 + 1 + 1 + 1) := hsz
  clear hsz
  obtain ⟨⟨k0, k1, k2, k3, k4, k5, k6⟩, sH⟩ := X1.seven
  have hK : K < l.length := by omega
  have HZ : Hid (hpE ⟨zs, ⟨p, r, d⟩, ⟨mo, ba, l, op, oh, ot, st, fe, fp, fh, ft, lo⟩⟩ ⟨4, (K : Int), dv, a, ct, wr, ds⟩ = 0) := by show _ = _; rw [hpE, if_pos HE.out]; dsimp only; rw [if_neg (by decide), if_neg (by decide), if_neg (by decide), if_pos rfl, if_pos hne]
  have h6 : l.length ≤ 6 := by
    obtain ⟨-, -, q⟩ := chkM_ok HE.out
    have q := chkC_zero.1 (chkB_ok q).2.2.2.1
    exact q.1
  obtain ⟨⟨i0, i1, i2, i3⟩, ⟨j0, j1, j2, j3, j4, j5, j6, j7, j8, j9, j10, j11⟩, s0⟩ := X0.sixteen
  go_wp2_with fail
  refine (without_ok _ l K _ (HL.out.keep BW.out) hK h6).mono ?_
  rintro e w1 ⟨a9, c9, rfl, hO, hF, b1⟩
  clear hne h6 hK
  clear i0 i1 i2 i3 j0 j1 j2 j3 j4 j5 j6 j7 j8 j9 j10 j11 s0
  clear k0 k1 k2 k3 k4 k5 k6 sH
  have HG : Hid (hpR ⟨zs, ⟨p, r, d⟩, ⟨mo, ba, l, op, oh, ot, st, fe, fp, fh, ft, lo⟩⟩ ⟨4, (K : Int), dv, a, ct, wr, ds⟩ = (⟨zs, ⟨p, r, d⟩, ⟨mo, ba, l.eraseIdx K, op, oh, ot, st, fe, fp, fh, ft, lo⟩⟩, ⟨false, [], 0, []⟩)) := by
    show _ = _
    rw [hpR, if_pos HZ.out, hpG]
    dsimp only
    rw [if_neg (by decide), if_neg (by decide), if_neg (by decide)]
    rfl
  obtain ⟨ll, hll⟩ : ∃ ll, l.eraseIdx K = ll := ⟨_, rfl⟩
  rw [hll] at HG hO hF ⊢
  clear hll
  obtain ⟨ln9, hln⟩ : ∃ k, ll.length = k := ⟨_, rfl⟩
  rw [hln] at hO hF ⊢
  clear hln
  have hFS : Fresh (w.heap.size + 1 + 1 + 1 + 1 + 1) (.slice a9 ln9 c9) := by rw [← HSZ.out]; exact hF
  have hWz := HSZ.out
  have hW1 : W.heap.size ≤ w1.heap.size := b1.size
  have X0 := X0.keep b1
  have X2 := X2.keep b1
  have X3 := X3.keep b1
  have X4 := X4.keep b1
  have B1 : Hid (Below w.heap.size w w1) := bel_trans BW.out b1
  have K2 : KeptB (fun q => q = w.heap.size) w1 (w1.setCell ⟨w.heap.size, 6, none⟩ (.slice a9 ln9 c9)) := by
    (repeat (first | with_reducible exact KeptB.refl _ _ | with_reducible refine KeptB.drew ?_ | with_reducible refine KeptB.alloc ?_ _ | (with_reducible refine KeptB.setCell ?_ ?_ _; rotate_left; (focus (dsimp only; omega)))))
  have B2 : Hid (Below w.heap.size w (w1.setCell ⟨w.heap.size, 6, none⟩ (.slice a9 ln9 c9))) := bel_set (p := ⟨w.heap.size, 6, none⟩) (Nat.le_refl _) B1.out _
  have PH : Hid (∀ w', KeptB (fun q => q = w.heap.size + 1 + 1 ∨ q = w.heap.size + 1 + 1 + 1) (w1.setCell ⟨w.heap.size, 6, none⟩ (.slice a9 ln9 c9)) w' → Below w.heap.size w w' → hpE ⟨zs, ⟨p, r, d⟩, ⟨mo, ba, l, op, oh, ot, st, fe, fp, fh, ft, lo⟩⟩ ⟨4, (K : Int), dv, a, ct, wr, ds⟩ = 0 → HapG bad ⟨zs, ⟨p, r, d⟩, ⟨mo, ba, l, op, oh, ot, st, fe, fp, fh, ft, lo⟩⟩ ⟨4, (K : Int), dv, a, ct, wr, ds⟩ w' (.slice ma mn mc) p (.slice ra rn rc) d mo ba op oh ot fe fp fh ft st lo (.slice a9 ln9 c9) false (.slice none 0 0) 0 (.slice none 0 0)) := fun w' hk hb _ =>
    ⟨zs, r, ll, [], [], HG.out, HM.out.keep hb, HR.out.keep hb, (hO.kept K2 (fun q hq => by have := hFS q hq; omega)).kept hk (fun q hq => by have := hFS q hq; omega), Sl.nil _ none 0, Ts.nothing _, F1.out, F2.out, hFS.off (fun q hb => by have := HN.out q hb; omega), Off.none _ 0 0, Off.none _ 0 0⟩
  have Y0 : Box (w1.setCell ⟨w.heap.size, 6, none⟩ (.slice a9 ln9 c9)) w.heap.size 33 #[.slice ma mn mc, J p, .slice ra rn rc, .bool d, J mo, J ba, .slice a9 ln9 c9, J op, J oh, J ot, .bool st, J fe, J fp, J fh, J ft, .bool lo] := X0.set 6 _
  have Y2 := X2.kept K2 (by omega)
  have Y3 := X3.kept K2 (by omega)
  have Y4 := X4.kept K2 (by omega)
  have mk := X0.marksOf
  obtain ⟨⟨i0, i1, i2, i3⟩, ⟨j0, j1, j2, j3, j4, j5, j6, j7, j8, j9, j10, j11⟩, s0⟩ := X0.sixteen
  go_upto_region 12 with fail
  clear mk
  clear i0 i1 i2 i3 j0 j1 j2 j3 j4 j5 j6 j7 j8 j9 j10 j11 s0
  clear X0 X1 X2 X3 X4 K2 hO hF hFS b1
  generalize (w1.setCell ⟨w.heap.size, 6, none⟩ (.slice a9 ln9 c9)) = w2 at *
  have X0 := Y0
  have X2 := Y2
  have X3 := Y3
  have X4 := Y4
  clear Y0 Y2 Y3 Y4
  obtain ⟨⟨i0, i1, i2, i3⟩, ⟨j0, j1, j2, j3, j4, j5, j6, j7, j8, j9, j10, j11⟩, s0⟩ := X0.sixteen
  obtain ⟨⟨q0, q1, q2, q3⟩, ⟨g0, g1, g2, g3, g4, g5, g6, g7, g8, g9, g10, g11⟩, s2⟩ := X2.sixteen
  have mk := X2.marksOf
  obtain ⟨t0, t1, t2, t3, mf0, mf1, mf2, mf3, s3⟩ := X3.four
  obtain ⟨z0, z1, z2, z3, -, -, -, -, s4⟩ := X4.four
  clear X0 X2 X3 X4
  have n02 : ¬ w.heap.size = w.heap.size + 1 + 1 := by omega
  have n03 : ¬ w.heap.size = w.heap.size + 1 + 1 + 1 := by omega
  have n20 : ¬ w.heap.size + 1 + 1 = w.heap.size := by omega
  have n23 : ¬ w.heap.size + 1 + 1 = w.heap.size + 1 + 1 + 1 := by omega
  have n24 : ¬ w.heap.size + 1 + 1 = w.heap.size + 1 + 1 + 1 + 1 := by omega
  have n30 : ¬ w.heap.size + 1 + 1 + 1 = w.heap.size := by omega
  have n32 : ¬ w.heap.size + 1 + 1 + 1 = w.heap.size + 1 + 1 := by omega
  have n34 : ¬ w.heap.size + 1 + 1 + 1 = w.heap.size + 1 + 1 + 1 + 1 := by omega
  have n42 : ¬ w.heap.size + 1 + 1 + 1 + 1 = w.heap.size + 1 + 1 := by omega
  have n43 : ¬ w.heap.size + 1 + 1 + 1 + 1 = w.heap.size + 1 + 1 + 1 := by omega
  go_region
  all_goals
    go_wp2
    refine bodyPost_ret (v := .tuple #[.agg #[.slice ma mn mc, J p, .slice ra rn rc, .bool d, J mo, J ba, .slice a9 ln9 c9, J op, J oh, J ot, .bool st, J fe, J fp, J fh, J ft, .bool lo], .agg #[.bool false, .slice none 0 0, J 0, .slice none 0 0], J 0]) (by simp [results, Tryz.results35, go_sem, *]) rfl ⟨⟨_, _, _, _, _, _, _, _, _, _, _, _, _, _, _, _, _, _, _, _, _, _, _, _, _, _, _, _, _, _, ret_hap HZ.out.symm, fun h0 => PH.out _ ?_ ?_ h0⟩, ?_⟩
    · (repeat (first | with_reducible exact KeptB.refl _ _ | with_reducible refine KeptB.drew ?_ | with_reducible refine KeptB.alloc ?_ _ | (with_reducible refine KeptB.setCell ?_ ?_ _; rotate_left; (focus (dsimp only; omega)))))
    · (repeat (first | with_reducible exact B2.out | with_reducible refine Below.drew ?_ | (with_reducible refine bel_set16 ?_ ?_ _ _ _ _ _ _ _ _ _ _ _ _ _ _ _ _; (focus omega)) | (with_reducible refine bel_set4 ?_ ?_ _ _ _ _; (focus omega)) | (with_reducible refine bel_set ?_ ?_ _; (focus (dsimp only; omega)))))
    · (repeat (first | with_reducible exact B2.out | with_reducible refine Below.drew ?_ | (with_reducible refine bel_set16 ?_ ?_ _ _ _ _ _ _ _ _ _ _ _ _ _ _ _ _; (focus omega)) | (with_reducible refine bel_set4 ?_ ?_ _ _ _ _; (focus omega)) | (with_reducible refine bel_set ?_ ?_ _; (focus (dsimp only; omega)))))
set_option maxRecDepth 10000 in
set_option maxHeartbeats 8000000 in
theorem mHap_evict_bad (v : Value) (zs : List Int) (p : Int) (u : Value) (r : List Int) (d : Bool) (mo ba op oh ot fe fp fh ft : Int) (st lo : Bool) (vc : Value) (l : List Ln) (kd num dv a ct : Int) (wr : Bool) (y : Value) (ds : List Int) (bad : Nat → Prop) (w : World) (hs : Sl w v zs) (hr : Sl w u r) (h : Ls w vc l) (hd : Sl w y ds) (hE : chkM ⟨zs, ⟨p, r, d⟩, ⟨mo, ba, l, op, oh, ot, st, fe, fp, fh, ft, lo⟩⟩ = 0) (hN : ∀ q, bad q → q < w.heap.size) (f1 : Off bad v) (f2 : Off bad u) (f3 : Off bad vc) (hk : kd = 4) (hne : ¬ (0 ≤ num ∧ num < l.length)) :
    Calls Tryz.prog 35 #[.agg #[v, J p, u, .bool d, J mo, J ba, vc, J op, J oh, J ot, .bool st, J fe, J fp, J fh, J ft, .bool lo], .agg #[J kd, J num, J dv, J a, J ct, .bool wr, y]] w fun e w' => HapC bad ⟨zs, ⟨p, r, d⟩, ⟨mo, ba, l, op, oh, ot, st, fe, fp, fh, ft, lo⟩⟩ ⟨kd, num, dv, a, ct, wr, ds⟩ e w' ∧ Below w.heap.size w w' := by
  subst hk
  have HM : Hid (Sl w v zs) := hs
  have HR : Hid (Sl w u r) := hr
  have HL : Hid (Ls w vc l) := h
  have HD : Hid (Sl w y ds) := hd
  have HE : Hid (chkM _ = 0) := hE
  have HN : Hid (∀ q, bad q → q < w.heap.size) := hN
  have F1 : Hid (Off bad v) := f1
  have F2 : Hid (Off bad u) := f2
  have F3 : Hid (Off bad vc) := f3
  obtain ⟨ma, mn, mc, rfl⟩ : ∃ a k c, v = .slice a k c := let ⟨a, c, e, _⟩ := hs; ⟨a, _, c, e⟩
  obtain ⟨ra, rn, rc, rfl⟩ : ∃ a k c, u = .slice a k c := let ⟨a, c, e, _⟩ := hr; ⟨a, _, c, e⟩
  obtain ⟨va, vn, vk, rfl⟩ : ∃ a k c, vc = .slice a k c := let ⟨a, c, e, _⟩ := h; ⟨a, _, c, e⟩
  obtain ⟨da, dn, dc, rfl⟩ : ∃ a k c, y = .slice a k c := let ⟨a, c, e, _⟩ := hd; ⟨a, _, c, e⟩
  clear hs hr h hd hE hN f1 f2 f3
  have X0 := ((((Box.newAt (w := w) (n := w.heap.size) rfl 33 #[.slice ma mn mc, J p, .slice ra rn rc, .bool d, J mo, J ba, .slice va vn vk, J op, J oh, J ot, .bool st, J fe, J fp, J fh, J ft, .bool lo]).past (.cells #[J 4, J num, J dv, J a, J ct, .bool wr, .slice da dn dc] 37)).past (.cells #[.slice none 0 0, J 0, .slice none 0 0, .bool false, J 0, J 0, .slice none 0 0, J 0, J 0, J 0, .bool false, J 0, J 0, J 0, J 0, .bool false] 33)).past (.cells #[.bool false, .slice none 0 0, J 0, .slice none 0 0] 40)).past (.cells #[.bool false, .slice none 0 0, J 0, .slice none 0 0] 40)
  have X1 := (((Box.newAt (w := (w.alloc (.cells #[.slice ma mn mc, J p, .slice ra rn rc, .bool d, J mo, J ba, .slice va vn vk, J op, J oh, J ot, .bool st, J fe, J fp, J fh, J ft, .bool lo] 33))) (n := w.heap.size + 1) (by simp) 37 #[J 4, J num, J dv, J a, J ct, .bool wr, .slice da dn dc]).past (.cells #[.slice none 0 0, J 0, .slice none 0 0, .bool false, J 0, J 0, .slice none 0 0, J 0, J 0, J 0, .bool false, J 0, J 0, J 0, J 0, .bool false] 33)).past (.cells #[.bool false, .slice none 0 0, J 0, .slice none 0 0] 40)).past (.cells #[.bool false, .slice none 0 0, J 0, .slice none 0 0] 40)
  have X2 := ((Box.newAt (w := ((w.alloc (.cells #[.slice ma mn mc, J p, .slice ra rn rc, .bool d, J mo, J ba, .slice va vn vk, J op, J oh, J ot, .bool st, J fe, J fp, J fh, J ft, .bool lo] 33)).alloc (.cells #[J 4, J num, J dv, J a, J ct, .bool wr, .slice da dn dc] 37))) (n := w.heap.size + 1 + 1) (by simp) 33 #[.slice none 0 0, J 0, .slice none 0 0, .bool false, J 0, J 0, .slice none 0 0, J 0, J 0, J 0, .bool false, J 0, J 0, J 0, J 0, .bool false]).past (.cells #[.bool false, .slice none 0 0, J 0, .slice none 0 0] 40)).past (.cells #[.bool false, .slice none 0 0, J 0, .slice none 0 0] 40)
  have X3 := (Box.newAt (w := (((w.alloc (.cells #[.slice ma mn mc, J p, .slice ra rn rc, .bool d, J mo, J ba, .slice va vn vk, J op, J oh, J ot, .bool st, J fe, J fp, J fh, J ft, .bool lo] 33)).alloc (.cells #[J 4, J num, J dv, J a, J ct, .bool wr, .slice da dn dc] 37)).alloc (.cells #[.slice none 0 0, J 0, .slice none 0 0, .bool false, J 0, J 0, .slice none 0 0, J 0, J 0, J 0, .bool false, J 0, J 0, J 0, J 0, .bool false] 33))) (n := w.heap.size + 1 + 1 + 1) (by simp) 40 #[.bool false, .slice none 0 0, J 0, .slice none 0 0]).past (.cells #[.bool false, .slice none 0 0, J 0, .slice none 0 0] 40)
  have X4 := Box.newAt (w := ((((w.alloc (.cells #[.slice ma mn mc, J p, .slice ra rn rc, .bool d, J mo, J ba, .slice va vn vk, J op, J oh, J ot, .bool st, J fe, J fp, J fh, J ft, .bool lo] 33)).alloc (.cells #[J 4, J num, J dv, J a, J ct, .bool wr, .slice da dn dc] 37)).alloc (.cells #[.slice none 0 0, J 0, .slice none 0 0, .bool false, J 0, J 0, .slice none 0 0, J 0, J 0, J 0, .bool false, J 0, J 0, J 0, J 0, .bool false] 33)).alloc (.cells #[.bool false, .slice none 0 0, J 0, .slice none 0 0] 40))) (n := w.heap.size + 1 + 1 + 1 + 1) (by simp) 40 #[.bool false, .slice none 0 0, J 0, .slice none 0 0]
  have BW : Hid (Below w.heap.size w (((((w.alloc (.cells #[.slice ma mn mc, J p, .slice ra rn rc, .bool d, J mo, J ba, .slice va vn vk, J op, J oh, J ot, .bool st, J fe, J fp, J fh, J ft, .bool lo] 33)).alloc (.cells #[J 4, J num, J dv, J a, J ct, .bool wr, .slice da dn dc] 37)).alloc (.cells #[.slice none 0 0, J 0, .slice none 0 0, .bool false, J 0, J 0, .slice none 0 0, J 0, J 0, J 0, .bool false, J 0, J 0, J 0, J 0, .bool false] 33)).alloc (.cells #[.bool false, .slice none 0 0, J 0, .slice none 0 0] 40)).alloc (.cells #[.bool false, .slice none 0 0, J 0, .slice none 0 0] 40))) := bel_alloc (bel_alloc (bel_alloc (bel_alloc (bel_alloc (Below.refl w.heap.size w) _) _) _) _) _
  have hsz : (((((w.alloc (.cells #[.slice ma mn mc, J p, .slice ra rn rc, .bool d, J mo, J ba, .slice va vn vk, J op, J oh, J ot, .bool st, J fe, J fp, J fh, J ft, .bool lo] 33)).alloc (.cells #[J 4, J num, J dv, J a, J ct, .bool wr, .slice da dn dc] 37)).alloc (.cells #[.slice none 0 0, J 0, .slice none 0 0, .bool false, J 0, J 0, .slice none 0 0, J 0, J 0, J 0, .bool false, J 0, J 0, J 0, J 0, .bool false] 33)).alloc (.cells #[.bool false, .slice none 0 0, J 0, .slice none 0 0] 40)).alloc (.cells #[.bool false, .slice none 0 0, J 0, .slice none 0 0] 40)).heap.size = w.heap.size + 1 + 1 + 1 + 1 + 1 := by simp
  go_enter Tryz.func35, Tryz.ntmps35
  go_upto_region 2 with fail
  generalize (((((w.alloc (.cells #[.slice ma mn mc, J p, .slice ra rn rc, .bool d, J mo, J ba, .slice va vn vk, J op, J oh, J ot, .bool st, J fe, J fp, J fh, J ft, .bool lo] 33)).alloc (.cells #[J 4, J num, J dv, J a, J ct, .bool wr, .slice da dn dc] 37)).alloc (.cells #[.slice none 0 0, J 0, .slice none 0 0, .bool false, J 0, J 0, .slice none 0 0, J 0, J 0, J 0, .bool false, J 0, J 0, J 0, J 0, .bool false] 33)).alloc (.cells #[.bool false, .slice none 0 0, J 0, .slice none 0 0] 40)).alloc (.cells #[.bool false, .slice none 0 0, J 0, .slice none 0 0] 40)) = W at *
  have HSZ : Hid (W.heap.size = w.heap.size + 1 + 1 + 1 + 1 + 1) := hsz
  clear hsz
  obtain ⟨⟨k0, k1, k2, k3, k4, k5, k6⟩, sH⟩ := X1.seven
  have HZ : Hid (hpE ⟨zs, ⟨p, r, d⟩, ⟨mo, ba, l, op, oh, ot, st, fe, fp, fh, ft, lo⟩⟩ ⟨4, num, dv, a, ct, wr, ds⟩ = 4) := by show _ = _; rw [hpE, if_pos HE.out]; dsimp only; rw [if_neg (by decide), if_neg (by decide), if_neg (by decide), if_pos rfl, if_neg hne]
  obtain ⟨⟨i0, i1, i2, i3⟩, ⟨j0, j1, j2, j3, j4, j5, j6, j7, j8, j9, j10, j11⟩, s0⟩ := X0.sixteen
  go_wp2_with fail
  refine (without_bad _ l num _ (HL.out.keep BW.out) hne).mono ?_
  rintro e w1 ⟨rfl, hw⟩
  replace hw := hw.symm
  subst hw
  clear hne
  clear i0 i1 i2 i3 j0 j1 j2 j3 j4 j5 j6 j7 j8 j9 j10 j11 s0
  clear k0 k1 k2 k3 k4 k5 k6 sH
  have B2 : Hid (Below w.heap.size w (W.setCell ⟨w.heap.size, 6, none⟩ (.slice none 0 0))) := bel_set (p := ⟨w.heap.size, 6, none⟩) (Nat.le_refl _) BW.out _
  have PH : Hid (∀ w', KeptB (fun q => q = w.heap.size + 1 + 1 ∨ q = w.heap.size + 1 + 1 + 1) (W.setCell ⟨w.heap.size, 6, none⟩ (.slice none 0 0)) w' → Below w.heap.size w w' → hpE ⟨zs, ⟨p, r, d⟩, ⟨mo, ba, l, op, oh, ot, st, fe, fp, fh, ft, lo⟩⟩ ⟨4, num, dv, a, ct, wr, ds⟩ = 0 → HapG bad ⟨zs, ⟨p, r, d⟩, ⟨mo, ba, l, op, oh, ot, st, fe, fp, fh, ft, lo⟩⟩ ⟨4, num, dv, a, ct, wr, ds⟩ w' (.slice ma mn mc) p (.slice ra rn rc) d mo ba op oh ot fe fp fh ft st lo (.slice none 0 0) false (.slice none 0 0) 0 (.slice none 0 0)) := fun w' _ _ h0 => by rw [HZ.out] at h0; exact absurd h0 (by decide)
  have Y0 : Box (W.setCell ⟨w.heap.size, 6, none⟩ (.slice none 0 0)) w.heap.size 33 #[.slice ma mn mc, J p, .slice ra rn rc, .bool d, J mo, J ba, .slice none 0 0, J op, J oh, J ot, .bool st, J fe, J fp, J fh, J ft, .bool lo] := X0.set 6 _
  have Y2 := X2.other (p := ⟨w.heap.size, 6, none⟩) (by dsimp only; omega) (.slice none 0 0)
  have Y3 := X3.other (p := ⟨w.heap.size, 6, none⟩) (by dsimp only; omega) (.slice none 0 0)
  have Y4 := X4.other (p := ⟨w.heap.size, 6, none⟩) (by dsimp only; omega) (.slice none 0 0)
  have mk := X0.marksOf
  obtain ⟨⟨i0, i1, i2, i3⟩, ⟨j0, j1, j2, j3, j4, j5, j6, j7, j8, j9, j10, j11⟩, s0⟩ := X0.sixteen
  go_upto_region 12 with fail
  clear mk
  clear i0 i1 i2 i3 j0 j1 j2 j3 j4 j5 j6 j7 j8 j9 j10 j11 s0
  clear X0 X1 X2 X3 X4
  generalize (W.setCell ⟨w.heap.size, 6, none⟩ (.slice none 0 0)) = w2 at *
  have X0 := Y0
  have X2 := Y2
  have X3 := Y3
  have X4 := Y4
  clear Y0 Y2 Y3 Y4
  obtain ⟨⟨i0, i1, i2, i3⟩, ⟨j0, j1, j2, j3, j4, j5, j6, j7, j8, j9, j10, j11⟩, s0⟩ := X0.sixteen
  obtain ⟨⟨q0, q1, q2, q3⟩, ⟨g0, g1, g2, g3, g4, g5, g6, g7, g8, g9, g10, g11⟩, s2⟩ := X2.sixteen
  have mk := X2.marksOf
  obtain ⟨t0, t1, t2, t3, mf0, mf1, mf2, mf3, s3⟩ := X3.four
  obtain ⟨z0, z1, z2, z3, -, -, -, -, s4⟩ := X4.four
  clear X0 X2 X3 X4
  have n02 : ¬ w.heap.size = w.heap.size + 1 + 1 := by omega
  have n03 : ¬ w.heap.size = w.heap.size + 1 + 1 + 1 := by omega
  have n20 : ¬ w.heap.size + 1 + 1 = w.heap.size := by omega
  have n23 : ¬ w.heap.size + 1 + 1 = w.heap.size + 1 + 1 + 1 := by omega
  have n24 : ¬ w.heap.size + 1 + 1 = w.heap.size + 1 + 1 + 1 + 1 := by omega
  have n30 : ¬ w.heap.size + 1 + 1 + 1 = w.heap.size := by omega
  have n32 : ¬ w.heap.size + 1 + 1 + 1 = w.heap.size + 1 + 1 := by omega
  have n34 : ¬ w.heap.size + 1 + 1 + 1 = w.heap.size + 1 + 1 + 1 + 1 := by omega
  have n42 : ¬ w.heap.size + 1 + 1 + 1 + 1 = w.heap.size + 1 + 1 := by omega
  have n43 : ¬ w.heap.size + 1 + 1 + 1 + 1 = w.heap.size + 1 + 1 + 1 := by omega
  go_region
  all_goals
    go_wp2
    refine bodyPost_ret (v := .tuple #[.agg #[.slice ma mn mc, J p, .slice ra rn rc, .bool d, J mo, J ba, .slice none 0 0, J op, J oh, J ot, .bool st, J fe, J fp, J fh, J ft, .bool lo], .agg #[.bool false, .slice none 0 0, J 0, .slice none 0 0], J 4]) (by simp [results, Tryz.results35, go_sem, *]) rfl ⟨⟨_, _, _, _, _, _, _, _, _, _, _, _, _, _, _, _, _, _, _, _, _, _, _, _, _, _, _, _, _, _, ret_hap HZ.out.symm, fun h0 => PH.out _ ?_ ?_ h0⟩, ?_⟩
    · (repeat (first | with_reducible exact KeptB.refl _ _ | with_reducible refine KeptB.drew ?_ | with_reducible refine KeptB.alloc ?_ _ | (with_reducible refine KeptB.setCell ?_ ?_ _; rotate_left; (focus (dsimp only; omega)))))
    · (repeat (first | with_reducible exact B2.out | with_reducible refine Below.drew ?_ | (with_reducible refine bel_set16 ?_ ?_ _ _ _ _ _ _ _ _ _ _ _ _ _ _ _ _; (focus omega)) | (with_reducible refine bel_set4 ?_ ?_ _ _ _ _; (focus omega)) | (with_reducible refine bel_set ?_ ?_ _; (focus (dsimp only; omega)))))
    · (repeat (first | with_reducible exact B2.out | with_reducible refine Below.drew ?_ | (with_reducible refine bel_set16 ?_ ?_ _ _ _ _ _ _ _ _ _ _ _ _ _ _ _ _; (focus omega)) | (with_reducible refine bel_set4 ?_ ?_ _ _ _ _; (focus omega)) | (with_reducible refine bel_set ?_ ?_ _; (focus (dsimp only; omega)))))
theorem mHap_any (v : Value) (zs : List Int) (p : Int) (u : Value) (r : List Int) (d : Bool) (mo ba op oh ot fe fp fh ft : Int) (st lo : Bool) (vc : Value) (l : List Ln) (kd num dv a ct : Int) (wr : Bool) (y : Value) (ds : List Int) (bad : Nat → Prop) (w : World) (hs : Sl w v zs) (hr : Sl w u r) (h : Ls w vc l) (hd : Sl w y ds) (hE : chkM ⟨zs, ⟨p, r, d⟩, ⟨mo, ba, l, op, oh, ot, st, fe, fp, fh, ft, lo⟩⟩ = 0) (hN : ∀ q, bad q → q < w.heap.size) (f1 : Off bad v) (f2 : Off bad u) (f3 : Off bad vc) :
    Calls Tryz.prog 35 #[.agg #[v, J p, u, .bool d, J mo, J ba, vc, J op, J oh, J ot, .bool st, J fe, J fp, J fh, J ft, .bool lo], .agg #[J kd, J num, J dv, J a, J ct, .bool wr, y]] w fun e w' => HapC bad ⟨zs, ⟨p, r, d⟩, ⟨mo, ba, l, op, oh, ot, st, fe, fp, fh, ft, lo⟩⟩ ⟨kd, num, dv, a, ct, wr, ds⟩ e w' ∧ Below w.heap.size w w' := by
  by_cases h1 : kd = 1
  · exact mHap_step v zs p u r d mo ba op oh ot fe fp fh ft st lo vc l kd num dv a ct wr y ds bad w hs hr h hd hE hN f1 f2 f3 h1
  · by_cases h2 : kd = 2
    · exact mHap_order v zs p u r d mo ba op oh ot fe fp fh ft st lo vc l kd num dv a ct wr y ds bad w hs hr h hd hE hN f1 f2 f3 h2
    · by_cases h3 : kd = 3
      · exact mHap_ask v zs p u r d mo ba op oh ot fe fp fh ft st lo vc l kd num dv a ct wr y ds bad w hs hr h hd hE hN f1 f2 f3 h3
      · by_cases h4 : kd = 4
        · by_cases h0 : 0 ≤ num ∧ num < l.length
          · exact mHap_evict_ok v zs p u r d mo ba op oh ot fe fp fh ft st lo vc l kd num dv a ct wr y ds bad w hs hr h hd hE hN f1 f2 f3 h4 h0
          · exact mHap_evict_bad v zs p u r d mo ba op oh ot fe fp fh ft st lo vc l kd num dv a ct wr y ds bad w hs hr h hd hE hN f1 f2 f3 h4 h0
        · exact mHap_none v zs p u r d mo ba op oh ot fe fp fh ft st lo vc l kd num dv a ct wr y ds bad w hs hr h hd hE hN f1 f2 f3 (by omega)
end Go.Proofs.YthlhocneggcekaaGreat
