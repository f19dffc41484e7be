/-
  Laid together: MHapB, HCheck, HState, Upto.
-/
import Derived.Test.YtlgjllmecjkbjacGreatT7
import Derived.Deep.RegionHeld
/-
  Package machine: what happen answers: where it has no error, as the document says, in memory of its own.
-/
namespace Go.Proofs.YtlgjllmecjkbjacGreat
open Go.RowKit
def Off (bad : Nat → Prop) (v : Value) : Prop := ∀ q, v.ownBlock = some q → ¬ bad q
theorem Off.none (bad : Nat → Prop) (n c : Nat) : Off bad (.slice none n c) := fun k hk => by simp [Value.ownBlock] at hk
theorem Fresh.off {base : Nat} {v : Value} {bad : Nat → Prop} (h : Fresh base v) (k : ∀ q, bad q → q < base) : Off bad v := fun q hq hb => by have := h q hq; have := k q hb; omega
theorem Off.fresh {base : Nat} {v : Value} (h : Off (fun q => q < base) v) : Fresh base v := fun q hq => Nat.le_of_not_lt (h q hq)
theorem Off.less {a b : Nat → Prop} {v : Value} (h : Off b v) (k : ∀ q, a q → b q) : Off a v := fun q hq ha => h q hq (k q ha)
abbrev HapG (bad : Nat → Prop) (m : Mc) (x : Hp) (w' : World) (v1 : Value) (p1 : Int) (u1 : Value) (d1 : Bool) (mo1 ba1 op1 oh1 ot1 fe1 fp1 fh1 ft1 : Int) (st1 lo1 : Bool) (vc1 : Value) (dn1 : Bool) (vd1 : Value) (f1 : Int) (vt1 : Value) : Prop :=
  ∃ zs1 r1 l1 dat1 tch1, hpR m x = (⟨zs1, ⟨p1, r1, d1⟩, ⟨mo1, ba1, l1, op1, oh1, ot1, st1, fe1, fp1, fh1, ft1, lo1⟩⟩, ⟨dn1, dat1, f1, tch1⟩) ∧ Sl w' v1 zs1 ∧ Sl w' u1 r1 ∧ Ls w' vc1 l1 ∧ Sl w' vd1 dat1 ∧ Ts w' vt1 tch1 ∧ Off bad v1 ∧ Off bad u1 ∧ Off bad vc1 ∧ Off bad vd1 ∧ Off bad vt1
abbrev HapC (bad : Nat → Prop) (m : Mc) (x : Hp) (e : Ending) (w' : World) : Prop :=
  ∃ a1 n1 c1 p1 a2 n2 c2 d1 mo1 ba1 a3 n3 c3 op1 oh1 ot1 st1 fe1 fp1 fh1 ft1 lo1 dn1 a4 n4 c4 f1 a5 n5 c5, e = .returned (.tuple #[.agg #[.slice a1 n1 c1, .int .i64 p1, .slice a2 n2 c2, .bool d1, .int .i64 mo1, .int .i64 ba1, .slice a3 n3 c3, .int .i64 op1, .int .i64 oh1, .int .i64 ot1, .bool st1, .int .i64 fe1, .int .i64 fp1, .int .i64 fh1, .int .i64 ft1, .bool lo1], .agg #[.bool dn1, .slice a4 n4 c4, .int .i64 f1, .slice a5 n5 c5], .int .i64 (hpE m x)]) ∧
    (hpE m x = 0 → HapG bad m x w' (.slice a1 n1 c1) p1 (.slice a2 n2 c2) d1 mo1 ba1 op1 oh1 ot1 fe1 fp1 fh1 ft1 st1 lo1 (.slice a3 n3 c3) dn1 (.slice a4 n4 c4) f1 (.slice a5 n5 c5))
theorem ret_hap {a b : Value} {x y : Int} (h : x = y) : Ending.returned (.tuple #[a, b, .int .i64 x]) = .returned (.tuple #[a, b, .int .i64 y]) := by rw [h]
set_option maxRecDepth 10000 in
set_option maxHeartbeats 8000000 in
theorem mHap_none (v : Value) (zs : List Int) (p : Int) (u : Value) (r : List Int) (d : Bool) (mo ba op oh ot fe fp fh ft : Int) (st lo : Bool) (vc : Value) (l : List Ln) (kd num dv a ct : Int) (wr : Bool) (y : Value) (ds : List Int) (bad : Nat → Prop) (w : World) (hs : Sl w v zs) (hr : Sl w u r) (h : Ls w vc l) (hd : Sl w y ds) (hE : chkM ⟨zs, ⟨p, r, d⟩, ⟨mo, ba, l, op, oh, ot, st, fe, fp, fh, ft, lo⟩⟩ = 0) (hN : ∀ q, bad q → q < w.heap.size) (f1 : Off bad v) (f2 : Off bad u) (f3 : Off bad vc) (hk : ¬ (1 ≤ kd ∧ kd ≤ 4)) :
    Calls Tryz.prog 31 #[.agg #[v, .int .i64 p, u, .bool d, .int .i64 mo, .int .i64 ba, vc, .int .i64 op, .int .i64 oh, .int .i64 ot, .bool st, .int .i64 fe, .int .i64 fp, .int .i64 fh, .int .i64 ft, .bool lo], .agg #[.int .i64 kd, .int .i64 num, .int .i64 dv, .int .i64 a, .int .i64 ct, .bool wr, y]] w fun e w' => HapC bad ⟨zs, ⟨p, r, d⟩, ⟨mo, ba, l, op, oh, ot, st, fe, fp, fh, ft, lo⟩⟩ ⟨kd, num, dv, a, ct, wr, ds⟩ e w' ∧ Below w.heap.size w w' := by
  have HM : Hid (Sl w v zs) := hs
  have HR : Hid (Sl w u r) := hr
  have HL : Hid (Ls w vc l) := h
  have HD : Hid (Sl w y ds) := hd
  have HE : Hid (chkM _ = 0) := hE
  have HN : Hid (∀ q, bad q → q < w.heap.size) := hN
  have F1 : Hid (Off bad v) := f1
  have F2 : Hid (Off bad u) := f2
  have F3 : Hid (Off bad vc) := f3
  obtain ⟨ma, mn, mc, rfl⟩ : ∃ a k c, v = .slice a k c := let ⟨a, c, e, _⟩ := hs; ⟨a, _, c, e⟩
  obtain ⟨ra, rn, rc, rfl⟩ : ∃ a k c, u = .slice a k c := let ⟨a, c, e, _⟩ := hr; ⟨a, _, c, e⟩
  obtain ⟨va, vn, vk, rfl⟩ : ∃ a k c, vc = .slice a k c := let ⟨a, c, e, _⟩ := h; ⟨a, _, c, e⟩
  obtain ⟨da, dn, dc, rfl⟩ : ∃ a k c, y = .slice a k c := let ⟨a, c, e, _⟩ := hd; ⟨a, _, c, e⟩
  clear hs hr h hd hE hN f1 f2 f3
  have X0 := ((((Box.newAt (w := w) (n := w.heap.size) rfl 33 #[.slice ma mn mc, .int .i64 p, .slice ra rn rc, .bool d, .int .i64 mo, .int .i64 ba, .slice va vn vk, .int .i64 op, .int .i64 oh, .int .i64 ot, .bool st, .int .i64 fe, .int .i64 fp, .int .i64 fh, .int .i64 ft, .bool lo]).past (.cells #[.int .i64 kd, .int .i64 num, .int .i64 dv, .int .i64 a, .int .i64 ct, .bool wr, .slice da dn dc] 37)).past (.cells #[.slice none 0 0, .int .i64 0, .slice none 0 0, .bool false, .int .i64 0, .int .i64 0, .slice none 0 0, .int .i64 0, .int .i64 0, .int .i64 0, .bool false, .int .i64 0, .int .i64 0, .int .i64 0, .int .i64 0, .bool false] 33)).past (.cells #[.bool false, .slice none 0 0, .int .i64 0, .slice none 0 0] 40)).past (.cells #[.bool false, .slice none 0 0, .int .i64 0, .slice none 0 0] 40)
  have X1 := (((Box.newAt (w := (w.alloc (.cells #[.slice ma mn mc, .int .i64 p, .slice ra rn rc, .bool d, .int .i64 mo, .int .i64 ba, .slice va vn vk, .int .i64 op, .int .i64 oh, .int .i64 ot, .bool st, .int .i64 fe, .int .i64 fp, .int .i64 fh, .int .i64 ft, .bool lo] 33))) (n := w.heap.size + 1) (by simp) 37 #[.int .i64 kd, .int .i64 num, .int .i64 dv, .int .i64 a, .int .i64 ct, .bool wr, .slice da dn dc]).past (.cells #[.slice none 0 0, .int .i64 0, .slice none 0 0, .bool false, .int .i64 0, .int .i64 0, .slice none 0 0, .int .i64 0, .int .i64 0, .int .i64 0, .bool false, .int .i64 0, .int .i64 0, .int .i64 0, .int .i64 0, .bool false] 33)).past (.cells #[.bool false, .slice none 0 0, .int .i64 0, .slice none 0 0] 40)).past (.cells #[.bool false, .slice none 0 0, .int .i64 0, .slice none 0 0] 40)
  have X2 := ((Box.newAt (w := ((w.alloc (.cells #[.slice ma mn mc, .int .i64 p, .slice ra rn rc, .bool d, .int .i64 mo, .int .i64 ba, .slice va vn vk, .int .i64 op, .int .i64 oh, .int .i64 ot, .bool st, .int .i64 fe, .int .i64 fp, .int .i64 fh, .int .i64 ft, .bool lo] 33)).alloc (.cells #[.int .i64 kd, .int .i64 num, .int .i64 dv, .int .i64 a, .int .i64 ct, .bool wr, .slice da dn dc] 37))) (n := w.heap.size + 1 + 1) (by simp) 33 #[.slice none 0 0, .int .i64 0, .slice none 0 0, .bool false, .int .i64 0, .int .i64 0, .slice none 0 0, .int .i64 0, .int .i64 0, .int .i64 0, .bool false, .int .i64 0, .int .i64 0, .int .i64 0, .int .i64 0, .bool false]).past (.cells #[.bool false, .slice none 0 0, .int .i64 0, .slice none 0 0] 40)).past (.cells #[.bool false, .slice none 0 0, .int .i64 0, .slice none 0 0] 40)
  have X3 := (Box.newAt (w := (((w.alloc (.cells #[.slice ma mn mc, .int .i64 p, .slice ra rn rc, .bool d, .int .i64 mo, .int .i64 ba, .slice va vn vk, .int .i64 op, .int .i64 oh, .int .i64 ot, .bool st, .int .i64 fe, .int .i64 fp, .int .i64 fh, .int .i64 ft, .bool lo] 33)).alloc (.cells #[.int .i64 kd, .int .i64 num, .int .i64 dv, .int .i64 a, .int .i64 ct, .bool wr, .slice da dn dc] 37)).alloc (.cells #[.slice none 0 0, .int .i64 0, .slice none 0 0, .bool false, .int .i64 0, .int .i64 0, .slice none 0 0, .int .i64 0, .int .i64 0, .int .i64 0, .bool false, .int .i64 0, .int .i64 0, .int .i64 0, .int .i64 0, .bool false] 33))) (n := w.heap.size + 1 + 1 + 1) (by simp) 40 #[.bool false, .slice none 0 0, .int .i64 0, .slice none 0 0]).past (.cells #[.bool false, .slice none 0 0, .int .i64 0, .slice none 0 0] 40)
  have X4 := Box.newAt (w := ((((w.alloc (.cells #[.slice ma mn mc, .int .i64 p, .slice ra rn rc, .bool d, .int .i64 mo, .int .i64 ba, .slice va vn vk, .int .i64 op, .int .i64 oh, .int .i64 ot, .bool st, .int .i64 fe, .int .i64 fp, .int .i64 fh, .int .i64 ft, .bool lo] 33)).alloc (.cells #[.int .i64 kd, .int .i64 num, .int .i64 dv, .int .i64 a, .int .i64 ct, .bool wr, .slice da dn dc] 37)).alloc (.cells #[.slice none 0 0, .int .i64 0, .slice none 0 0, .bool false, .int .i64 0, .int .i64 0, .slice none 0 0, .int .i64 0, .int .i64 0, .int .i64 0, .bool false, .int .i64 0, .int .i64 0, .int .i64 0, .int .i64 0, .bool false] 33)).alloc (.cells #[.bool false, .slice none 0 0, .int .i64 0, .slice none 0 0] 40))) (n := w.heap.size + 1 + 1 + 1 + 1) (by simp) 40 #[.bool false, .slice none 0 0, .int .i64 0, .slice none 0 0]
  have BW : Hid (Below w.heap.size w (((((w.alloc (.cells #[.slice ma mn mc, .int .i64 p, .slice ra rn rc, .bool d, .int .i64 mo, .int .i64 ba, .slice va vn vk, .int .i64 op, .int .i64 oh, .int .i64 ot, .bool st, .int .i64 fe, .int .i64 fp, .int .i64 fh, .int .i64 ft, .bool lo] 33)).alloc (.cells #[.int .i64 kd, .int .i64 num, .int .i64 dv, .int .i64 a, .int .i64 ct, .bool wr, .slice da dn dc] 37)).alloc (.cells #[.slice none 0 0, .int .i64 0, .slice none 0 0, .bool false, .int .i64 0, .int .i64 0, .slice none 0 0, .int .i64 0, .int .i64 0, .int .i64 0, .bool false, .int .i64 0, .int .i64 0, .int .i64 0, .int .i64 0, .bool false] 33)).alloc (.cells #[.bool false, .slice none 0 0, .int .i64 0, .slice none 0 0] 40)).alloc (.cells #[.bool false, .slice none 0 0, .int .i64 0, .slice none 0 0] 40))) := bel_alloc (bel_alloc (bel_alloc (bel_alloc (bel_alloc (Below.refl w.heap.size w) _) _) _) _) _
  have hsz : (((((w.alloc (.cells #[.slice ma mn mc, .int .i64 p, .slice ra rn rc, .bool d, .int .i64 mo, .int .i64 ba, .slice va vn vk, .int .i64 op, .int .i64 oh, .int .i64 ot, .bool st, .int .i64 fe, .int .i64 fp, .int .i64 fh, .int .i64 ft, .bool lo] 33)).alloc (.cells #[.int .i64 kd, .int .i64 num, .int .i64 dv, .int .i64 a, .int .i64 ct, .bool wr, .slice da dn dc] 37)).alloc (.cells #[.slice none 0 0, .int .i64 0, .slice none 0 0, .bool false, .int .i64 0, .int .i64 0, .slice none 0 0, .int .i64 0, .int .i64 0, .int .i64 0, .bool false, .int .i64 0, .int .i64 0, .int .i64 0, .int .i64 0, .bool false] 33)).alloc (.cells #[.bool false, .slice none 0 0, .int .i64 0, .slice none 0 0] 40)).alloc (.cells #[.bool false, .slice none 0 0, .int .i64 0, .slice none 0 0] 40)).heap.size = w.heap.size + 1 + 1 + 1 + 1 + 1 := by simp
  go_enter Tryz.func31, Tryz.ntmps31
  go_upto_region 2 with fail
  generalize (((((w.alloc (.cells #[.slice ma mn mc, .int .i64 p, .slice ra rn rc, .bool d, .int .i64 mo, .int .i64 ba, .slice va vn vk, .int .i64 op, .int .i64 oh, .int .i64 ot, .bool st, .int .i64 fe, .int .i64 fp, .int .i64 fh, .int .i64 ft, .bool lo] 33)).alloc (.cells #[.int .i64 kd, .int .i64 num, .int .i64 dv, .int .i64 a, .int .i64 ct, .bool wr, .slice da dn dc] 37)).alloc (.cells #[.slice none 0 0, .int .i64 0, .slice none 0 0, .bool false, .int .i64 0, .int .i64 0, .slice none 0 0, .int .i64 0, .int .i64 0, .int .i64 0, .bool false, .int .i64 0, .int .i64 0, .int .i64 0, .int .i64 0, .bool false] 33)).alloc (.cells #[.bool false, .slice none 0 0, .int .i64 0, .slice none 0 0] 40)).alloc (.cells #[.bool false, .slice none 0 0, .int .i64 0, .slice none 0 0] 40)) = W at *
  have HSZ : Hid (W.heap.size = w.heap.size + 1 + 1 + 1 + 1 + 1) := hsz
  clear hsz
  obtain ⟨⟨k0, k1, k2, k3, k4, k5, k6⟩, sH⟩ := X1.seven
  have HZ : Hid (hpE ⟨zs, ⟨p, r, d⟩, ⟨mo, ba, l, op, oh, ot, st, fe, fp, fh, ft, lo⟩⟩ ⟨kd, num, dv, a, ct, wr, ds⟩ = 3) := by show _ = _; rw [hpE, if_pos HE.out]; dsimp only; rw [if_neg (by omega), if_neg (by omega), if_neg (by omega), if_neg (by omega)]
  have e1 : (kd == 1) = false := by simp; omega
  have e2 : (kd == 2) = false := by simp; omega
  have e3 : (kd == 3) = false := by simp; omega
  have e4 : (kd == 4) = false := by simp; omega
  have PH : Hid (∀ w', KeptB (fun q => q = w.heap.size + 1 + 1 ∨ q = w.heap.size + 1 + 1 + 1) W w' → Below w.heap.size w w' → hpE ⟨zs, ⟨p, r, d⟩, ⟨mo, ba, l, op, oh, ot, st, fe, fp, fh, ft, lo⟩⟩ ⟨kd, num, dv, a, ct, wr, ds⟩ = 0 → HapG bad ⟨zs, ⟨p, r, d⟩, ⟨mo, ba, l, op, oh, ot, st, fe, fp, fh, ft, lo⟩⟩ ⟨kd, num, dv, a, ct, wr, ds⟩ w' (.slice ma mn mc) p (.slice ra rn rc) d mo ba op oh ot fe fp fh ft st lo (.slice va vn vk) false (.slice none 0 0) 0 (.slice none 0 0)) := fun w' _ _ h0 => by rw [HZ.out] at h0; exact absurd h0 (by decide)
  go_upto_region 12 with fail
  clear e1 e2 e3 e4
  clear k0 k1 k2 k3 k4 k5 k6 sH
  obtain ⟨⟨i0, i1, i2, i3⟩, ⟨j0, j1, j2, j3, j4, j5, j6, j7, j8, j9, j10, j11⟩, s0⟩ := X0.sixteen
  obtain ⟨⟨q0, q1, q2, q3⟩, ⟨g0, g1, g2, g3, g4, g5, g6, g7, g8, g9, g10, g11⟩, s2⟩ := X2.sixteen
  have mk := X2.marksOf
  obtain ⟨t0, t1, t2, t3, mf0, mf1, mf2, mf3, s3⟩ := X3.four
  obtain ⟨z0, z1, z2, z3, -, -, -, -, s4⟩ := X4.four
  clear X0 X2 X3 X4
  have n02 : ¬ w.heap.size = w.heap.size + 1 + 1 := by omega
  have n03 : ¬ w.heap.size = w.heap.size + 1 + 1 + 1 := by omega
  have n20 : ¬ w.heap.size + 1 + 1 = w.heap.size := by omega
  have n23 : ¬ w.heap.size + 1 + 1 = w.heap.size + 1 + 1 + 1 := by omega
  have n24 : ¬ w.heap.size + 1 + 1 = w.heap.size + 1 + 1 + 1 + 1 := by omega
  have n30 : ¬ w.heap.size + 1 + 1 + 1 = w.heap.size := by omega
  have n32 : ¬ w.heap.size + 1 + 1 + 1 = w.heap.size + 1 + 1 := by omega
  have n34 : ¬ w.heap.size + 1 + 1 + 1 = w.heap.size + 1 + 1 + 1 + 1 := by omega
  have n42 : ¬ w.heap.size + 1 + 1 + 1 + 1 = w.heap.size + 1 + 1 := by omega
  have n43 : ¬ w.heap.size + 1 + 1 + 1 + 1 = w.heap.size + 1 + 1 + 1 := by omega
  go_region
  all_goals
    go_wp2
    refine bodyPost_ret (v := .tuple #[.agg #[.slice ma mn mc, .int .i64 p, .slice ra rn rc, .bool d, .int .i64 mo, .int .i64 ba, .slice va vn vk, .int .i64 op, .int .i64 oh, .int .i64 ot, .bool st, .int .i64 fe, .int .i64 fp, .int .i64 fh, .int .i64 ft, .bool lo], .agg #[.bool false, .slice none 0 0, .int .i64 0, .slice none 0 0], .int .i64 3]) (by simp [results, Tryz.results31, go_sem, *]) rfl ⟨⟨_, _, _, _, _, _, _, _, _, _, _, _, _, _, _, _, _, _, _, _, _, _, _, _, _, _, _, _, _, _, ret_hap HZ.out.symm, fun h0 => PH.out _ ?_ ?_ h0⟩, ?_⟩
    · (repeat (first | with_reducible exact KeptB.refl _ _ | with_reducible refine KeptB.drew ?_ | with_reducible refine KeptB.alloc ?_ _ | (with_reducible refine KeptB.setCell ?_ ?_ _; rotate_left; (focus (dsimp only; omega)))))
    · (repeat (first | with_reducible exact BW.out | with_reducible refine Below.drew ?_ | (with_reducible refine bel_set16 ?_ ?_ _ _ _ _ _ _ _ _ _ _ _ _ _ _ _ _; (focus omega)) | (with_reducible refine bel_set4 ?_ ?_ _ _ _ _; (focus omega)) | (with_reducible refine bel_set ?_ ?_ _; (focus (dsimp only; omega)))))
    · (repeat (first | with_reducible exact BW.out | with_reducible refine Below.drew ?_ | (with_reducible refine bel_set16 ?_ ?_ _ _ _ _ _ _ _ _ _ _ _ _ _ _ _ _; (focus omega)) | (with_reducible refine bel_set4 ?_ ?_ _ _ _ _; (focus omega)) | (with_reducible refine bel_set ?_ ?_ _; (focus (dsimp only; omega)))))
end Go.Proofs.YtlgjllmecjkbjacGreat
/-
  Package hart: Check, Same, New, checkAll: what they answer; nothing that was there turns.
-/
namespace Go.Proofs.YtlgjllmecjkbjacGreat
open Go.RowKit
set_option maxHeartbeats 1000000 in
theorem hCheck_any (p : Int) (v : Value) (r : List Int) (d : Bool) (w : World) (h : Sl w v r) :
    Calls Tryz.prog 38 #[.agg #[.int .i64 p, v, .bool d]] w fun e w' => e = .returned (.int .i64 (chkH ⟨p, r, d⟩)) ∧ Below w.heap.size w w' := by
  obtain ⟨a, cap, rfl, hl, h⟩ := h
  unfold maxLen at hl
  by_cases hn : r.length = 8
  rotate_left
  · have hne : ((r.length : Int) != 8) = true := by simp; omega
    rw [chkH_len hn]
    clear hn h
    go_enter Tryz.func38, Tryz.ntmps38
    go_wp2
    go_ret
    exact ⟨rfl, bel_alloc (Below.refl _ _) _⟩
  rcases h with rfl | ⟨b, o, rfl, hb, hc⟩
  · simp at hn
  have HC : Hid (∀ i, i < 8 → w.cell? ⟨b, o + i, none⟩ = some (.int .i64 (nth r i))) := fun i hi => hc i (by omega)
  have HN : Hid (r.length = 8) := hn
  rw [hn]
  clear hc hl hn
  cases hp : placeB p
  · rw [chkH_out HN.out hp]
    have ho : p < 0 ∨ (0 ≤ p ∧ 512 ≤ p) := by simp [placeB] at hp; omega
    clear hp
    rcases ho with ho | ⟨ho, ho2⟩
    · go_enter Tryz.func38, Tryz.ntmps38
      go_wp2
      go_ret
      exact ⟨rfl, bel_alloc (Below.refl _ _) _⟩
    · have ho3 : ¬ p < 0 := by omega
      go_enter Tryz.func38, Tryz.ntmps38
      go_wp2
      go_ret
      exact ⟨rfl, bel_alloc (Below.refl _ _) _⟩
  have HP0 : Hid (placeB p = true) := hp
  have hpp : ¬ p < 0 ∧ ¬ 512 ≤ p := by simp [placeB] at hp; omega
  obtain ⟨hp1, hp2⟩ := hpp
  clear hp
  go_enter Tryz.func38, Tryz.ntmps38
  go_wp2
  go_loop [20] (fun i => ∃ k : Nat, k ≤ 8 ∧ i = .int .i64 k ∧ ∀ j, j < k → wordB (nth r j) = true) (fun i => 8 - (intOf i).toNat)
  case atStart => exact ⟨0, Nat.zero_le _, rfl, fun j hj => absurd hj (Nat.not_lt_zero _)⟩
  case round =>
    obtain ⟨k, hk, rfl, hpre⟩ := hrel
    have HP : Hid (∀ j, j < k → wordB (nth r j) = true) := hpre
    clear hpre
    by_cases hlt : k < 8
    · have g := HC.out k hlt
      have hlt1 : (k : Int) < 8 := by omega
      obtain ⟨z, hz⟩ : ∃ z, nth r k = z := ⟨_, rfl⟩
      rw [hz] at g
      have HZ : Hid (nth r k = z) := hz
      clear hz
      by_cases hq : wordB z = true
      · have hq2 : ¬ z < 0 ∧ ¬ 65535 < z := by simp [wordB] at hq; omega
        obtain ⟨q1, q2⟩ := hq2
        have HQ : Hid (wordB z = true) := hq
        clear hq
        go_wp2
        refine ⟨⟨k + 1, by omega, by go_num, fun j hj => ?_⟩, by simp [intOf]; omega⟩
        by_cases e : j = k
        · rw [e, HZ.out]; exact HQ.out
        · exact HP.out j (by omega)
      · have hq' : wordB z = false := by simpa using hq
        have HD : Hid (chkH ⟨p, r, d⟩ = 2) := chkH_bad HN.out HP0.out hlt (by rw [HZ.out]; exact hq')
        have hq2 : z < 0 ∨ (¬ z < 0 ∧ 65535 < z) := by simp [wordB] at hq'; omega
        clear hq hq'
        rcases hq2 with q1 | ⟨q1, q2⟩
        all_goals
          go_wp2
          go_ret
          exact ⟨ret_int HD.out.symm, bel_alloc (Below.refl _ _) _⟩
    · have HD : Hid (chkH ⟨p, r, d⟩ = 0) := chkH_all HN.out HP0.out fun j hj => HP.out j (by omega)
      have hge : ¬ (k : Int) < 8 := by omega
      go_wp2
      go_ret
      exact ⟨ret_int HD.out.symm, bel_alloc (Below.refl _ _) _⟩
def zeroRegs : Array Value := madeCells #[.int .i64 0] 8
def zero8 : List Int := List.replicate 8 0
theorem zeroRegs_list : zeroRegs.toList = zero8.map (fun z => Value.int .i64 z) := by
  unfold zeroRegs zero8
  rw [toList_madeCells_one, List.map_replicate]
theorem make8 (w : World) : (Instr.makeSlice 22 (.int .i64 8) (.int .i64 8)).run Tryz.prog w = .ok (.slice (some ⟨w.heap.size, 0, none⟩) 8 8) (w.alloc (.cells zeroRegs 3)) := by
  obtain ⟨i, hi, hz, hs, hb⟩ := infoInt
  have h := run_make (P := Tryz.prog) w 22 3 i _ Tryz.underlying22 hi hz .i64 .i64 8 8 (by decide) (by decide) (by rw [hb]; decide) (by decide)
  rw [hs] at h
  exact h
def allE (zs : List Int) (h : Ht) (b : Br) : Int := if chk zs = 0 then (if chkH h = 0 then chkB b else chkH h) else chk zs
set_option maxHeartbeats 2000000 in
theorem hCheckAll_any (v : Value) (zs : List Int) (p : Int) (u : Value) (r : List Int) (d : Bool) (mo ba op oh ot fe fp fh ft : Int) (st lo : Bool) (vc : Value) (l : List Ln) (w : World) (hs : Sl w v zs) (hr : Sl w u r) (h : Ls w vc l) :
    Calls Tryz.prog 82 #[.agg #[v], .agg #[.int .i64 p, u, .bool d], .agg #[.int .i64 mo, .int .i64 ba, vc, .int .i64 op, .int .i64 oh, .int .i64 ot, .bool st, .int .i64 fe, .int .i64 fp, .int .i64 fh, .int .i64 ft, .bool lo]] w fun e w' => e = .returned (.int .i64 (allE zs ⟨p, r, d⟩ ⟨mo, ba, l, op, oh, ot, st, fe, fp, fh, ft, lo⟩)) ∧ Below w.heap.size w w' := by
  have HM : Hid (Sl w v zs) := hs
  have HR : Hid (Sl w u r) := hr
  have HL : Hid (Ls w vc l) := h
  obtain ⟨a1, n1, c1, rfl⟩ : ∃ a k c, v = .slice a k c := let ⟨a, c, e, _⟩ := hs; ⟨a, _, c, e⟩
  obtain ⟨a2, n2, c2, rfl⟩ : ∃ a k c, u = .slice a k c := let ⟨a, c, e, _⟩ := hr; ⟨a, _, c, e⟩
  obtain ⟨va, vk, rfl, -⟩ := h.shape
  obtain ⟨N, hN⟩ : ∃ N, N = l.length := ⟨_, rfl⟩
  rw [← hN] at HL ⊢
  clear hs hr h hN
  have HT : Hid (allE zs ⟨p, r, d⟩ ⟨mo, ba, l, op, oh, ot, st, fe, fp, fh, ft, lo⟩ = if chk zs = 0 then (if chkH ⟨p, r, d⟩ = 0 then chkB ⟨mo, ba, l, op, oh, ot, st, fe, fp, fh, ft, lo⟩ else chkH ⟨p, r, d⟩) else chk zs) := rfl
  have B3 : Hid (∀ A B C : Obj, Below w.heap.size w (((w.alloc A).alloc B).alloc C)) := fun A B C => bel_alloc (bel_alloc (bel_alloc (Below.refl _ _) A) B) C
  go_enter Tryz.func82, Tryz.ntmps82
  go_wp2_with fail
  refine (check_any _ zs _ (HM.out.keep (B3.out _ _ _))).mono ?_
  rintro e w1 ⟨rfl, b1⟩
  have X1 := ((Box.newAt (w := w.alloc (.cells #[.slice a1 n1 c1] 24)) (n := w.heap.size + 1) (by simp) 26 #[.int .i64 p, .slice a2 n2 c2, .bool d]).past _).keep b1
  have X2 := (Box.newAt (w := (w.alloc (.cells #[.slice a1 n1 c1] 24)).alloc (.cells #[.int .i64 p, .slice a2 n2 c2, .bool d] 26)) (n := w.heap.size + 1 + 1) (by simp) 31 #[.int .i64 mo, .int .i64 ba, .slice va N vk, .int .i64 op, .int .i64 oh, .int .i64 ot, .bool st, .int .i64 fe, .int .i64 fp, .int .i64 fh, .int .i64 ft, .bool lo]).keep b1
  have BB : Hid (Below w.heap.size w w1) := bel_trans (B3.out _ _ _) b1
  clear b1
  by_cases e1 : chk zs = 0
  rotate_left
  · obtain ⟨c, hc⟩ : ∃ c, chk zs = c := ⟨_, rfl⟩
    have HC : Hid (allE zs ⟨p, r, d⟩ ⟨mo, ba, l, op, oh, ot, st, fe, fp, fh, ft, lo⟩ = c) := by rw [hc] at e1; show _ = _; rw [HT.out, hc, if_neg e1]
    rw [hc] at e1 ⊢
    have q1 : (c != 0) = true := by simpa using e1
    clear e1 hc HT X1 X2
    go_wp2_with fail
    go_ret
    exact ⟨ret_int HC.out.symm, BB.out⟩
  rw [e1]
  have HT : Hid (allE zs ⟨p, r, d⟩ ⟨mo, ba, l, op, oh, ot, st, fe, fp, fh, ft, lo⟩ = if chkH ⟨p, r, d⟩ = 0 then chkB ⟨mo, ba, l, op, oh, ot, st, fe, fp, fh, ft, lo⟩ else chkH ⟨p, r, d⟩) := by show _ = _; rw [HT.out, if_pos e1]
  clear e1
  obtain ⟨i0, i1, i2, -, -, -, s1⟩ := X1.three
  go_wp2_with fail
  refine (hCheck_any p _ r d _ (HR.out.keep BB.out)).mono ?_
  rintro e w2 ⟨rfl, b2⟩
  have X2 := X2.keep b2
  have BC : Hid (Below w.heap.size w w2) := bel_trans BB.out b2
  clear b2 i0 i1 i2 s1 X1 BB
  by_cases e2 : chkH ⟨p, r, d⟩ = 0
  rotate_left
  · obtain ⟨c, hc⟩ : ∃ c, chkH ⟨p, r, d⟩ = c := ⟨_, rfl⟩
    have HC : Hid (allE zs ⟨p, r, d⟩ ⟨mo, ba, l, op, oh, ot, st, fe, fp, fh, ft, lo⟩ = c) := by rw [hc] at e2; show _ = _; rw [HT.out, hc, if_neg e2]
    rw [hc] at e2 ⊢
    have q1 : (c != 0) = true := by simpa using e2
    clear e2 hc HT X2
    go_wp2_with fail
    go_ret
    exact ⟨ret_int HC.out.symm, BC.out⟩
  rw [e2]
  have HT : Hid (allE zs ⟨p, r, d⟩ ⟨mo, ba, l, op, oh, ot, st, fe, fp, fh, ft, lo⟩ = chkB ⟨mo, ba, l, op, oh, ot, st, fe, fp, fh, ft, lo⟩) := by show _ = _; rw [HT.out, if_pos e2]
  clear e2
  obtain ⟨⟨d0, d1, d2, d3, d4, d5, d6, d7, d8, d9, d10, d11⟩, s2⟩ := X2.twelve
  go_wp2_with fail
  refine (bCheck_any mo ba op oh ot fe fp fh ft st lo _ l _ (HL.out.keep BC.out)).mono ?_
  rintro e w3 ⟨rfl, b3⟩
  go_wp2_with fail
  go_ret
  exact ⟨ret_int HT.out.symm, bel_trans BC.out b3⟩
end Go.Proofs.YtlgjllmecjkbjacGreat
/-
  Package hart: the state that an instruction works on, as one block of twenty-two cells; inWord, shifted, trouble.
-/
namespace Go.Proofs.YtlgjllmecjkbjacGreat
open Go.RowKit
theorem Box.marksAll {w : World} {n : Nat} {t : TypeId} {cs : Array Value} (h : Box w n t cs) : ∀ i, w.frozen? ⟨n, i, none⟩ = false := fun i => h.frozen i
theorem Box.state {w : World} {n : Nat} {t : TypeId} {vm vc : Value} {pc : Int} {rs : List Int} {mo ba op oh ot fe fp fh ft : Int} {st lo : Bool} (h : Box w n t #[vm, .int .i64 pc, .int .i64 (nth rs 0), .int .i64 (nth rs 1), .int .i64 (nth rs 2), .int .i64 (nth rs 3), .int .i64 (nth rs 4), .int .i64 (nth rs 5), .int .i64 (nth rs 6), .int .i64 (nth rs 7), .int .i64 mo, .int .i64 ba, vc, .int .i64 op, .int .i64 oh, .int .i64 ot, .bool st, .int .i64 fe, .int .i64 fp, .int .i64 fh, .int .i64 ft, .bool lo]) :
    (w.cell? ⟨n, 0, none⟩ = some vm ∧ w.cell? ⟨n, 1, none⟩ = some (.int .i64 pc) ∧ w.cell? ⟨n, 2, none⟩ = some (.int .i64 (nth rs 0)) ∧ w.cell? ⟨n, 3, none⟩ = some (.int .i64 (nth rs 1)) ∧ w.cell? ⟨n, 4, none⟩ = some (.int .i64 (nth rs 2)) ∧ w.cell? ⟨n, 5, none⟩ = some (.int .i64 (nth rs 3)) ∧ w.cell? ⟨n, 6, none⟩ = some (.int .i64 (nth rs 4)) ∧ w.cell? ⟨n, 7, none⟩ = some (.int .i64 (nth rs 5)) ∧ w.cell? ⟨n, 8, none⟩ = some (.int .i64 (nth rs 6)) ∧ w.cell? ⟨n, 9, none⟩ = some (.int .i64 (nth rs 7))) ∧
    (w.cell? ⟨n, 10, none⟩ = some (.int .i64 mo) ∧ w.cell? ⟨n, 11, none⟩ = some (.int .i64 ba) ∧ w.cell? ⟨n, 12, none⟩ = some vc ∧ w.cell? ⟨n, 13, none⟩ = some (.int .i64 op) ∧ w.cell? ⟨n, 14, none⟩ = some (.int .i64 oh) ∧ w.cell? ⟨n, 15, none⟩ = some (.int .i64 ot) ∧ w.cell? ⟨n, 16, none⟩ = some (.bool st) ∧ w.cell? ⟨n, 17, none⟩ = some (.int .i64 fe) ∧ w.cell? ⟨n, 18, none⟩ = some (.int .i64 fp) ∧ w.cell? ⟨n, 19, none⟩ = some (.int .i64 fh) ∧ w.cell? ⟨n, 20, none⟩ = some (.int .i64 ft) ∧ w.cell? ⟨n, 21, none⟩ = some (.bool lo)) ∧ n < w.heap.size :=
  ⟨⟨h.cell 0, h.cell 1, h.cell 2, h.cell 3, h.cell 4, h.cell 5, h.cell 6, h.cell 7, h.cell 8, h.cell 9⟩, ⟨h.cell 10, h.cell 11, h.cell 12, h.cell 13, h.cell 14, h.cell 15, h.cell 16, h.cell 17, h.cell 18, h.cell 19, h.cell 20, h.cell 21⟩, h.lt⟩
theorem Box.state0 {w : World} {n : Nat} {t : TypeId} {a0 a1 a2 a3 a4 a5 a6 a7 a8 a9 a10 a11 a12 a13 a14 a15 a16 a17 a18 a19 a20 a21 : Value} (h : Box w n t #[a0, a1, a2, a3, a4, a5, a6, a7, a8, a9, a10, a11, a12, a13, a14, a15, a16, a17, a18, a19, a20, a21]) :
    (w.cell? ⟨n, 0, none⟩ = some a0 ∧ w.cell? ⟨n, 1, none⟩ = some a1 ∧ w.cell? ⟨n, 2, none⟩ = some a2 ∧ w.cell? ⟨n, 3, none⟩ = some a3 ∧ w.cell? ⟨n, 4, none⟩ = some a4 ∧ w.cell? ⟨n, 5, none⟩ = some a5 ∧ w.cell? ⟨n, 6, none⟩ = some a6 ∧ w.cell? ⟨n, 7, none⟩ = some a7 ∧ w.cell? ⟨n, 8, none⟩ = some a8 ∧ w.cell? ⟨n, 9, none⟩ = some a9) ∧
    (w.cell? ⟨n, 10, none⟩ = some a10 ∧ w.cell? ⟨n, 11, none⟩ = some a11 ∧ w.cell? ⟨n, 12, none⟩ = some a12 ∧ w.cell? ⟨n, 13, none⟩ = some a13 ∧ w.cell? ⟨n, 14, none⟩ = some a14 ∧ w.cell? ⟨n, 15, none⟩ = some a15 ∧ w.cell? ⟨n, 16, none⟩ = some a16 ∧ w.cell? ⟨n, 17, none⟩ = some a17 ∧ w.cell? ⟨n, 18, none⟩ = some a18 ∧ w.cell? ⟨n, 19, none⟩ = some a19 ∧ w.cell? ⟨n, 20, none⟩ = some a20 ∧ w.cell? ⟨n, 21, none⟩ = some a21) ∧ n < w.heap.size :=
  ⟨⟨h.cell 0, h.cell 1, h.cell 2, h.cell 3, h.cell 4, h.cell 5, h.cell 6, h.cell 7, h.cell 8, h.cell 9⟩, ⟨h.cell 10, h.cell 11, h.cell 12, h.cell 13, h.cell 14, h.cell 15, h.cell 16, h.cell 17, h.cell 18, h.cell 19, h.cell 20, h.cell 21⟩, h.lt⟩
theorem Box.reg {w : World} {n : Nat} {t : TypeId} {vm vc : Value} {pc : Int} {rs : List Int} {mo ba op oh ot fe fp fh ft : Int} {st lo : Bool} (h : Box w n t #[vm, .int .i64 pc, .int .i64 (nth rs 0), .int .i64 (nth rs 1), .int .i64 (nth rs 2), .int .i64 (nth rs 3), .int .i64 (nth rs 4), .int .i64 (nth rs 5), .int .i64 (nth rs 6), .int .i64 (nth rs 7), .int .i64 mo, .int .i64 ba, vc, .int .i64 op, .int .i64 oh, .int .i64 ot, .bool st, .int .i64 fe, .int .i64 fp, .int .i64 fh, .int .i64 ft, .bool lo]) {i : Nat} (hi : i < 8) : w.cell? ⟨n, 2 + i, none⟩ = some (.int .i64 (nth rs i)) := by
  have := h.cell (2 + i)
  rw [this]
  have e : i = 0 ∨ i = 1 ∨ i = 2 ∨ i = 3 ∨ i = 4 ∨ i = 5 ∨ i = 6 ∨ i = 7 := by omega
  rcases e with rfl | rfl | rfl | rfl | rfl | rfl | rfl | rfl <;> rfl
theorem nth_ne {l : List Int} {i j : Nat} (h : ¬ i = j) (z : Int) : nth l j = nth (l.set i z) j := (nth_set_ne h z).symm
theorem Box.setReg {w : World} {n : Nat} {t : TypeId} {vm vc : Value} {pc : Int} {rs : List Int} {mo ba op oh ot fe fp fh ft : Int} {st lo : Bool} (h : Box w n t #[vm, .int .i64 pc, .int .i64 (nth rs 0), .int .i64 (nth rs 1), .int .i64 (nth rs 2), .int .i64 (nth rs 3), .int .i64 (nth rs 4), .int .i64 (nth rs 5), .int .i64 (nth rs 6), .int .i64 (nth rs 7), .int .i64 mo, .int .i64 ba, vc, .int .i64 op, .int .i64 oh, .int .i64 ot, .bool st, .int .i64 fe, .int .i64 fp, .int .i64 fh, .int .i64 ft, .bool lo]) {i : Nat} (hi : i < 8) (h8 : rs.length = 8) (z : Int) :
    Box (w.setCell ⟨n, 2 + i, none⟩ (.int .i64 z)) n t #[vm, .int .i64 pc, .int .i64 (nth (rs.set i z) 0), .int .i64 (nth (rs.set i z) 1), .int .i64 (nth (rs.set i z) 2), .int .i64 (nth (rs.set i z) 3), .int .i64 (nth (rs.set i z) 4), .int .i64 (nth (rs.set i z) 5), .int .i64 (nth (rs.set i z) 6), .int .i64 (nth (rs.set i z) 7), .int .i64 mo, .int .i64 ba, vc, .int .i64 op, .int .i64 oh, .int .i64 ot, .bool st, .int .i64 fe, .int .i64 fp, .int .i64 fh, .int .i64 ft, .bool lo] := by
  have := h.set (2 + i) (.int .i64 z)
  have e : i = 0 ∨ i = 1 ∨ i = 2 ∨ i = 3 ∨ i = 4 ∨ i = 5 ∨ i = 6 ∨ i = 7 := by omega
  have hz := nth_set_eq (l := rs) (i := i) (by omega) z
  rcases e with rfl | rfl | rfl | rfl | rfl | rfl | rfl | rfl
  · rw [nth_ne (show ¬ 0 = 1 by decide) z, nth_ne (show ¬ 0 = 2 by decide) z, nth_ne (show ¬ 0 = 3 by decide) z, nth_ne (show ¬ 0 = 4 by decide) z, nth_ne (show ¬ 0 = 5 by decide) z, nth_ne (show ¬ 0 = 6 by decide) z, nth_ne (show ¬ 0 = 7 by decide) z] at this
    rw [hz]; exact this
  · rw [nth_ne (show ¬ 1 = 0 by decide) z, nth_ne (show ¬ 1 = 2 by decide) z, nth_ne (show ¬ 1 = 3 by decide) z, nth_ne (show ¬ 1 = 4 by decide) z, nth_ne (show ¬ 1 = 5 by decide) z, nth_ne (show ¬ 1 = 6 by decide) z, nth_ne (show ¬ 1 = 7 by decide) z] at this
    rw [hz]; exact this
  · rw [nth_ne (show ¬ 2 = 0 by decide) z, nth_ne (show ¬ 2 = 1 by decide) z, nth_ne (show ¬ 2 = 3 by decide) z, nth_ne (show ¬ 2 = 4 by decide) z, nth_ne (show ¬ 2 = 5 by decide) z, nth_ne (show ¬ 2 = 6 by decide) z, nth_ne (show ¬ 2 = 7 by decide) z] at this
    rw [hz]; exact this
  · rw [nth_ne (show ¬ 3 = 0 by decide) z, nth_ne (show ¬ 3 = 1 by decide) z, nth_ne (show ¬ 3 = 2 by decide) z, nth_ne (show ¬ 3 = 4 by decide) z, nth_ne (show ¬ 3 = 5 by decide) z, nth_ne (show ¬ 3 = 6 by decide) z, nth_ne (show ¬ 3 = 7 by decide) z] at this
    rw [hz]; exact this
  · rw [nth_ne (show ¬ 4 = 0 by decide) z, nth_ne (show ¬ 4 = 1 by decide) z, nth_ne (show ¬ 4 = 2 by decide) z, nth_ne (show ¬ 4 = 3 by decide) z, nth_ne (show ¬ 4 = 5 by decide) z, nth_ne (show ¬ 4 = 6 by decide) z, nth_ne (show ¬ 4 = 7 by decide) z] at this
    rw [hz]; exact this
  · rw [nth_ne (show ¬ 5 = 0 by decide) z, nth_ne (show ¬ 5 = 1 by decide) z, nth_ne (show ¬ 5 = 2 by decide) z, nth_ne (show ¬ 5 = 3 by decide) z, nth_ne (show ¬ 5 = 4 by decide) z, nth_ne (show ¬ 5 = 6 by decide) z, nth_ne (show ¬ 5 = 7 by decide) z] at this
    rw [hz]; exact this
  · rw [nth_ne (show ¬ 6 = 0 by decide) z, nth_ne (show ¬ 6 = 1 by decide) z, nth_ne (show ¬ 6 = 2 by decide) z, nth_ne (show ¬ 6 = 3 by decide) z, nth_ne (show ¬ 6 = 4 by decide) z, nth_ne (show ¬ 6 = 5 by decide) z, nth_ne (show ¬ 6 = 7 by decide) z] at this
    rw [hz]; exact this
  · rw [nth_ne (show ¬ 7 = 0 by decide) z, nth_ne (show ¬ 7 = 1 by decide) z, nth_ne (show ¬ 7 = 2 by decide) z, nth_ne (show ¬ 7 = 3 by decide) z, nth_ne (show ¬ 7 = 4 by decide) z, nth_ne (show ¬ 7 = 5 by decide) z, nth_ne (show ¬ 7 = 6 by decide) z] at this
    rw [hz]; exact this
theorem infoState : (Tryz.prog.info? 135).map (·.size) = some 22 := by kernel_rfl
theorem Box.setRow {w : World} {n : Nat} {t : TypeId} {cs : Array Value} (h : Box w n t cs) (new : Array Value) : Box (w.setRow n new) n t new := setRow_heap w n cs new t _ h
theorem Box.otherRow {w : World} {n m : Nat} {t : TypeId} {cs : Array Value} (h : Box w n t cs) (hp : n ≠ m) (new : Array Value) : Box (w.setRow m new) n t cs := (setRow_other w m n new hp).trans h
theorem bel_setRow {a w : World} {n : Nat} (hp : a.heap.size ≤ n) (h : Below a.heap.size a w) (new : Array Value) : Below a.heap.size a (w.setRow n new) :=
  ⟨h.os, h.tape, h.output, by simpa [World.setRow] using h.size, fun k hk => (setRow_other w n k new (by omega)).trans (h.block k hk)⟩
theorem Box.loadState {w : World} {n : Nat} {t : TypeId} {cs : Array Value} (h : Box w n t cs) (hs : cs.size = 22) : (loadVar 135 ⟨n, 0, none⟩).run Tryz.prog w = .ok (.agg cs) w :=
  run_loadVar_row w n t 135 cs (0, 0) _ h Tryz.underlying135 rfl (by rw [infoState, hs])
theorem stateOne (am : Option Addr) (nm cm : Nat) (pc r0 r1 r2 r3 r4 r5 r6 r7 mo ba op oh ot fe fp fh ft : Int) (st lo : Bool) (ca : Option Addr) (ck cc : Nat) : Array.all (α := Value) #[.slice am nm cm, .int .i64 pc, .int .i64 r0, .int .i64 r1, .int .i64 r2, .int .i64 r3, .int .i64 r4, .int .i64 r5, .int .i64 r6, .int .i64 r7, .int .i64 mo, .int .i64 ba, .slice ca ck cc, .int .i64 op, .int .i64 oh, .int .i64 ot, .bool st, .int .i64 fe, .int .i64 fp, .int .i64 fh, .int .i64 ft, .bool lo] (·.oneCell') = true := by simp [Value.oneCell']
theorem Sl.otherRow {w : World} {v : Value} {zs : List Int} (h : Sl w v zs) {m : Nat} (hp : v.ownBlock ≠ some m) (new : Array Value) : Sl (w.setRow m new) v zs := by
  obtain ⟨a, cap, rfl, hl, h⟩ := h
  refine ⟨a, cap, rfl, hl, ?_⟩
  rcases h with h | ⟨b, o, rfl, hlt, hc⟩
  · exact .inl h
  · refine .inr ⟨b, o, rfl, by simpa [World.setRow] using hlt, fun i hi => ?_⟩
    have hb : b ≠ m := fun e => hp (by simp [Value.ownBlock, e])
    rw [World.cell?_of_block (a := ⟨b, o + i, none⟩) (setRow_other w m b new hb)]
    exact hc i hi
theorem inWord_any (z : Int) (w : World) (h0 : 0 ≤ z) :
    Calls Tryz.prog 140 #[.int .i64 z] w fun e w' => e = .returned (.int .i64 (z % 65536)) ∧ w' = w := by
  go_enter Tryz.func140, Tryz.ntmps140
  go_wp2
  go_ret
  exact ⟨rfl, rfl⟩
set_option maxHeartbeats 1000000 in
theorem shifted_any (v i : Int) (w : World) (hv : 0 ≤ v ∧ v ≤ 65535) (hi : 0 ≤ i ∧ i ≤ 63) :
    Calls Tryz.prog 141 #[.int .i64 v, .int .i64 i] w fun e w' => e = .returned (.int .i64 (v * 2 ^ i.toNat % 65536)) ∧ w' = w := by
  have HV : Hid (0 ≤ v ∧ v ≤ 65535) := hv
  obtain ⟨hi0, hi1⟩ := hi
  clear hv
  go_enter Tryz.func141, Tryz.ntmps141
  go_wp2
  go_loop [0, 6] (fun s c => ∃ k : Nat, (k : Int) ≤ i ∧ c = .int .i64 k ∧ s = .int .i64 (shl v k)) (fun _ c => 64 - (intOf c).toNat)
  case atStart => exact ⟨0, by omega, rfl, rfl⟩
  case round =>
    obtain ⟨k, hk, rfl, rfl⟩ := hrel
    by_cases hlt : (k : Int) < i
    · obtain ⟨s, hs⟩ : ∃ s, shl v k = s := ⟨_, rfl⟩
      have hsb := shl_in HV.out k
      have HS : Hid (shl v (k + 1) = s * 2 % 65536) := by show _ = _; rw [shl, hs]
      rw [hs] at hsb ⊢
      obtain ⟨s0, s1⟩ := hsb
      clear hs
      go_wp2_with (go_at_call 140; refine (inWord_any _ _ (by omega)).mono ?_; rintro e w' ⟨rfl, rfl⟩)
      refine ⟨⟨k + 1, by omega, by go_num, by rw [HS.out]⟩, by simp [intOf]; omega⟩
    · have hn : k = i.toNat := by omega
      have HS : Hid (shl v k = v * 2 ^ i.toNat % 65536) := by show _ = _; rw [shl_pow HV.out, hn]
      clear hn
      go_wp2
      go_ret
      exact ⟨ret_int HS.out, rfl⟩
theorem trouble_any (mo ba op oh ot fe fp fh ft : Int) (st lo : Bool) (vc : Value) (l : List Ln) (w : World) (hc : ∃ a k c, vc = .slice a k c) :
    Calls Tryz.prog 165 #[.agg #[.int .i64 mo, .int .i64 ba, vc, .int .i64 op, .int .i64 oh, .int .i64 ot, .bool st, .int .i64 fe, .int .i64 fp, .int .i64 fh, .int .i64 ft, .bool lo]] w fun e w' => e = .returned (.int .i64 (stB ⟨mo, ba, l, op, oh, ot, st, fe, fp, fh, ft, lo⟩)) ∧ ∃ o, w' = w.alloc o := by
  obtain ⟨ca, ck, cc, rfl⟩ := hc
  cases st <;> cases lo
  all_goals
    go_enter Tryz.func165, Tryz.ntmps165
    go_wp2
    go_ret
    exact ⟨rfl, _, rfl⟩
end Go.Proofs.YtlgjllmecjkbjacGreat
/-
  A drawn region whose last operation writes a cell that the region reads: what holds of the world is asked for behind every operation but that one, which waits for all that is taken first.
-/
namespace Go.Proofs.YtlgjllmecjkbjacGreat
open Go Go.RowKit
section
variable {P : Program} {ops : Array Oper} {Q : Exit → Act → World → Prop} {md : Region.Mode} {S : World → Prop} {z : Nat}
def wpUpto (P : Program) (md : Region.Mode) (ops : Array Oper) (Q : Exit → Act → World → Prop) (S : World → Prop) (z : Nat) : Nat → Array Bool → Act → World → Prop
  | 0, listed, a, w => Region.ready md ops listed = [] ∧ Q .normal a w
  | n + 1, listed, a, w => (Region.ready md ops listed = [] → Q .normal a w) ∧
      ∀ i ∈ Region.ready md ops listed, wpOp P ops Q i (fun a' w' => (i ≠ z → S w') ∧ wpUpto P md ops Q S z n (listed.setIfInBounds i true) a' w') a w
theorem wpAny_of_upto : ∀ (n : Nat) (listed : Array Bool) (a : Act) (w : World), wpUpto P md ops Q S z n listed a w → wpAny P md ops Q n listed a w
  | 0, _, _, _, h => h
  | n + 1, _, _, _, h => ⟨h.1, fun i hi => wpOp_mono (fun a' w' h' => wpAny_of_upto n _ a' w' h'.2) (h.2 i hi)⟩
def waits (md : Region.Mode) (ops : Array Oper) (z i : Nat) : Bool := match ops[z]? with
  | some o => o.after.any (fun e => Region.binds md e && e.on == i)
  | none => true
theorem waits_spec {i : Nat} (h : waits md ops z i = true) {listed : Array Bool} (hz : z ∈ Region.ready md ops listed) : listed.getD i false = true := by
  obtain ⟨_, o, ho, hall⟩ := mem_ready.1 hz
  unfold waits at h
  rw [ho] at h
  simp only [Array.any_eq_true] at h
  obtain ⟨j, hj, he⟩ := h
  rw [Bool.and_eq_true, beq_iff_eq] at he
  have := hall _ (Array.getElem_mem hj) he.1
  rw [he.2] at this
  exact this
theorem wpUpto_first {i : Nat} {oi : Oper} {v : Value} (hi : ops[i]? = some oi) (hsel : ∀ (j : Nat) (o : Oper) cs b, ops[j]? = some o → o.op ≠ .select cs b) (hwt : waits md ops z i = true)
    (hQ : ∀ c a w, Q (.panic c) (a.put oi.dst v) w → Q (.panic c) a w) :
    ∀ (n : Nat) (listed : Array Bool) (a : Act) (w : World),
      (∀ j oj, ops[j]? = some oj → j ≠ i → listed.getD j true = false → (∀ e ∈ oj.after, Region.binds md e = true → e.on ≠ i) → oi.apart ops oj = true) →
      i ∈ Region.ready md ops listed → YieldsIf P ops S oi v a → S w →
      wpUpto P md ops Q S z n (listed.setIfInBounds i true) (a.put oi.dst v) w → wpUpto P md ops Q S z (n + 1) listed a w := by
  intro n
  induction n with
  | zero =>
    intro listed a w _ hr hy hS H
    refine ⟨fun h => (by rw [h] at hr; cases hr), fun j hj => ?_⟩
    by_cases e : j = i
    · subst e; exact hy.wpOp hi hS ⟨fun _ => hS, H⟩
    · have := ready_mono hj e
      rw [H.1] at this
      cases this
  | succ n ih =>
    intro listed a w hfree hr hy hS H
    refine ⟨fun h => (by rw [h] at hr; cases hr), fun j hj => ?_⟩
    by_cases e : j = i
    · subst e; exact hy.wpOp hi hS ⟨fun _ => hS, H⟩
    · have hun : listed.getD i true = false := (mem_ready.1 hr).1
      have hjz : j ≠ z := by
        rintro rfl
        have h1 := waits_spec hwt hj
        rcases Nat.lt_or_ge i listed.size with h' | h'
        · simp [h'] at hun h1; rw [hun] at h1; cases h1
        · simp [Array.getElem?_eq_none h'] at h1
      obtain ⟨hjun, oj, hoj, hall⟩ := mem_ready.1 hj
      have hnot : ∀ e ∈ oj.after, Region.binds md e = true → e.on ≠ i := fun e he hb heq => by
        have h1 := hall e he hb
        rw [heq] at h1
        rcases Nat.lt_or_ge i listed.size with h' | h'
        · simp [h'] at hun h1; rw [hun] at h1; cases h1
        · simp [Array.getElem?_eq_none h'] at h1
      have h2 := wpOp_putIf hoj (hfree j oj hoj e hjun hnot) (fun cs b => hsel i oi cs b hi) (fun cs b => hsel j oj cs b hoj) hQ hy (H.2 j (ready_mono hj e))
      refine wpOp_mono (fun a' w' h3 => ⟨fun _ => h3.2.1 hjz, ih (listed.setIfInBounds j true) a' w' (fun q oq hq hqi hqu hno => ?_) (ready_mono hr (Ne.symm e)) h3.1 (h3.2.1 hjz) ?_⟩) h2
      · refine hfree q oq hq hqi ?_ hno
        by_cases hjq : j = q
        · subst hjq; exact hjun
        · rw [getD_set_ne true hjq] at hqu; exact hqu
      · rw [Array.setIfInBounds_comm _ _ e]
        exact h3.2.2
theorem wpUpto_take {i : Nat} {oi : Oper} {v : Value} {n : Nat} {listed : Array Bool} {a : Act} {w : World} (hi : ops[i]? = some oi)
    (hs : Region.noSelect ops = true) (hf : Region.free md ops listed i = true) (hr : (Region.ready md ops listed).contains i = true) (hwt : waits md ops z i = true)
    (hQ : ∀ c a w, Q (.panic c) (a.put oi.dst v) w → Q (.panic c) a w) (hy : YieldsIf P ops S oi v a) (hS : S w)
    (h : wpUpto P md ops Q S z n (listed.setIfInBounds i true) (a.put oi.dst v) w) : wpUpto P md ops Q S z (n + 1) listed a w :=
  wpUpto_first hi (Region.noSelect_spec hs) hwt hQ n listed a w (Region.free_spec hi hf) (by simpa using hr) hy hS h
theorem wpUpto_one {i : Nat} {o : Oper} {n : Nat} {listed : Array Bool} {a : Act} {w : World} (hr : Region.ready md ops listed = [i]) (ho : ops[i]? = some o)
    (h : ∀ K' : Act → World → Prop, Shut (∀ a w, (i ≠ z → S w) → wpUpto P md ops Q S z n (listed.setIfInBounds i true) a w → K' a w) → if Region.wanted o (yielded ops a.tmps) = true then Oper.wp P o a w K' Q else K' (a.put o.dst undef) w) :
    wpUpto P md ops Q S z (n + 1) listed a w := by
  refine ⟨fun h0 => absurd (hr ▸ h0) (by simp), fun j hj => ?_⟩
  rw [hr, List.mem_singleton] at hj
  subst hj
  exact wpOp_step ho (fun K' hK => h K' (fun a w h1 h2 => hK a w ⟨h1, h2⟩))
theorem wpUpto_done {listed : Array Bool} {a : Act} {w : World} (hr : Region.ready md ops listed = []) (h : Q .normal a w) : ∀ n, wpUpto P md ops Q S z n listed a w
  | 0 => ⟨hr, h⟩
  | _ + 1 => ⟨fun _ => h, fun i hi => by rw [hr] at hi; cases hi⟩
theorem wp_region_upto {id : Nat} {a : Act} {w : World} (hm : P.follows .mixedOrders = true) (z : Nat) (S : World → Prop) (hS : S w.drew)
    (h : S w.drew → wpUpto P .any ops Q S z ops.size (Array.replicate ops.size false) a w.drew) : (Code.region id ops true).wp P Q a w :=
  wp_region_any hm (wpAny_of_upto _ _ _ _ (h hS))
def opL : List Oper → Nat → Option Oper
  | [], _ => none
  | o :: _, 0 => some o
  | _ :: l, n + 1 => opL l n
theorem opL_at : ∀ (l : List Oper) (i : Nat), opL l i = l[i]?
  | [], _ => rfl
  | _ :: _, 0 => rfl
  | _ :: l, n + 1 => by rw [opL, opL_at l n, List.getElem?_cons_succ]
theorem opL_spec {i : Nat} {o : Oper} (h : opL ops.toList i = some o) : ops[i]? = some o := by rw [← Array.getElem?_toList, ← opL_at]; exact h
theorem wpUpto_takeL {i : Nat} {oi : Oper} {v : Value} {n : Nat} {listed : Array Bool} {a : Act} {w : World} (hi : opL ops.toList i = some oi)
    (hs : Region.noSelect ops = true) (hf : Region.free md ops listed i = true) (hr : (Region.ready md ops listed).contains i = true) (hwt : waits md ops z i = true)
    (hQ : ∀ c a w, Q (.panic c) (a.put oi.dst v) w → Q (.panic c) a w) (hy : YieldsIf P ops S oi v a) (hS : S w)
    (h : wpUpto P md ops Q S z n (listed.setIfInBounds i true) (a.put oi.dst v) w) : wpUpto P md ops Q S z (n + 1) listed a w := wpUpto_take (opL_spec hi) hs hf hr hwt hQ hy hS h
theorem wpUpto_oneL {i : Nat} {o : Oper} {n : Nat} {listed : Array Bool} {a : Act} {w : World} (hr : Region.ready md ops listed = [i]) (ho : opL ops.toList i = some o)
    (h : ∀ K' : Act → World → Prop, Shut (∀ a w, (i ≠ z → S w) → wpUpto P md ops Q S z n (listed.setIfInBounds i true) a w → K' a w) → if Region.wanted o (yielded ops a.tmps) = true then Oper.wp P o a w K' Q else K' (a.put o.dst undef) w) :
    wpUpto P md ops Q S z (n + 1) listed a w := wpUpto_one hr (opL_spec ho) h
theorem wpHeld_takeL {i : Nat} {oi : Oper} {v : Value} {n : Nat} {listed : Array Bool} {a : Act} {w : World} (hi : opL ops.toList i = some oi)
    (hs : Region.noSelect ops = true) (hf : Region.free md ops listed i = true) (hr : (Region.ready md ops listed).contains i = true)
    (hQ : ∀ c a w, Q (.panic c) (a.put oi.dst v) w → Q (.panic c) a w) (hy : YieldsIf P ops S oi v a) (hS : S w)
    (h : wpAnyH P md ops Q S n (listed.setIfInBounds i true) (a.put oi.dst v) w) : wpAnyH P md ops Q S (n + 1) listed a w := wpAnyH_take (opL_spec hi) hs hf hr hQ hy hS h
theorem wpHeld_oneL {i : Nat} {o : Oper} {n : Nat} {listed : Array Bool} {a : Act} {w : World} (hr : Region.ready md ops listed = [i]) (ho : opL ops.toList i = some o)
    (h : ∀ K' : Act → World → Prop, Shut (∀ a w, S w → (S w → wpAnyH P md ops Q S n (listed.setIfInBounds i true) a w) → K' a w) → if Region.wanted o (yielded ops a.tmps) = true then Oper.wp P o a w K' Q else K' (a.put o.dst undef) w) :
    wpAnyH P md ops Q S (n + 1) listed a w := wpAnyH_ready hr (by simp) (AllReadyH.cons (opL_spec ho) h AllReadyH.nil)
end
end Go.Proofs.YtlgjllmecjkbjacGreat
