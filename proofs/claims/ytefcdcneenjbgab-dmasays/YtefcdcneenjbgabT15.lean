/-
  Laid together: Ring5, ToldR, CloneI.
-/
import Derived.Test.YtefcdcneenjbgabT14
/-
  drawbridgeref's Pushed: what it answers; nothing that was there turns.
-/
namespace Go.Proofs.Ytefcdcneenjbgab
open Go.RowKit

theorem belN_alloc {N : Nat} {a w : World} (hN : N ≤ a.heap.size) (h : Below N a w) (o : Obj) : Below N a (w.alloc o) := h.alloc (Nat.le_trans hN h.size) o
theorem belN_set {N : Nat} {a w : World} {p : Addr} (hp : N ≤ p.block) (h : Below N a w) (u : Value) : Below N a (w.setCell p u) := h.setCell hp u
theorem belN_trans {N : Nat} {a b c : World} (k : Below b.heap.size b c) (hN : N ≤ a.heap.size) (h : Below N a b) : Below N a c := h.trans (k.mono (Nat.le_trans hN h.size))
/-- Four cells that are read, and nothing below so many blocks that has turned. -/
theorem keepN {W w' : World} {m n N : Nat} {v u0 u1 u2 : Value} (hv : W.cell? ⟨m, 0, none⟩ = some v) (h0 : W.cell? ⟨n, 0, none⟩ = some u0) (h1 : W.cell? ⟨n, 1, none⟩ = some u1) (h2 : W.cell? ⟨n, 2, none⟩ = some u2) (hm : m < N) (hn : n < N) (hb : Below N W w') :
    w'.cell? ⟨m, 0, none⟩ = some v ∧ w'.cell? ⟨n, 0, none⟩ = some u0 ∧ w'.cell? ⟨n, 1, none⟩ = some u1 ∧ w'.cell? ⟨n, 2, none⟩ = some u2 ∧ Below N W w' :=
  ⟨(hb.cell (p := ⟨m, 0, none⟩) hm).trans hv, (hb.cell (p := ⟨n, 0, none⟩) hn).trans h0, (hb.cell (p := ⟨n, 1, none⟩) hn).trans h1, (hb.cell (p := ⟨n, 2, none⟩) hn).trans h2, hb⟩

theorem wrapR (n : Int) (h0 : 0 ≤ n) (h1 : n < 2 ^ 63) : IntKind.i64.wrap n = n := by rw [IntKind.wrap_i64]; omega
theorem wrap_place {p t : Int} (p0 : 0 ≤ p) (p1 : p < 64) (t0 : 0 ≤ t) (t1 : t < 8) : IntKind.i64.wrap (IntKind.i64.wrap (p * 8) + t) = p * 8 + t := by
  rw [wrapR (p * 8) (by omega) (by omega), wrapR _ (by omega) (by omega)]
theorem wrap_next {t : Int} (t0 : 0 ≤ t) (t1 : t < 8) : (IntKind.i64.wrap (t + 1)).tmod 8 = (t + 1) % 8 := by
  rw [wrapR _ (by omega) (by omega), Int.tmod_eq_emod_of_nonneg (by omega)]

set_option maxHeartbeats 1000000 in
theorem pushed_any (v : Value) (zs : List Int) (p h t x : Int) (w : World) (hs : Sl w v zs) :
    Calls Try.prog 76 #[.agg #[v], .agg #[.int .i64 p, .int .i64 h, .int .i64 t], .int .i64 x] w fun e w' =>
      (∃ v' p' h' t', e = .returned (.tuple #[.agg #[v'], .agg #[.int .i64 p', .int .i64 h', .int .i64 t'], .int .i64 (psE zs p h t x)]) ∧ Sl w' v' (psM zs p h t x) ∧ Fresh w.heap.size v' ∧ psR zs p h t x = (p', h', t')) ∧ Below w.heap.size w w' := by
  obtain ⟨a0, c0, rfl⟩ := hs.shape
  go_enter Try.func76, Try.ntmps76
  go_wp2_with fail
  refine (checkMem_any _ zs _ (hs.keep (bel_alloc (bel_alloc (bel_alloc (bel_alloc (Below.refl _ _) _) _) _) _))).mono ?_
  rintro e w1 ⟨rfl, b1⟩
  have X0 := (((Box.newAt (n := w.heap.size) (by simp) 39 #[.slice a0 zs.length c0]).past (.cells #[.int .i64 p, .int .i64 h, .int .i64 t] 42)).past (.cells #[.slice none 0 0] 39)).past (.cells #[.int .i64 0, .int .i64 0, .int .i64 0] 42) |>.keep b1
  have X1 := ((Box.newAt (w := w.alloc (.cells #[.slice a0 zs.length c0] 39)) (n := w.heap.size + 1) (by simp) 42 #[.int .i64 p, .int .i64 h, .int .i64 t]).past _).past _ |>.keep b1
  have X2 := (Box.newAt (n := w.heap.size + 1 + 1) (by simp) 39 #[.slice none 0 0]).past _ |>.keep b1
  have X3 := (Box.newAt (n := w.heap.size + 1 + 1 + 1) (by simp) 42 #[.int .i64 0, .int .i64 0, .int .i64 0]) |>.keep b1
  have B1 : Hid (Below w.heap.size w w1) := bel_trans (bel_alloc (bel_alloc (bel_alloc (bel_alloc (Below.refl _ _) _) _) _) _) b1
  clear b1
  obtain ⟨q0, -, s0⟩ := X0.one
  obtain ⟨q1, q2, q3, z1, z2, z3, s1⟩ := X1.three
  obtain ⟨y0, y1, s2⟩ := X2.one
  obtain ⟨u0, u1, u2, g0, g1, g2, s3⟩ := X3.three
  by_cases hz : chk zs = 0
  rotate_left
  · have hq : (chk zs != 0) = true := by simpa using hz
    have hq2 : (chk zs == 0) = false := by simpa using hz
    have hk : ¬ bothR zs p h t = 0 := fun k => hz (bothR_ok k).1
    have hkk : bothR zs p h t = chk zs := if_neg hz
    have HE : Hid (psE zs p h t x = chk zs) := by show _ = _; rw [psE, if_neg hk, hkk]
    have HF : Hid (psM zs p h t x = []) := if_neg (by rw [HE.out]; exact hz)
    have HG : Hid (psR zs p h t x = (0, 0, 0)) := if_neg (by rw [HE.out]; exact hz)
    clear hk hkk
    go_wp2
    refine bodyPost_ret (v := .tuple #[.agg #[.slice none 0 0], .agg #[.int .i64 0, .int .i64 0, .int .i64 0], .int .i64 (chk zs)]) (by simp [results, Try.results76, go_sem, *]) rfl ⟨⟨_, _, _, _, by rw [HE.out], by rw [HF.out]; exact Sl.nil _ _ _, Fresh.none _ _ _, HG.out⟩, ?_⟩
    exact bel_set3 (by omega) (bel_set1 (by omega) B1.out _) _ _ _
  rw [hz]
  go_wp2_with fail
  refine (checkRing_any p h t _).mono ?_
  rintro e w2 ⟨rfl, rfl⟩
  by_cases hr : chkR p h t = 0
  rotate_left
  · have hq : (chkR p h t != 0) = true := by simpa using hr
    have hk : ¬ bothR zs p h t = 0 := fun k => hr (bothR_ok k).2
    have hkk : bothR zs p h t = chkR p h t := if_pos hz
    have HE : Hid (psE zs p h t x = chkR p h t) := by show _ = _; rw [psE, if_neg hk, hkk]
    have HF : Hid (psM zs p h t x = []) := if_neg (by rw [HE.out]; exact hr)
    have HG : Hid (psR zs p h t x = (0, 0, 0)) := if_neg (by rw [HE.out]; exact hr)
    clear hk hkk
    go_wp2
    refine bodyPost_ret (v := .tuple #[.agg #[.slice none 0 0], .agg #[.int .i64 0, .int .i64 0, .int .i64 0], .int .i64 (chkR p h t)]) (by simp [results, Try.results76, go_sem, *]) rfl ⟨⟨_, _, _, _, by rw [HE.out], by rw [HF.out]; exact Sl.nil _ _ _, Fresh.none _ _ _, HG.out⟩, ?_⟩
    (repeat (first | with_reducible exact B1.out | with_reducible refine bel_alloc ?_ _ | (with_reducible refine bel_set ?_ ?_ _; (focus (dsimp only; omega)))))
  have hk : bothR zs p h t = 0 := bothR_mk hz hr
  obtain ⟨rp, rh, rt⟩ := chkR_ok hr
  have Rp := pageR_in rp
  have Rh := stepR_in rh
  have Rt := stepR_in rt
  rw [hr]
  go_wp2_with fail
  refine (in_any _ _ _ _).mono ?_
  rintro e w3 ⟨rfl, rfl⟩
  rw [between_word]
  cases hx : wordB x
  · have HE : Hid (psE zs p h t x = 2) := by show _ = _; simp [psE, hk, hx]
    have HF : Hid (psM zs p h t x = []) := if_neg (by rw [HE.out]; decide)
    have HG : Hid (psR zs p h t x = (0, 0, 0)) := if_neg (by rw [HE.out]; decide)
    go_wp2
    refine bodyPost_ret (v := .tuple #[.agg #[.slice none 0 0], .agg #[.int .i64 0, .int .i64 0, .int .i64 0], .int .i64 2]) (by simp [results, Try.results76, go_sem, *]) rfl ⟨⟨_, _, _, _, by rw [HE.out], by rw [HF.out]; exact Sl.nil _ _ _, Fresh.none _ _ _, HG.out⟩, ?_⟩
    (repeat (first | with_reducible exact B1.out | with_reducible refine bel_alloc ?_ _ | (with_reducible refine bel_set ?_ ?_ _; (focus (dsimp only; omega)))))
  go_wp2_with fail
  refine (lengthOf_any p h t _ Rh Rt).mono ?_
  rintro e w4 ⟨rfl, rfl⟩
  by_cases hl : lenR h t = 7
  · have HE : Hid (psE zs p h t x = 1) := by show _ = _; simp [psE, hk, hx, hl]
    have HF : Hid (psM zs p h t x = []) := if_neg (by rw [HE.out]; decide)
    have HG : Hid (psR zs p h t x = (0, 0, 0)) := if_neg (by rw [HE.out]; decide)
    rw [hl]
    go_wp2
    refine bodyPost_ret (v := .tuple #[.agg #[.slice none 0 0], .agg #[.int .i64 0, .int .i64 0, .int .i64 0], .int .i64 1]) (by simp [results, Try.results76, go_sem, *]) rfl ⟨⟨_, _, _, _, by rw [HE.out], by rw [HF.out]; exact Sl.nil _ _ _, Fresh.none _ _ _, HG.out⟩, ?_⟩
    (repeat (first | with_reducible exact B1.out | with_reducible refine bel_alloc ?_ _ | (with_reducible refine bel_set ?_ ?_ _; (focus (dsimp only; omega)))))
  have HE : Hid (psE zs p h t x = 0) := by show _ = _; simp [psE, hk, hx, hl]
  have HF : Hid (psM zs p h t x = zs.set (p * 8 + t).toNat x) := if_pos HE.out
  have HG : Hid (psR zs p h t x = (p, h, (t + 1) % 8)) := if_pos HE.out
  have hq : (lenR h t == 7) = false := by simpa using hl
  have HL5 : Hid (zs.length = 512) := (chk_ok hz).1
  have X0 := (X0.past (ringB p h t)).past (ringB p h t)
  have X1 := (X1.past (ringB p h t)).past (ringB p h t)
  have X2 := (X2.past (ringB p h t)).past (ringB p h t)
  have X3 := (X3.past (ringB p h t)).past (ringB p h t)
  have B4 : Hid (Below w.heap.size w ((w1.alloc (ringB p h t)).alloc (ringB p h t))) := bel_alloc (bel_alloc B1.out _) _
  have HS4 : Hid (Sl w (.slice a0 zs.length c0) zs) := hs
  obtain ⟨p0, p1⟩ := Rp
  obtain ⟨h0, h1⟩ := Rh
  obtain ⟨t0, t1⟩ := Rt
  have k0 : 0 ≤ p * 8 + t := by omega
  have k1 : p * 8 + t < 512 := by omega
  clear q0 q1 q2 q3 z1 z2 z3 u0 u1 u2 g0 g1 g2 s0 s1 s2 s3 y0 y1 B1 hs
  obtain ⟨q0, -, s0⟩ := X0.one
  obtain ⟨q1, q2, q3, z1, z2, z3, s1⟩ := X1.three
  obtain ⟨y0, y1, s2⟩ := X2.one
  obtain ⟨u0, u1, u2, g0, g1, g2, s3⟩ := X3.three
  go_upto_region 11 with fail
  generalize (w1.alloc (ringB p h t)).alloc (ringB p h t) = W at *
  have qw : Hid (IntKind.i64.wrap (IntKind.i64.wrap (p * 8) + t) = p * 8 + t) := wrap_place p0 p1 t0 t1
  have qn : Hid ((IntKind.i64.wrap (t + 1)).tmod 8 = (t + 1) % 8) := wrap_next t0 t1
  have nW : w.heap.size + 1 + 1 ≤ W.heap.size := by omega
  have nV : w.heap.size ≤ w.heap.size + 1 + 1 := by omega
  have n0 : w.heap.size < w.heap.size + 1 + 1 := by omega
  have n1 : w.heap.size + 1 < w.heap.size + 1 + 1 := by omega
  go_region_held3 (fun w' => w'.cell? ⟨w.heap.size, 0, none⟩ = some (.slice a0 zs.length c0) ∧ w'.cell? ⟨w.heap.size + 1, 0, none⟩ = some (.int .i64 p) ∧ w'.cell? ⟨w.heap.size + 1, 1, none⟩ = some (.int .i64 h) ∧ w'.cell? ⟨w.heap.size + 1, 2, none⟩ = some (.int .i64 t) ∧ Below (w.heap.size + 1 + 1) W w')
    (with_reducible refine keepN q0 q1 q2 q3 n0 n1 ?_; (repeat (first | with_reducible assumption | (with_reducible (refine limb4 (?_ : _ ∧ _ ∧ _ ∧ _ ∧ _); assumption)) | with_reducible exact Below.refl _ _ | with_reducible refine Below.drew ?_ | with_reducible refine below_drewN ?_ _ | (with_reducible refine belN_alloc nW ?_ _) | (with_reducible refine belN_set ?_ ?_ _; (focus (first | with_reducible exact Nat.le_refl _ | with_reducible exact Nat.le_succ _))) | (with_reducible refine belN_trans (by assumption) nW ?_))))
    (first
      | (go_at_call 108; rw [qw.out]; refine (put_okN _ zs (p * 8 + t) x _ ?_ HL5.out k0 k1).mono ?_; (focus (refine HS4.out.keep (B4.out.trans (Below.mono ?_ nV)); (repeat (first | with_reducible assumption | (with_reducible (refine limb4 (?_ : _ ∧ _ ∧ _ ∧ _ ∧ _); assumption)) | with_reducible exact Below.refl _ _ | with_reducible refine Below.drew ?_ | with_reducible refine below_drewN ?_ _ | (with_reducible refine belN_alloc nW ?_ _) | (with_reducible refine belN_set ?_ ?_ _; (focus (first | with_reducible exact Nat.le_refl _ | with_reducible exact Nat.le_succ _))) | (with_reducible refine belN_trans (by assumption) nW ?_))))); rintro e w5 ⟨v5, rfl, h5, n5, b5⟩; obtain ⟨a5, c5, rfl⟩ := h5.shape; obtain ⟨y5, f5, l5⟩ := (X2.drew.keep b5).one; obtain ⟨i5, j5, k5, l6, m5, o5, r5⟩ := (X3.drew.keep b5).three))
  rename_i hH
  have hB := limb4 hH
  rw [qn.out] at hB
  rw [qn.out]
  clear hH
  have HB : Hid (Below w.heap.size w _) := B4.out.trans (hB.mono nV)
  have H5 : Hid (Sl w5 (.slice a5 zs.length c5) (zs.set (p * 8 + t).toNat x)) := by show Sl _ _ _; simpa using h5
  have N5 : Hid (Fresh W.heap.size (.slice a5 zs.length c5)) := by show Fresh _ _; simpa using n5
  clear hB h5 n5
  go_wp2
  refine bodyPost_ret (v := .tuple #[.agg #[.slice a5 zs.length c5], .agg #[.int .i64 p, .int .i64 h, .int .i64 ((t + 1) % 8)], .int .i64 0]) (by simp [results, Try.results76, go_sem, *]) rfl ⟨⟨_, _, _, _, by rw [HE.out], ?_, N5.out.mono (by omega), HG.out⟩, HB.out⟩
  rw [HF.out]
  refine Sl.setOther (Sl.setOther (Sl.setOther (Sl.setOther H5.out ?_ _) ?_ _) ?_ _) ?_ _ <;> exact N5.out.ne (by dsimp only; omega)
end Go.Proofs.Ytefcdcneenjbgab
/-
  drawbridgeref's ToldOf: what it answers, of right things; nothing that was there turns.
-/
namespace Go.Proofs.Ytefcdcneenjbgab
open Go.RowKit

theorem pushed_ok {v : Value} {zs : List Int} {p h t x : Int} {w : World} (hs : Sl w v zs) (hz : chk zs = 0) (hr : chkR p h t = 0) (hx : wordB x = true) (hl : ¬ lenR h t = 7) :
    Calls Try.prog 76 #[.agg #[v], .agg #[.int .i64 p, .int .i64 h, .int .i64 t], .int .i64 x] w fun e w' =>
      ∃ v', e = .returned (.tuple #[.agg #[v'], .agg #[.int .i64 p, .int .i64 h, .int .i64 ((t + 1) % 8)], .int .i64 0]) ∧ Sl w' v' (zs.set (p * 8 + t).toNat x) ∧ Fresh w.heap.size v' ∧ Below w.heap.size w w' := by
  refine (pushed_any v zs p h t x w hs).mono ?_
  rintro e w' ⟨⟨v', p', h', t', rfl, hS, hF, hR⟩, hb⟩
  have e0 : psE zs p h t x = 0 := by rw [psE, if_pos (bothR_mk hz hr), if_pos hx, if_neg hl]
  rw [psR, if_pos e0] at hR
  simp only [Prod.mk.injEq] at hR
  obtain ⟨rfl, rfl, rfl⟩ := hR
  rw [psM, if_pos e0] at hS
  rw [e0]
  exact ⟨v', rfl, hS, hF, hb⟩

set_option maxHeartbeats 8000000 in
theorem toldOf_any (v : Value) (zs : List Int) (mo ba op oh ot fe fp fh ft : Int) (st lo : Bool) (vc : Value) (l : List Ln) (c d p : Int) (x : Bool) (w : World) (hs : Sl w v zs) (h : Ls w vc l) (hk : bothB zs ⟨mo, ba, l, op, oh, ot, st, fe, fp, fh, ft, lo⟩ = 0) :
    Calls Try.prog 35 #[.agg #[v], .agg #[.int .i64 mo, .int .i64 ba, vc, .int .i64 op, .int .i64 oh, .int .i64 ot, .bool st, .int .i64 fe, .int .i64 fp, .int .i64 fh, .int .i64 ft, .bool lo], .agg #[.int .i64 c, .int .i64 d, .int .i64 p, .bool x]] w fun e w' => TlOut zs ⟨mo, ba, l, op, oh, ot, st, fe, fp, fh, ft, lo⟩ c d p x w e w' := by
  have HS : Hid (Ls w vc l) := h
  obtain ⟨va, vk, rfl, -⟩ := h.shape
  have HM : Hid (Sl w v zs) := hs
  obtain ⟨ma, mc, rfl⟩ := hs.shape
  have HK : Hid (_ = _) := hk
  clear h hs hk
  go_enter Try.func35, Try.ntmps35
  go_wp2_with fail
  refine (faultWord_any c d p x _).mono ?_
  rintro e w1 ⟨rfl, b1⟩
  have BA : Hid (Below w.heap.size w _) := bel_alloc (bel_alloc (bel_alloc (bel_alloc (bel_alloc (Below.refl w.heap.size w) (.cells #[.slice ma zs.length mc] 39)) (.cells #[.int .i64 mo, .int .i64 ba, .slice va l.length vk, .int .i64 op, .int .i64 oh, .int .i64 ot, .bool st, .int .i64 fe, .int .i64 fp, .int .i64 fh, .int .i64 ft, .bool lo] 44)) (.cells #[.int .i64 c, .int .i64 d, .int .i64 p, .bool x] 25)) (.cells #[.slice none 0 0] 39)) (.cells #[.int .i64 0, .int .i64 0, .slice none 0 0, .int .i64 0, .int .i64 0, .int .i64 0, .bool false, .int .i64 0, .int .i64 0, .int .i64 0, .int .i64 0, .bool false] 44)
  have X0 := (((((Box.newAt (n := w.heap.size) rfl 39 #[.slice ma zs.length mc]).past _).past _).past _).past _).keep b1
  have X1 := ((((Box.newAt (n := w.heap.size + 1) (by simp) 44 #[.int .i64 mo, .int .i64 ba, .slice va l.length vk, .int .i64 op, .int .i64 oh, .int .i64 ot, .bool st, .int .i64 fe, .int .i64 fp, .int .i64 fh, .int .i64 ft, .bool lo]).past _).past _).past _).keep b1
  have X3 := ((Box.newAt (n := w.heap.size + 1 + 1 + 1) (by simp) 39 #[.slice none 0 0]).past _).keep b1
  have X4 := (Box.newAt (n := w.heap.size + 1 + 1 + 1 + 1) (by simp) 44 #[.int .i64 0, .int .i64 0, .slice none 0 0, .int .i64 0, .int .i64 0, .int .i64 0, .bool false, .int .i64 0, .int .i64 0, .int .i64 0, .int .i64 0, .bool false]).keep b1
  have B1 : Hid (Below w.heap.size w w1) := bel_trans BA.out b1
  clear b1 BA
  obtain ⟨m0, m1, s0⟩ := X0.one
  obtain ⟨⟨q0, q1, q2, q3, q4, q5, q6, q7, q8, q9, q10, q11⟩, s1⟩ := X1.twelve
  obtain ⟨i0, i1, i2, i3, i4, i5, i6, i7, i8, i9, i10, i11⟩ := X1.marks
  obtain ⟨r0, r1, s3⟩ := X3.one
  obtain ⟨⟨u0, u1, u2, u3, u4, u5, u6, u7, u8, u9, u10, u11⟩, s4⟩ := X4.twelve
  obtain ⟨y0, y1, y2, y3, y4, y5, y6, y7, y8, y9, y10, y11⟩ := X4.marks
  by_cases hf : fE c d p = 0
  rotate_left
  · have HE : Hid (tlE zs ⟨mo, ba, l, op, oh, ot, st, fe, fp, fh, ft, lo⟩ c d p = fE c d p) := if_pos HK.out
    have HB : Hid (tlB zs ⟨mo, ba, l, op, oh, ot, st, fe, fp, fh, ft, lo⟩ c d p = B0) := if_neg (by rw [HE.out]; exact hf)
    have HT : Hid (tlM zs ⟨mo, ba, l, op, oh, ot, st, fe, fp, fh, ft, lo⟩ c d p x = []) := if_neg (by rw [HE.out]; exact hf)
    generalize fE c d p = E at *
    have hq : (E != 0) = true := by simpa using hf
    go_wp2
    refine bodyPost_ret (v := .tuple #[.agg #[.slice none 0 0], .agg #[.int .i64 0, .int .i64 0, .slice none 0 0, .int .i64 0, .int .i64 0, .int .i64 0, .bool false, .int .i64 0, .int .i64 0, .int .i64 0, .int .i64 0, .bool false], .int .i64 E]) (by simp [results, Try.results35, go_sem, *]) rfl ⟨_, _, _, _, _, _, _, _, _, _, _, _, _, _, _, _, [], by rw [HE.out]; rfl, HB.out, by rw [HT.out]; exact Sl.nil _ _ _, Ls.nothing _, ?_⟩
    (repeat (first | with_reducible exact B1.out | with_reducible refine Below.drew ?_ | with_reducible refine bel_alloc ?_ _ | (with_reducible refine bel_set12 ?_ ?_ _ _ _ _ _ _ _ _ _ _ _ _; (focus omega)) | (with_reducible refine bel_set ?_ ?_ _; (focus (dsimp only; omega)))))
  have hE : tlE zs ⟨mo, ba, l, op, oh, ot, st, fe, fp, fh, ft, lo⟩ c d p = 0 := by rw [tlE, if_pos HK.out, hf]
  have HE : Hid (_ = _) := hE
  have HZ : Hid (chk zs = 0) := (bothB_ok HK.out).1
  have HF : Hid (chkR fp fh ft = 0) := (chkB_ok (bothB_ok HK.out).2).2.2.2.2.2
  have HW : Hid (wordB (fW c d p x) = true) := fW_word x hf
  obtain ⟨W0, hW0⟩ : ∃ z, fW c d p x = z := ⟨_, rfl⟩
  have HW0 : Hid (_ = _) := hW0
  rw [hf, hW0]
  clear hE hf hW0
  cases lo
  rotate_left
  · have HB : Hid (tlB zs ⟨mo, ba, l, op, oh, ot, st, fe, fp, fh, ft, true⟩ c d p = ⟨mo, ba, l, op, oh, ot, st, fe, fp, fh, ft, true⟩) := by show _ = _; rw [tlB, if_pos HE.out]; rfl
    have HT : Hid (tlM zs ⟨mo, ba, l, op, oh, ot, st, fe, fp, fh, ft, true⟩ c d p x = zs) := by show _ = _; rw [tlM, if_pos HE.out]; rfl
    go_wp2
    go_region
    go_wp2
    refine bodyPost_ret (v := .tuple #[.agg #[.slice ma zs.length mc], .agg #[.int .i64 mo, .int .i64 ba, .slice va l.length vk, .int .i64 op, .int .i64 oh, .int .i64 ot, .bool st, .int .i64 fe, .int .i64 fp, .int .i64 fh, .int .i64 ft, .bool true], .int .i64 0]) (by simp [results, Try.results35, go_sem, *]) rfl ⟨_, _, _, _, _, _, _, _, _, _, _, _, _, _, _, _, l, by rw [HE.out], HB.out, by rw [HT.out]; refine HM.out.keep ?_; (repeat (first | with_reducible exact B1.out | with_reducible refine Below.drew ?_ | with_reducible refine bel_alloc ?_ _ | (with_reducible refine bel_set12 ?_ ?_ _ _ _ _ _ _ _ _ _ _ _ _; (focus omega)) | (with_reducible refine bel_set ?_ ?_ _; (focus (dsimp only; omega))))), HS.out.keep ?_, ?_⟩
    all_goals (repeat (first | with_reducible exact B1.out | with_reducible refine Below.drew ?_ | with_reducible refine bel_alloc ?_ _ | (with_reducible refine bel_set12 ?_ ?_ _ _ _ _ _ _ _ _ _ _ _ _; (focus omega)) | (with_reducible refine bel_set ?_ ?_ _; (focus (dsimp only; omega)))))
  obtain ⟨-, rh, rt⟩ := chkR_ok HF.out
  go_wp2_with fail
  refine (lengthOf_any fp fh ft _ (stepR_in rh) (stepR_in rt)).mono ?_
  rintro e w2 ⟨rfl, rfl⟩
  clear rh rt
  by_cases hl : lenR fh ft = 7
  · have HB : Hid (tlB zs ⟨mo, ba, l, op, oh, ot, st, fe, fp, fh, ft, false⟩ c d p = ⟨mo, ba, l, op, oh, ot, st, fe, fp, fh, ft, true⟩) := by show _ = _; rw [tlB, if_pos HE.out, if_pos (by simp [fullB, hl])]
    have HT : Hid (tlM zs ⟨mo, ba, l, op, oh, ot, st, fe, fp, fh, ft, false⟩ c d p x = zs) := by show _ = _; rw [tlM, if_pos HE.out, if_pos (by simp [fullB, hl])]
    rw [hl]
    go_wp2
    go_region
    go_wp2
    refine bodyPost_ret (v := .tuple #[.agg #[.slice ma zs.length mc], .agg #[.int .i64 mo, .int .i64 ba, .slice va l.length vk, .int .i64 op, .int .i64 oh, .int .i64 ot, .bool st, .int .i64 fe, .int .i64 fp, .int .i64 fh, .int .i64 ft, .bool true], .int .i64 0]) (by simp [results, Try.results35, go_sem, *]) rfl ⟨_, _, _, _, _, _, _, _, _, _, _, _, _, _, _, _, l, by rw [HE.out], HB.out, by rw [HT.out]; refine HM.out.keep ?_; (repeat (first | with_reducible exact B1.out | with_reducible refine Below.drew ?_ | with_reducible refine bel_alloc ?_ _ | (with_reducible refine bel_set12 ?_ ?_ _ _ _ _ _ _ _ _ _ _ _ _; (focus omega)) | (with_reducible refine bel_set ?_ ?_ _; (focus (dsimp only; omega))))), HS.out.keep ?_, ?_⟩
    all_goals (repeat (first | with_reducible exact B1.out | with_reducible refine Below.drew ?_ | with_reducible refine bel_alloc ?_ _ | (with_reducible refine bel_set12 ?_ ?_ _ _ _ _ _ _ _ _ _ _ _ _; (focus omega)) | (with_reducible refine bel_set ?_ ?_ _; (focus (dsimp only; omega)))))
  have HB : Hid (tlB zs ⟨mo, ba, l, op, oh, ot, st, fe, fp, fh, ft, false⟩ c d p = ⟨mo, ba, l, op, oh, ot, st, fe, fp, fh, (ft + 1) % 8, false⟩) := by show _ = _; rw [tlB, if_pos HE.out, if_neg (by simp [fullB, hl])]
  have HT : Hid (tlM zs ⟨mo, ba, l, op, oh, ot, st, fe, fp, fh, ft, false⟩ c d p x = zs.set (fp * 8 + ft).toNat W0) := by show _ = _; rw [tlM, if_pos HE.out, if_neg (by simp [fullB, hl]), HW0.out]
  have HQ : Hid (¬ lenR fh ft = 7) := hl
  have hq : (lenR fh ft == 7) = false := by simpa using hl
  clear hl
  go_wp2_with fail
  refine (pushed_ok (HM.out.keep (bel_alloc B1.out _)) HZ.out HF.out (HW0.out ▸ HW.out) HQ.out).mono ?_
  rintro e w4 ⟨v4, rfl, hS4, hF4, b4⟩
  have zz : w.heap.size + 1 + 1 + 1 + 1 < w1.heap.size := s4
  have hF4 : Fresh (w1.heap.size + 1) v4 := by simpa using hF4
  have F0 : Hid (v4.ownBlock ≠ some w.heap.size) := hF4.ne (by omega)
  have F1 : Hid (v4.ownBlock ≠ some (w.heap.size + 1)) := hF4.ne (by omega)
  have F3 : Hid (v4.ownBlock ≠ some (w.heap.size + 1 + 1 + 1)) := hF4.ne (by omega)
  have F4 : Hid (v4.ownBlock ≠ some (w.heap.size + 1 + 1 + 1 + 1)) := hF4.ne (by omega)
  clear m0 m1 s0 q0 q1 q2 q3 q4 q5 q6 q7 q8 q9 q10 q11 s1 i0 i1 i2 i3 i4 i5 i6 i7 i8 i9 i10 i11 r0 r1 s3 u0 u1 u2 u3 u4 u5 u6 u7 u8 u9 u10 u11 s4 y0 y1 y2 y3 y4 y5 y6 y7 y8 y9 y10 y11
  have X0 := (X0.past _).keep b4
  have X1 := (X1.past _).keep b4
  have X3 := (X3.past _).keep b4
  have X4 := (X4.past _).keep b4
  have B4 : Hid (Below w.heap.size w w4) := bel_trans (bel_alloc B1.out _) b4
  obtain ⟨a4, n4, c4, rfl⟩ : ∃ a n c, v4 = .slice a n c := by obtain ⟨a, cap, e, _⟩ := hS4; exact ⟨_, _, _, e⟩
  have HS4 : Hid (Sl _ _ _) := hS4
  clear b4 hF4 hS4 B1 zz
  generalize ((ft + 1) % 8) = nf at *
  obtain ⟨m0, m1, s0⟩ := X0.one
  obtain ⟨⟨q0, q1, q2, q3, q4, q5, q6, q7, q8, q9, q10, q11⟩, s1⟩ := X1.twelve
  obtain ⟨i0, i1, i2, i3, i4, i5, i6, i7, i8, i9, i10, i11⟩ := X1.marks
  obtain ⟨r0, r1, s3⟩ := X3.one
  obtain ⟨⟨u0, u1, u2, u3, u4, u5, u6, u7, u8, u9, u10, u11⟩, s4⟩ := X4.twelve
  obtain ⟨y0, y1, y2, y3, y4, y5, y6, y7, y8, y9, y10, y11⟩ := X4.marks
  go_wp2
  go_region
  go_wp2
  refine bodyPost_ret (v := .tuple #[.agg #[.slice a4 n4 c4], .agg #[.int .i64 mo, .int .i64 ba, .slice va l.length vk, .int .i64 op, .int .i64 oh, .int .i64 ot, .bool st, .int .i64 fe, .int .i64 fp, .int .i64 fh, .int .i64 nf, .bool false], .int .i64 0]) (by simp [results, Try.results35, go_sem, *]) rfl ⟨_, _, _, _, _, _, _, _, _, _, _, _, _, _, _, _, l, by rw [HE.out], HB.out, ?_, HS.out.keep ?_, ?_⟩
  · rw [HT.out]
    exact Sl.drew (Sl.put12 (n := w.heap.size + 1 + 1 + 1 + 1) (Sl.setOther (p := ⟨w.heap.size + 1 + 1 + 1, 0, none⟩) (Sl.setOther (p := ⟨w.heap.size + 1, 10, none⟩) (Sl.setOther (p := ⟨w.heap.size + 1, 9, none⟩) (Sl.setOther (p := ⟨w.heap.size + 1, 8, none⟩) (Sl.setOther (p := ⟨w.heap.size, 0, none⟩) HS4.out F0.out _) F1.out _) F1.out _) F1.out _) F3.out _) F4.out _ _ _ _ _ _ _ _ _ _ _ _)
  all_goals (repeat (first | with_reducible exact B4.out | with_reducible refine Below.drew ?_ | with_reducible refine bel_alloc ?_ _ | (with_reducible refine bel_set12 ?_ ?_ _ _ _ _ _ _ _ _ _ _ _ _; (focus omega)) | (with_reducible refine bel_set ?_ ?_ _; (focus (dsimp only; omega)))))
end Go.Proofs.Ytefcdcneenjbgab
/-
  A row of numbers of its own is read and written; slices.Clone of a memory's words.
-/
namespace Go.Proofs.Ytefcdcneenjbgab
open Go.RowKit

theorem OwnI.open {w : World} {base g n cap : Nat} {zs : List Int} (h : OwnI w base (.slice (some ⟨g, 0, none⟩) n cap) zs) : ∃ cur : Array Value, n = zs.length ∧ base ≤ g ∧ w.heap[g]? = some (.cells cur 3 (0, 0)) ∧ zs.length ≤ cap ∧ cap ≤ maxLen ∧ cur.size = cap ∧ cur.toList.take zs.length = zs.map (fun z => Value.int .i64 z) := by
  obtain ⟨h1, h2⟩ := h
  rcases h2 with ⟨h2, _⟩ | ⟨g', cap', cur, e, hb, hg, hc, hm, hs, ht⟩
  · simp at h2
  · simp only [Value.slice.injEq, Option.some.injEq, Addr.mk.injEq, and_true] at e
    obtain ⟨rfl, rfl, rfl⟩ := e
    exact ⟨cur, rfl, hb, hg, hc, hm, by simpa using hs, by simpa using ht⟩
theorem OwnI.cellAt {w : World} {base g n cap : Nat} {zs : List Int} (h : OwnI w base (.slice (some ⟨g, 0, none⟩) n cap) zs) {i : Nat} (hi : i < zs.length) : w.cell? ⟨g, i, none⟩ = some (.int .i64 (nth zs i)) := by
  obtain ⟨cur, rfl, _, hg, hc, _, hs, ht⟩ := h.open
  rw [cell_of_row w g i cur _ _ hg, ← Array.getElem?_toList]
  have : (cur.toList.take zs.length)[i]? = cur.toList[i]? := by rw [List.getElem?_take, if_pos hi]
  rw [← this, ht]
  simp [nth, hi]
theorem OwnI.frozenAt {w : World} {base g n cap : Nat} {zs : List Int} (h : OwnI w base (.slice (some ⟨g, 0, none⟩) n cap) zs) (i : Nat) : w.frozen? ⟨g, i, none⟩ = false := by
  obtain ⟨cur, _, _, hg, _⟩ := h.open
  exact frozen_of_row w g _ _ _ hg
theorem OwnI.setAt {w : World} {base g n cap : Nat} {zs : List Int} (h : OwnI w base (.slice (some ⟨g, 0, none⟩) n cap) zs) (i : Nat) (z : Int) : OwnI (w.setCell ⟨g, i, none⟩ (.int .i64 z)) base (.slice (some ⟨g, 0, none⟩) n cap) (zs.set i z) := by
  obtain ⟨cur, rfl, hb, hg, hc, hm, hs, ht⟩ := h.open
  refine ⟨by simp, .inr ⟨g, cap, cur.setIfInBounds i (.int .i64 z), by simp, hb, heap_setCell_same w g i cur _ _ hg, by simpa using hc, hm, by simp [hs], ?_⟩⟩
  rw [Array.toList_setIfInBounds, List.length_set, Nat.mul_one, List.take_set, ht, List.map_set]

set_option maxRecDepth 10000 in
set_option maxHeartbeats 1000000 in
theorem clone_own (v : Value) (zs : List Int) (w : World) (h : Sl w v zs) (hn : zs.length = 512) :
    Calls Try.prog 53 #[v] w fun e w' => ∃ g cap, e = .returned (.slice (some ⟨g, 0, none⟩) 512 cap) ∧ OwnI w' w.heap.size (.slice (some ⟨g, 0, none⟩) 512 cap) zs ∧ Below w.heap.size w w' := by
  obtain ⟨b, o, cap, rfl, hb, hc⟩ := h.open512 hn
  have HC : Hid (∀ i, i < 512 → w.cell? ⟨b, o + i, none⟩ = some (.int .i64 (nth zs i))) := hc
  have HN : Hid (zs.length = 512) := hn
  clear hc hn h
  have H1 : Hid ((w.alloc (.cells #[] 3)).ownsRow w.heap.size 3 1 (.slice (some ⟨w.heap.size, 0, none⟩) 0 0) 0 []) := by
    have h0 := lit_row w w.heap.size (by simp)
    show World.ownsRow _ _ _ _ _ _ _
    simpa using h0
  have heq : ∀ wx, Sem.run Try.prog (binOp .eql 37 (.slice (some ⟨b, o, none⟩) 512 cap) (.slice none 0 0)) wx = .ok (.bool false) wx := fun wx => by kernel_rfl
  go_enter Try.func53, Try.ntmps53
  go_wp2_with (at_builtin; refine wpList_append_new rfl (.tmp 5) (.tmp 6) rfl w.heap.size _ rfl H1.out b o cap zs rfl HN.out ?hc ?hbase ?hrest)
  case hbase => simp
  case hc =>
    intro i hi
    rw [World.cell?_alloc_past _ _ _ (by omega)]
    exact HC.out i hi
  intro g c w2 hown hgr hat hlt
  have HO : Hid _ := hown
  have BB : Hid (Below w.heap.size w w2) := (bel_alloc (Below.refl _ _) (.cells #[] 3)).trans ((Below.refl w.heap.size (w.alloc (.cells #[] 3))).grown hgr (by simp) (fun k hk => by simp [Value.ownBlock] at hk; omega))
  clear hown hgr hat hlt
  go_wp2
  go_ret
  refine ⟨g, c, rfl, ?_, BB.out⟩
  unfold OwnI
  rw [HN.out]
  exact HO.out
end Go.Proofs.Ytefcdcneenjbgab
