/-
  drawbridgeref's Pushed: what it answers; nothing that was there turns.
-/
import Derived.Test.YtbnjckadgoofjaaRing4
namespace Go.Proofs.Ytbnjckadgoofjaa
open Go.RowKit

theorem belN_alloc {N : Nat} {a w : World} (hN : N ≤ a.heap.size) (h : Below N a w) (o : Obj) : Below N a (w.alloc o) := h.alloc (Nat.le_trans hN h.size) o
theorem belN_set {N : Nat} {a w : World} {p : Addr} (hp : N ≤ p.block) (h : Below N a w) (u : Value) : Below N a (w.setCell p u) := h.setCell hp u
theorem belN_trans {N : Nat} {a b c : World} (k : Below b.heap.size b c) (hN : N ≤ a.heap.size) (h : Below N a b) : Below N a c := h.trans (k.mono (Nat.le_trans hN h.size))
/-- Four cells that are read, and nothing below so many blocks that has turned. -/
theorem keepN {W w' : World} {m n N : Nat} {v u0 u1 u2 : Value} (hv : W.cell? ⟨m, 0, none⟩ = some v) (h0 : W.cell? ⟨n, 0, none⟩ = some u0) (h1 : W.cell? ⟨n, 1, none⟩ = some u1) (h2 : W.cell? ⟨n, 2, none⟩ = some u2) (hm : m < N) (hn : n < N) (hb : Below N W w') :
    w'.cell? ⟨m, 0, none⟩ = some v ∧ w'.cell? ⟨n, 0, none⟩ = some u0 ∧ w'.cell? ⟨n, 1, none⟩ = some u1 ∧ w'.cell? ⟨n, 2, none⟩ = some u2 ∧ Below N W w' :=
  ⟨(hb.cell (p := ⟨m, 0, none⟩) hm).trans hv, (hb.cell (p := ⟨n, 0, none⟩) hn).trans h0, (hb.cell (p := ⟨n, 1, none⟩) hn).trans h1, (hb.cell (p := ⟨n, 2, none⟩) hn).trans h2, hb⟩

theorem wrapR (n : Int) (h0 : 0 ≤ n) (h1 : n < 2 ^ 63) : IntKind.i64.wrap n = n := by rw [IntKind.wrap_i64]; omega
theorem wrap_place {p t : Int} (p0 : 0 ≤ p) (p1 : p < 64) (t0 : 0 ≤ t) (t1 : t < 8) : IntKind.i64.wrap (IntKind.i64.wrap (p * 8) + t) = p * 8 + t := by
  rw [wrapR (p * 8) (by omega) (by omega), wrapR _ (by omega) (by omega)]
theorem wrap_next {t : Int} (t0 : 0 ≤ t) (t1 : t < 8) : (IntKind.i64.wrap (t + 1)).tmod 8 = (t + 1) % 8 := by
  rw [wrapR _ (by omega) (by omega), Int.tmod_eq_emod_of_nonneg (by omega)]

set_option maxHeartbeats 1000000 in
theorem pushed_any (v : Value) (zs : List Int) (p h t x : Int) (w : World) (hs : Sl w v zs) :
    Calls Try.prog 49 #[.agg #[v], .agg #[.int .i64 p, .int .i64 h, .int .i64 t], .int .i64 x] w fun e w' =>
      (∃ v' p' h' t', e = .returned (.tuple #[.agg #[v'], .agg #[.int .i64 p', .int .i64 h', .int .i64 t'], .int .i64 (psE zs p h t x)]) ∧ Sl w' v' (psM zs p h t x) ∧ Fresh w.heap.size v' ∧ psR zs p h t x = (p', h', t')) ∧ Below w.heap.size w w' := by
  obtain ⟨a0, c0, rfl⟩ := hs.shape
  go_enter Try.func49, Try.ntmps49
  go_wp2_with fail
  refine (checkMem_any _ zs _ (hs.keep (bel_alloc (bel_alloc (bel_alloc (bel_alloc (Below.refl _ _) _) _) _) _))).mono ?_
  rintro e w1 ⟨rfl, b1⟩
  have X0 := (((Box.newAt (n := w.heap.size) (by simp) 28 #[.slice a0 zs.length c0]).past (.cells #[.int .i64 p, .int .i64 h, .int .i64 t] 71)).past (.cells #[.slice none 0 0] 28)).past (.cells #[.int .i64 0, .int .i64 0, .int .i64 0] 71) |>.keep b1
  have X1 := ((Box.newAt (w := w.alloc (.cells #[.slice a0 zs.length c0] 28)) (n := w.heap.size + 1) (by simp) 71 #[.int .i64 p, .int .i64 h, .int .i64 t]).past _).past _ |>.keep b1
  have X2 := (Box.newAt (n := w.heap.size + 1 + 1) (by simp) 28 #[.slice none 0 0]).past _ |>.keep b1
  have X3 := (Box.newAt (n := w.heap.size + 1 + 1 + 1) (by simp) 71 #[.int .i64 0, .int .i64 0, .int .i64 0]) |>.keep b1
  have B1 : Hid (Below w.heap.size w w1) := bel_trans (bel_alloc (bel_alloc (bel_alloc (bel_alloc (Below.refl _ _) _) _) _) _) b1
  clear b1
  obtain ⟨q0, -, s0⟩ := X0.one
  obtain ⟨q1, q2, q3, z1, z2, z3, s1⟩ := X1.three
  obtain ⟨y0, y1, s2⟩ := X2.one
  obtain ⟨u0, u1, u2, g0, g1, g2, s3⟩ := X3.three
  by_cases hz : chk zs = 0
  rotate_left
  · have hq : (chk zs != 0) = true := by simpa using hz
    have hq2 : (chk zs == 0) = false := by simpa using hz
    have hk : ¬ bothR zs p h t = 0 := fun k => hz (bothR_ok k).1
    have hkk : bothR zs p h t = chk zs := if_neg hz
    have HE : Hid (psE zs p h t x = chk zs) := by show _ = _; rw [psE, if_neg hk, hkk]
    have HF : Hid (psM zs p h t x = []) := if_neg (by rw [HE.out]; exact hz)
    have HG : Hid (psR zs p h t x = (0, 0, 0)) := if_neg (by rw [HE.out]; exact hz)
    clear hk hkk
    go_wp2
    refine bodyPost_ret (v := .tuple #[.agg #[.slice none 0 0], .agg #[.int .i64 0, .int .i64 0, .int .i64 0], .int .i64 (chk zs)]) (by simp [results, Try.results49, go_sem, *]) rfl ⟨⟨_, _, _, _, by rw [HE.out], by rw [HF.out]; exact Sl.nil _ _ _, Fresh.none _ _ _, HG.out⟩, ?_⟩
    exact bel_set3 (by omega) (bel_set1 (by omega) B1.out _) _ _ _
  rw [hz]
  go_wp2_with fail
  refine (checkRing_any p h t _).mono ?_
  rintro e w2 ⟨rfl, rfl⟩
  by_cases hr : chkR p h t = 0
  rotate_left
  · have hq : (chkR p h t != 0) = true := by simpa using hr
    have hk : ¬ bothR zs p h t = 0 := fun k => hr (bothR_ok k).2
    have hkk : bothR zs p h t = chkR p h t := if_pos hz
    have HE : Hid (psE zs p h t x = chkR p h t) := by show _ = _; rw [psE, if_neg hk, hkk]
    have HF : Hid (psM zs p h t x = []) := if_neg (by rw [HE.out]; exact hr)
    have HG : Hid (psR zs p h t x = (0, 0, 0)) := if_neg (by rw [HE.out]; exact hr)
    clear hk hkk
    go_wp2
    refine bodyPost_ret (v := .tuple #[.agg #[.slice none 0 0], .agg #[.int .i64 0, .int .i64 0, .int .i64 0], .int .i64 (chkR p h t)]) (by simp [results, Try.results49, go_sem, *]) rfl ⟨⟨_, _, _, _, by rw [HE.out], by rw [HF.out]; exact Sl.nil _ _ _, Fresh.none _ _ _, HG.out⟩, ?_⟩
    (repeat (first | with_reducible exact B1.out | with_reducible refine bel_alloc ?_ _ | (with_reducible refine bel_set ?_ ?_ _; (focus (dsimp only; omega)))))
  have hk : bothR zs p h t = 0 := bothR_mk hz hr
  obtain ⟨rp, rh, rt⟩ := chkR_ok hr
  have Rp := pageR_in rp
  have Rh := stepR_in rh
  have Rt := stepR_in rt
  rw [hr]
  go_wp2_with fail
  refine (in_any _ _ _ _).mono ?_
  rintro e w3 ⟨rfl, rfl⟩
  rw [between_word]
  cases hx : wordB x
  · have HE : Hid (psE zs p h t x = 2) := by show _ = _; simp [psE, hk, hx]
    have HF : Hid (psM zs p h t x = []) := if_neg (by rw [HE.out]; decide)
    have HG : Hid (psR zs p h t x = (0, 0, 0)) := if_neg (by rw [HE.out]; decide)
    go_wp2
    refine bodyPost_ret (v := .tuple #[.agg #[.slice none 0 0], .agg #[.int .i64 0, .int .i64 0, .int .i64 0], .int .i64 2]) (by simp [results, Try.results49, go_sem, *]) rfl ⟨⟨_, _, _, _, by rw [HE.out], by rw [HF.out]; exact Sl.nil _ _ _, Fresh.none _ _ _, HG.out⟩, ?_⟩
    (repeat (first | with_reducible exact B1.out | with_reducible refine bel_alloc ?_ _ | (with_reducible refine bel_set ?_ ?_ _; (focus (dsimp only; omega)))))
  go_wp2_with fail
  refine (lengthOf_any p h t _ Rh Rt).mono ?_
  rintro e w4 ⟨rfl, rfl⟩
  by_cases hl : lenR h t = 7
  · have HE : Hid (psE zs p h t x = 1) := by show _ = _; simp [psE, hk, hx, hl]
    have HF : Hid (psM zs p h t x = []) := if_neg (by rw [HE.out]; decide)
    have HG : Hid (psR zs p h t x = (0, 0, 0)) := if_neg (by rw [HE.out]; decide)
    rw [hl]
    go_wp2
    refine bodyPost_ret (v := .tuple #[.agg #[.slice none 0 0], .agg #[.int .i64 0, .int .i64 0, .int .i64 0], .int .i64 1]) (by simp [results, Try.results49, go_sem, *]) rfl ⟨⟨_, _, _, _, by rw [HE.out], by rw [HF.out]; exact Sl.nil _ _ _, Fresh.none _ _ _, HG.out⟩, ?_⟩
    (repeat (first | with_reducible exact B1.out | with_reducible refine bel_alloc ?_ _ | (with_reducible refine bel_set ?_ ?_ _; (focus (dsimp only; omega)))))
  have HE : Hid (psE zs p h t x = 0) := by show _ = _; simp [psE, hk, hx, hl]
  have HF : Hid (psM zs p h t x = zs.set (p * 8 + t).toNat x) := if_pos HE.out
  have HG : Hid (psR zs p h t x = (p, h, (t + 1) % 8)) := if_pos HE.out
  have hq : (lenR h t == 7) = false := by simpa using hl
  have HL5 : Hid (zs.length = 512) := (chk_ok hz).1
  have X0 := (X0.past (ringB p h t)).past (ringB p h t)
  have X1 := (X1.past (ringB p h t)).past (ringB p h t)
  have X2 := (X2.past (ringB p h t)).past (ringB p h t)
  have X3 := (X3.past (ringB p h t)).past (ringB p h t)
  have B4 : Hid (Below w.heap.size w ((w1.alloc (ringB p h t)).alloc (ringB p h t))) := bel_alloc (bel_alloc B1.out _) _
  have HS4 : Hid (Sl w (.slice a0 zs.length c0) zs) := hs
  obtain ⟨p0, p1⟩ := Rp
  obtain ⟨h0, h1⟩ := Rh
  obtain ⟨t0, t1⟩ := Rt
  have k0 : 0 ≤ p * 8 + t := by omega
  have k1 : p * 8 + t < 512 := by omega
  clear q0 q1 q2 q3 z1 z2 z3 u0 u1 u2 g0 g1 g2 s0 s1 s2 s3 y0 y1 B1 hs
  obtain ⟨q0, -, s0⟩ := X0.one
  obtain ⟨q1, q2, q3, z1, z2, z3, s1⟩ := X1.three
  obtain ⟨y0, y1, s2⟩ := X2.one
  obtain ⟨u0, u1, u2, g0, g1, g2, s3⟩ := X3.three
  go_upto_region 11 with fail
  generalize (w1.alloc (ringB p h t)).alloc (ringB p h t) = W at *
  have qw : Hid (IntKind.i64.wrap (IntKind.i64.wrap (p * 8) + t) = p * 8 + t) := wrap_place p0 p1 t0 t1
  have qn : Hid ((IntKind.i64.wrap (t + 1)).tmod 8 = (t + 1) % 8) := wrap_next t0 t1
  have nW : w.heap.size + 1 + 1 ≤ W.heap.size := by omega
  have nV : w.heap.size ≤ w.heap.size + 1 + 1 := by omega
  have n0 : w.heap.size < w.heap.size + 1 + 1 := by omega
  have n1 : w.heap.size + 1 < w.heap.size + 1 + 1 := by omega
  go_region_held3 (fun w' => w'.cell? ⟨w.heap.size, 0, none⟩ = some (.slice a0 zs.length c0) ∧ w'.cell? ⟨w.heap.size + 1, 0, none⟩ = some (.int .i64 p) ∧ w'.cell? ⟨w.heap.size + 1, 1, none⟩ = some (.int .i64 h) ∧ w'.cell? ⟨w.heap.size + 1, 2, none⟩ = some (.int .i64 t) ∧ Below (w.heap.size + 1 + 1) W w')
    (with_reducible refine keepN q0 q1 q2 q3 n0 n1 ?_; (repeat (first | with_reducible assumption | (with_reducible (refine limb4 (?_ : _ ∧ _ ∧ _ ∧ _ ∧ _); assumption)) | with_reducible exact Below.refl _ _ | with_reducible refine Below.drew ?_ | with_reducible refine below_drewN ?_ _ | (with_reducible refine belN_alloc nW ?_ _) | (with_reducible refine belN_set ?_ ?_ _; (focus (first | with_reducible exact Nat.le_refl _ | with_reducible exact Nat.le_succ _))) | (with_reducible refine belN_trans (by assumption) nW ?_))))
    (first
      | (go_at_call 23; rw [qw.out]; refine (put_okN _ zs (p * 8 + t) x _ ?_ HL5.out k0 k1).mono ?_; (focus (refine HS4.out.keep (B4.out.trans (Below.mono ?_ nV)); (repeat (first | with_reducible assumption | (with_reducible (refine limb4 (?_ : _ ∧ _ ∧ _ ∧ _ ∧ _); assumption)) | with_reducible exact Below.refl _ _ | with_reducible refine Below.drew ?_ | with_reducible refine below_drewN ?_ _ | (with_reducible refine belN_alloc nW ?_ _) | (with_reducible refine belN_set ?_ ?_ _; (focus (first | with_reducible exact Nat.le_refl _ | with_reducible exact Nat.le_succ _))) | (with_reducible refine belN_trans (by assumption) nW ?_))))); rintro e w5 ⟨v5, rfl, h5, n5, b5⟩; obtain ⟨a5, c5, rfl⟩ := h5.shape; obtain ⟨y5, f5, l5⟩ := (X2.drew.keep b5).one; obtain ⟨i5, j5, k5, l6, m5, o5, r5⟩ := (X3.drew.keep b5).three))
  rename_i hH
  have hB := limb4 hH
  rw [qn.out] at hB
  rw [qn.out]
  clear hH
  have HB : Hid (Below w.heap.size w _) := B4.out.trans (hB.mono nV)
  have H5 : Hid (Sl w5 (.slice a5 zs.length c5) (zs.set (p * 8 + t).toNat x)) := by show Sl _ _ _; simpa using h5
  have N5 : Hid (Fresh W.heap.size (.slice a5 zs.length c5)) := by show Fresh _ _; simpa using n5
  clear hB h5 n5
  go_wp2
  refine bodyPost_ret (v := .tuple #[.agg #[.slice a5 zs.length c5], .agg #[.int .i64 p, .int .i64 h, .int .i64 ((t + 1) % 8)], .int .i64 0]) (by simp [results, Try.results49, go_sem, *]) rfl ⟨⟨_, _, _, _, by rw [HE.out], ?_, N5.out.mono (by omega), HG.out⟩, HB.out⟩
  rw [HF.out]
  refine Sl.setOther (Sl.setOther (Sl.setOther (Sl.setOther H5.out ?_ _) ?_ _) ?_ _) ?_ _ <;> exact N5.out.ne (by dsimp only; omega)
end Go.Proofs.Ytbnjckadgoofjaa
