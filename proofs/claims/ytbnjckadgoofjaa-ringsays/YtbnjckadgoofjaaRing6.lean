/-
  drawbridgeref's Popped: what it answers; nothing that was there turns.
-/
import Derived.Test.YtbnjckadgoofjaaRing5
namespace Go.Proofs.Ytbnjckadgoofjaa
open Go.RowKit

/-- Five cells that are read, and nothing below so many blocks that has turned. -/
theorem keepV {W w' : World} {m n b o N : Nat} {v u0 u1 u2 u3 : Value} (hv : W.cell? ⟨m, 0, none⟩ = some v) (h0 : W.cell? ⟨n, 0, none⟩ = some u0) (h1 : W.cell? ⟨n, 1, none⟩ = some u1) (h2 : W.cell? ⟨n, 2, none⟩ = some u2) (h3 : W.cell? ⟨b, o, none⟩ = some u3) (hm : m < N) (hn : n < N) (ho : b < N) (hb : Below N W w') :
    w'.cell? ⟨m, 0, none⟩ = some v ∧ w'.cell? ⟨n, 0, none⟩ = some u0 ∧ w'.cell? ⟨n, 1, none⟩ = some u1 ∧ w'.cell? ⟨n, 2, none⟩ = some u2 ∧ w'.cell? ⟨b, o, none⟩ = some u3 ∧ Below N W w' :=
  ⟨(hb.cell (p := ⟨m, 0, none⟩) hm).trans hv, (hb.cell (p := ⟨n, 0, none⟩) hn).trans h0, (hb.cell (p := ⟨n, 1, none⟩) hn).trans h1, (hb.cell (p := ⟨n, 2, none⟩) hn).trans h2, (hb.cell (p := ⟨b, o, none⟩) ho).trans h3, hb⟩

set_option maxHeartbeats 1000000 in
theorem popped_any (v : Value) (zs : List Int) (p h t : Int) (w : World) (hs : Sl w v zs) :
    Calls Try.prog 50 #[.agg #[v], .agg #[.int .i64 p, .int .i64 h, .int .i64 t]] w fun e w' =>
      (∃ p' h' t', e = .returned (.tuple #[.int .i64 (ppV zs p h t), .agg #[.int .i64 p', .int .i64 h', .int .i64 t'], .int .i64 (ppE zs p h t)]) ∧ ppR zs p h t = (p', h', t')) ∧ Below w.heap.size w w' := by
  obtain ⟨a0, c0, rfl⟩ := hs.shape
  go_enter Try.func50, Try.ntmps50
  go_wp2_with fail
  refine (checkMem_any _ zs _ (hs.keep (bel_alloc (bel_alloc (bel_alloc (Below.refl _ _) _) _) _))).mono ?_
  rintro e w1 ⟨rfl, b1⟩
  have X0 := ((Box.newAt (n := w.heap.size) (by simp) 28 #[.slice a0 zs.length c0]).past (.cells #[.int .i64 p, .int .i64 h, .int .i64 t] 71)).past (.cells #[.int .i64 0, .int .i64 0, .int .i64 0] 71) |>.keep b1
  have X1 := (Box.newAt (w := w.alloc (.cells #[.slice a0 zs.length c0] 28)) (n := w.heap.size + 1) (by simp) 71 #[.int .i64 p, .int .i64 h, .int .i64 t]).past _ |>.keep b1
  have X3 := (Box.newAt (n := w.heap.size + 1 + 1) (by simp) 71 #[.int .i64 0, .int .i64 0, .int .i64 0]) |>.keep b1
  have B1 : Hid (Below w.heap.size w w1) := bel_trans (bel_alloc (bel_alloc (bel_alloc (Below.refl _ _) _) _) _) b1
  clear b1
  obtain ⟨q0, -, s0⟩ := X0.one
  obtain ⟨q1, q2, q3, z1, z2, z3, s1⟩ := X1.three
  obtain ⟨u0, u1, u2, g0, g1, g2, s3⟩ := X3.three
  by_cases hz : chk zs = 0
  rotate_left
  · have hq : (chk zs != 0) = true := by simpa using hz
    have hq2 : (chk zs == 0) = false := by simpa using hz
    have hk : ¬ bothR zs p h t = 0 := fun k => hz (bothR_ok k).1
    have hkk : bothR zs p h t = chk zs := if_neg hz
    have HE : Hid (ppE zs p h t = chk zs) := by show _ = _; rw [ppE, if_neg hk, hkk]
    have HF : Hid (ppV zs p h t = 0) := if_neg (by rw [HE.out]; exact hz)
    have HG : Hid (ppR zs p h t = (0, 0, 0)) := if_neg (by rw [HE.out]; exact hz)
    clear hk hkk
    go_wp2
    refine bodyPost_ret (v := .tuple #[.int .i64 0, .agg #[.int .i64 0, .int .i64 0, .int .i64 0], .int .i64 (chk zs)]) (by simp [results, Try.results50, go_sem, *]) rfl ⟨⟨_, _, _, by rw [HE.out, HF.out], HG.out⟩, ?_⟩
    exact bel_set3 (by omega) B1.out _ _ _
  rw [hz]
  go_wp2_with fail
  refine (checkRing_any p h t _).mono ?_
  rintro e w2 ⟨rfl, rfl⟩
  by_cases hr : chkR p h t = 0
  rotate_left
  · have hq : (chkR p h t != 0) = true := by simpa using hr
    have hq2 : (chkR p h t == 0) = false := by simpa using hr
    have hk : ¬ bothR zs p h t = 0 := fun k => hr (bothR_ok k).2
    have hkk : bothR zs p h t = chkR p h t := if_pos hz
    have HE : Hid (ppE zs p h t = chkR p h t) := by show _ = _; rw [ppE, if_neg hk, hkk]
    have HF : Hid (ppV zs p h t = 0) := if_neg (by rw [HE.out]; exact hr)
    have HG : Hid (ppR zs p h t = (0, 0, 0)) := if_neg (by rw [HE.out]; exact hr)
    clear hk hkk
    go_wp2
    refine bodyPost_ret (v := .tuple #[.int .i64 0, .agg #[.int .i64 0, .int .i64 0, .int .i64 0], .int .i64 (chkR p h t)]) (by simp [results, Try.results50, go_sem, *]) rfl ⟨⟨_, _, _, by rw [HE.out, HF.out], HG.out⟩, ?_⟩
    (repeat (first | with_reducible exact B1.out | with_reducible refine bel_alloc ?_ _ | (with_reducible refine bel_set ?_ ?_ _; (focus (dsimp only; omega)))))
  have hk : bothR zs p h t = 0 := bothR_mk hz hr
  obtain ⟨rp, rh, rt⟩ := chkR_ok hr
  have Rp := pageR_in rp
  have Rh := stepR_in rh
  have Rt := stepR_in rt
  rw [hr]
  by_cases he : h = t
  · subst he
    have hbb : (h == h) = true := by simp
    have HE : Hid (ppE zs p h h = 6) := by show _ = _; rw [ppE, if_pos hk, if_pos rfl]
    have HF : Hid (ppV zs p h h = 0) := if_neg (by rw [HE.out]; decide)
    have HG : Hid (ppR zs p h h = (0, 0, 0)) := if_neg (by rw [HE.out]; decide)
    go_wp2
    refine bodyPost_ret (v := .tuple #[.int .i64 0, .agg #[.int .i64 0, .int .i64 0, .int .i64 0], .int .i64 6]) (by simp [results, Try.results50, go_sem, *]) rfl ⟨⟨_, _, _, by rw [HE.out, HF.out], HG.out⟩, ?_⟩
    (repeat (first | with_reducible exact B1.out | with_reducible refine bel_alloc ?_ _ | (with_reducible refine bel_set ?_ ?_ _; (focus (dsimp only; omega)))))
  have hbb : (h == t) = false := by simpa using he
  have HE : Hid (ppE zs p h t = 0) := by show _ = _; rw [ppE, if_pos hk, if_neg he]
  have HF : Hid (ppV zs p h t = nth zs (p * 8 + h).toNat) := if_pos HE.out
  have HG : Hid (ppR zs p h t = (p, (h + 1) % 8, t)) := if_pos HE.out
  clear he
  have X0 := X0.past (ringB p h t)
  have X1 := X1.past (ringB p h t)
  have X3 := X3.past (ringB p h t)
  have B4 : Hid (Below w.heap.size w (w1.alloc (ringB p h t))) := bel_alloc B1.out _
  have hl512 : zs.length = 512 := (chk_ok hz).1
  obtain ⟨b, o, cap, he, hb, hc⟩ := hs.open512 hl512
  simp only [Value.slice.injEq] at he
  obtain ⟨rfl, hll, rfl⟩ := he
  obtain ⟨p0, p1⟩ := Rp
  obtain ⟨h0, h1⟩ := Rh
  have gk0 := hc (p * 8 + h).toNat (by omega)
  have gk := (B4.out.cell (p := ⟨b, o + (p * 8 + h).toNat, none⟩) hb).trans gk0
  have k0 : 0 ≤ p * 8 + h := by omega
  have k1 : p * 8 + h < (zs.length : Int) := by omega
  have qp : IntKind.i64.wrap (p * 8) = p * 8 := wrapR _ (by omega) (by omega)
  have qw : IntKind.i64.wrap (p * 8 + h) = p * 8 + h := wrapR _ (by omega) (by omega)
  have qm : IntKind.i64.wrap (h + 1) = h + 1 := wrapR _ (by omega) (by omega)
  have qn : (h + 1).tmod 8 = (h + 1) % 8 := Int.tmod_eq_emod_of_nonneg (by omega)
  clear q0 q1 q2 q3 z1 z2 z3 u0 u1 u2 g0 g1 g2 s0 s1 s3 hc B1 gk0 hl512 hll
  obtain ⟨q0, -, s0⟩ := X0.one
  obtain ⟨q1, q2, q3, z1, z2, z3, s1⟩ := X1.three
  obtain ⟨u0, u1, u2, g0, g1, g2, s3⟩ := X3.three
  generalize nth zs (p * 8 + h).toNat = y at *
  go_upto_region 8 with fail
  generalize w1.alloc (ringB p h t) = W at *
  have nW : w.heap.size + 1 + 1 ≤ W.heap.size := by omega
  have nV : w.heap.size ≤ w.heap.size + 1 + 1 := by omega
  have n0 : w.heap.size < w.heap.size + 1 + 1 := by omega
  have n1 : w.heap.size + 1 < w.heap.size + 1 + 1 := by omega
  have n2 : b < w.heap.size + 1 + 1 := by omega
  go_region_held3 (fun w' => w'.cell? ⟨w.heap.size, 0, none⟩ = some (.slice (some ⟨b, o, none⟩) zs.length c0) ∧ w'.cell? ⟨w.heap.size + 1, 0, none⟩ = some (.int .i64 p) ∧ w'.cell? ⟨w.heap.size + 1, 1, none⟩ = some (.int .i64 h) ∧ w'.cell? ⟨w.heap.size + 1, 2, none⟩ = some (.int .i64 t) ∧ w'.cell? ⟨b, o + (p * 8 + h).toNat, none⟩ = some (.int .i64 y) ∧ Below (w.heap.size + 1 + 1) W w')
    (with_reducible refine keepV q0 q1 q2 q3 gk n0 n1 n2 ?_; (repeat (first | with_reducible assumption | (with_reducible (refine limbV (?_ : _ ∧ _ ∧ _ ∧ _ ∧ _ ∧ _); assumption)) | with_reducible exact Below.refl _ _ | with_reducible refine Below.drew ?_ | with_reducible refine below_drewN ?_ _ | (with_reducible refine belN_alloc nW ?_ _) | (with_reducible refine belN_set ?_ ?_ _; (focus (first | with_reducible exact Nat.le_refl _ | with_reducible exact Nat.le_succ _))) | (with_reducible refine belN_trans (by assumption) nW ?_))))
    (fail)
  rename_i hH
  have HB : Hid (Below w.heap.size w _) := B4.out.trans ((limbV hH).mono nV)
  clear hH
  go_wp2
  refine bodyPost_ret (v := .tuple #[.int .i64 y, .agg #[.int .i64 p, .int .i64 ((h + 1) % 8), .int .i64 t], .int .i64 0]) (by simp [results, Try.results50, go_sem, *]) rfl ⟨⟨_, _, _, by rw [HE.out, HF.out], HG.out⟩, HB.out⟩
end Go.Proofs.Ytbnjckadgoofjaa
