/-
  ring.Push: a memory of its own with a word more in the ring, and the ring then; nothing that was there turns.
-/
import Derived.Test.YtemnklppplgcoabRing1
import Derived.Test.YtemnklppplgcoabBox
import Derived.Test.YtemnklppplgcoabStored
import Derived.Test.YtemnklppplgcoabKeepsWalk
import Derived.Deep.RegionHeld3
import Derived.Deep.DrawnRows
import Derived.Deep.CutRange
namespace Go.Proofs.Ytemnklppplgcoab
open Go.RowKit

/-- What Push answers: the error, the words, the ring. -/
def psE (zs : List Int) (p h t x : Int) : Int := if bothR zs p h t = 0 then (if wordB x = true then (if lenR h t = 7 then 1 else 0) else 2) else bothR zs p h t
def psM (zs : List Int) (p h t x : Int) : List Int := if psE zs p h t x = 0 then zs.set (p * 8 + t).toNat x else []
def psR (zs : List Int) (p h t x : Int) : Int × Int × Int := if psE zs p h t x = 0 then (p, h, (t + 1) % 8) else (0, 0, 0)

theorem bothR_ok {zs : List Int} {p h t : Int} (k : bothR zs p h t = 0) : chk zs = 0 ∧ chkR p h t = 0 := by
  unfold bothR at k
  by_cases hk : chk zs = 0
  · rw [if_pos hk] at k; exact ⟨hk, k⟩
  · rw [if_neg hk] at k; exact absurd k hk
theorem bothR_mk {zs : List Int} {p h t : Int} (a : chk zs = 0) (b : chkR p h t = 0) : bothR zs p h t = 0 := by rw [bothR, if_pos a, b]
theorem place_ok {p t : Int} (hp : pageR p = true) (ht : stepR t = true) : placeB (p * 8 + t) = true := by
  obtain ⟨a, b⟩ := pageR_in hp
  obtain ⟨c, d⟩ := stepR_in ht
  simp [placeB]; omega

/-- Four cells that are read, and nothing that has turned. -/
theorem keep31 {W w' : World} {m n : Nat} {v u0 u1 u2 : Value} (hv : W.cell? ⟨m, 0, none⟩ = some v) (h0 : W.cell? ⟨n, 0, none⟩ = some u0) (h1 : W.cell? ⟨n, 1, none⟩ = some u1) (h2 : W.cell? ⟨n, 2, none⟩ = some u2) (hm : m < W.heap.size) (hn : n < W.heap.size) (hb : Below W.heap.size W w') :
    w'.cell? ⟨m, 0, none⟩ = some v ∧ w'.cell? ⟨n, 0, none⟩ = some u0 ∧ w'.cell? ⟨n, 1, none⟩ = some u1 ∧ w'.cell? ⟨n, 2, none⟩ = some u2 ∧ Below W.heap.size W w' :=
  ⟨((bcell hb).1 m 0 hm).trans hv, ((bcell hb).1 n 0 hn).trans h0, ((bcell hb).1 n 1 hn).trans h1, ((bcell hb).1 n 2 hn).trans h2, hb⟩
theorem limb4 {A B C D E : Prop} (h : A ∧ B ∧ C ∧ D ∧ E) : E := h.2.2.2.2

set_option maxHeartbeats 2000000 in
theorem push_any (v : Value) (zs : List Int) (p h t x : Int) (w : World) (hs : Sl w v zs) :
    Calls Try.prog 63 #[.agg #[v], .agg #[.int .i64 p, .int .i64 h, .int .i64 t], .int .i64 x] w fun e w' =>
      (∃ v' p' h' t', e = .returned (.tuple #[.agg #[v'], .agg #[.int .i64 p', .int .i64 h', .int .i64 t'], .int .i64 (psE zs p h t x)]) ∧ Sl w' v' (psM zs p h t x) ∧ Fresh w.heap.size v' ∧ psR zs p h t x = (p', h', t')) ∧ Below w.heap.size w w' := by
  obtain ⟨a0, c0, rfl⟩ := hs.shape
  go_enter Try.func63, Try.ntmps63
  go_wp2_with fail
  refine (checkBoth_any _ zs p h t _ (hs.keep (bel_alloc (bel_alloc (bel_alloc (bel_alloc (Below.refl _ _) _) _) _) _))).mono ?_
  rintro e w1 ⟨rfl, b1⟩
  have X0 := (((Box.newAt (n := w.heap.size) (by simp) 39 #[.slice a0 zs.length c0]).past (.cells #[.int .i64 p, .int .i64 h, .int .i64 t] 42)).past (.cells #[.slice none 0 0] 39)).past (.cells #[.int .i64 0, .int .i64 0, .int .i64 0] 42) |>.keep b1
  have X1 := ((Box.newAt (w := w.alloc (.cells #[.slice a0 zs.length c0] 39)) (n := w.heap.size + 1) (by simp) 42 #[.int .i64 p, .int .i64 h, .int .i64 t]).past _).past _ |>.keep b1
  have X2 := (Box.newAt (n := w.heap.size + 1 + 1) (by simp) 39 #[.slice none 0 0]).past _ |>.keep b1
  have X3 := (Box.newAt (n := w.heap.size + 1 + 1 + 1) (by simp) 42 #[.int .i64 0, .int .i64 0, .int .i64 0]) |>.keep b1
  have B1 : Hid (Below w.heap.size w w1) := bel_trans (bel_alloc (bel_alloc (bel_alloc (bel_alloc (Below.refl _ _) _) _) _) _) b1
  clear b1
  obtain ⟨q0, -, s0⟩ := X0.one
  obtain ⟨q1, q2, q3, z1, z2, z3, s1⟩ := X1.three
  obtain ⟨y0, y1, s2⟩ := X2.one
  obtain ⟨u0, u1, u2, g0, g1, g2, s3⟩ := X3.three
  by_cases hk : bothR zs p h t = 0
  rotate_left
  · have hq : (bothR zs p h t != 0) = true := by simpa using hk
    have HE : Hid (psE zs p h t x = bothR zs p h t) := if_neg hk
    have HF : Hid (psM zs p h t x = []) := if_neg (by rw [HE.out]; exact hk)
    have HG : Hid (psR zs p h t x = (0, 0, 0)) := if_neg (by rw [HE.out]; exact hk)
    go_wp2
    refine bodyPost_ret (v := .tuple #[.agg #[.slice none 0 0], .agg #[.int .i64 0, .int .i64 0, .int .i64 0], .int .i64 (bothR zs p h t)]) (by simp [results, Try.results63, go_sem, *]) rfl ⟨⟨_, _, _, _, by rw [HE.out], by rw [HF.out]; exact Sl.nil _ _ _, Fresh.none _ _ _, HG.out⟩, ?_⟩
    exact bel_set3 (by omega) (bel_set1 (by omega) B1.out _) _ _ _
  obtain ⟨hz, hr⟩ := bothR_ok hk
  obtain ⟨rp, rh, rt⟩ := chkR_ok hr
  have hpl := place_ok rp rt
  have Rp := pageR_in rp
  have Rh := stepR_in rh
  have Rt := stepR_in rt
  rw [hk]
  have HZ : Hid (Sl w1 (.slice a0 zs.length c0) zs) := hs.keep B1.out
  go_upto_region 4 with fail
  go_cut [10, 11] from 20 to 29 (fun s u wx => ∃ n a c, s = .pointer (some ⟨n, 0, none⟩) ∧ u = .int .i64 (wrE zs (p * 8 + t) x) ∧ Box wx n 39 #[.slice a (wrM zs (p * 8 + t) x).length c] ∧ Sl wx (.slice a (wrM zs (p * 8 + t) x).length c) (wrM zs (p * 8 + t) x) ∧ Fresh w1.heap.size (.slice a (wrM zs (p * 8 + t) x).length c) ∧ w1.heap.size ≤ n ∧ Below w1.heap.size w1 wx)
  case first =>
    go_region_held3 (fun w' => w'.cell? ⟨w.heap.size, 0, none⟩ = some (.slice a0 zs.length c0) ∧ w'.cell? ⟨w.heap.size + 1, 0, none⟩ = some (.int .i64 p) ∧ w'.cell? ⟨w.heap.size + 1, 1, none⟩ = some (.int .i64 h) ∧ w'.cell? ⟨w.heap.size + 1, 2, none⟩ = some (.int .i64 t) ∧ Below w1.heap.size w1 w')
      (with_reducible refine keep31 (by assumption) (by assumption) (by assumption) (by assumption) (by assumption) (by assumption) ?_; (repeat (first | with_reducible assumption | (with_reducible (refine limb4 (?_ : _ ∧ _ ∧ _ ∧ _ ∧ _); assumption)) | with_reducible exact Below.refl _ _ | with_reducible refine Below.drew ?_ | with_reducible refine bel_drewN ?_ _ | with_reducible refine bel_alloc ?_ _ | (with_reducible refine bel_set1 ?_ ?_ _; (focus (first | (simp; done) | (simp; omega) | omega))) | with_reducible refine bel_trans ?_ (by assumption))))
      (first
        | (go_at_call 72; refine (place_any p h t t _ Rp Rt).mono ?_; rintro e w2 ⟨rfl, rfl⟩)
        | (go_at_call 88; refine (write_anyN _ zs (p * 8 + t) x _ ?_).mono ?_; (focus (refine HZ.out.keep ?_; (repeat (first | with_reducible assumption | (with_reducible (refine limb4 (?_ : _ ∧ _ ∧ _ ∧ _ ∧ _); assumption)) | with_reducible exact Below.refl _ _ | with_reducible refine Below.drew ?_ | with_reducible refine bel_drewN ?_ _ | with_reducible refine bel_alloc ?_ _ | (with_reducible refine bel_set1 ?_ ?_ _; (focus (first | (simp; done) | (simp; omega) | omega))) | with_reducible refine bel_trans ?_ (by assumption))))); rintro e w3 ⟨v3, rfl, h3, n3, b3⟩; obtain ⟨a3, c3, rfl⟩ := h3.shape; obtain ⟨c3, f3⟩ := bcell b3))
    all_goals (go_wp2_with fail; go_meet)
    · have z3 := b3.size
      exact ⟨_, _, _, rfl, rfl, Box.newAt rfl _ _, h3.keep (bel_alloc (Below.refl _ _) _), n3.mono (by simp), by simp at z3; omega, limb4 (by with_reducible assumption)⟩
    · have K := (Box.newAt (w := w1.alloc (ringB p h t)) (n := w1.heap.size + 1) (by simp) 39 #[.slice none 0 0]).drew.keep b3
      exact ⟨_, _, _, rfl, rfl, K.set1 _, h3.setSlice (K.cell 0) _, n3.mono (by simp; omega), by omega, limb4 (by with_reducible assumption)⟩
    · have K := ((Box.newAt (w := w1) (n := w1.heap.size) rfl 39 #[.slice none 0 0]).past (ringB p h t)).drew.keep b3
      exact ⟨_, _, _, rfl, rfl, K.set1 _, h3.setSlice (K.cell 0) _, n3.mono (by simp; omega), by omega, limb4 (by with_reducible assumption)⟩
  case rest =>
    obtain ⟨n, a3, c3, rfl, rfl, XN, HN, NN, hn, Bc⟩ := hcut
    have NF : Hid (Fresh w1.heap.size (.slice a3 (wrM zs (p * 8 + t) x).length c3)) := NN
    have NW : Hid (w.heap.size + 1 + 1 + 1 < w1.heap.size) := s3
    clear NN
    have X1 := X1.keep Bc
    have X2 := X2.keep Bc
    have X3 := X3.keep Bc
    have BC : Hid (Below w.heap.size w wc) := bel_trans B1.out Bc
    clear Bc B1 X0 q0 q1 q2 q3 z1 z2 z3 y0 y1 u0 u1 u2 g0 g1 g2 s0 s1 s2 s3 HZ
    obtain ⟨q1, q2, q3, z1, z2, z3, s1⟩ := X1.three
    obtain ⟨y0, y1, s2⟩ := X2.one
    obtain ⟨u0, u1, u2, g0, g1, g2, s3⟩ := X3.three
    obtain ⟨n0, -, sn⟩ := XN.one
    cases hx : wordB x
    · have HE : Hid (psE zs p h t x = 2) := by show _ = _; simp [psE, hk, hx]
      have HF : Hid (psM zs p h t x = []) := if_neg (by rw [HE.out]; decide)
      have HG : Hid (psR zs p h t x = (0, 0, 0)) := if_neg (by rw [HE.out]; decide)
      have e2 : wrE zs (p * 8 + t) x = 2 := by simp [wrE, hz, hpl, hx]
      rw [e2]
      go_wp2
      refine bodyPost_ret (v := .tuple #[.agg #[.slice none 0 0], .agg #[.int .i64 0, .int .i64 0, .int .i64 0], .int .i64 2]) (by simp [results, Try.results63, go_sem, *]) rfl ⟨⟨_, _, _, _, by rw [HE.out], by rw [HF.out]; exact Sl.nil _ _ _, Fresh.none _ _ _, HG.out⟩, ?_⟩
      exact bel_set3 (by omega) (bel_set1 (by omega) BC.out _) _ _ _
    have e2 : wrE zs (p * 8 + t) x = 0 := by simp [wrE, hz, hpl, hx]
    have m2 : wrM zs (p * 8 + t) x = zs.set (p * 8 + t).toNat x := wrM_ok hz hpl hx
    rw [e2]
    generalize wrM zs (p * 8 + t) x = zn at *
    have MZ : Hid (zn = zs.set (p * 8 + t).toNat x) := m2
    clear m2 e2
    go_wp2_with fail
    refine (length_any p h t _ Rh Rt).mono ?_
    rintro e w4 ⟨rfl, rfl⟩
    by_cases hl : lenR h t = 7
    · have HE : Hid (psE zs p h t x = 1) := by show _ = _; simp [psE, hk, hx, hl]
      have HF : Hid (psM zs p h t x = []) := if_neg (by rw [HE.out]; decide)
      have HG : Hid (psR zs p h t x = (0, 0, 0)) := if_neg (by rw [HE.out]; decide)
      rw [hl]
      go_wp2
      refine bodyPost_ret (v := .tuple #[.agg #[.slice none 0 0], .agg #[.int .i64 0, .int .i64 0, .int .i64 0], .int .i64 1]) (by simp [results, Try.results63, go_sem, *]) rfl ⟨⟨_, _, _, _, by rw [HE.out], by rw [HF.out]; exact Sl.nil _ _ _, Fresh.none _ _ _, HG.out⟩, ?_⟩
      (repeat (first | with_reducible exact BC.out | with_reducible refine bel_alloc ?_ _ | (with_reducible refine bel_set ?_ ?_ _; (focus (dsimp only; omega)))))
    have HE : Hid (psE zs p h t x = 0) := by show _ = _; simp [psE, hk, hx, hl]
    have HF : Hid (psM zs p h t x = zs.set (p * 8 + t).toNat x) := if_pos HE.out
    have HG : Hid (psR zs p h t x = (p, h, (t + 1) % 8)) := if_pos HE.out
    have hq : (lenR h t == 7) = false := by simpa using hl
    go_wp2_with fail
    refine (next_any t _ Rt).mono ?_
    rintro e w5 ⟨rfl, rfl⟩
    go_wp2
    go_region
    go_wp2
    refine bodyPost_ret (v := .tuple #[.agg #[.slice a3 zn.length c3], .agg #[.int .i64 p, .int .i64 h, .int .i64 ((t + 1) % 8)], .int .i64 0]) (by simp [results, Try.results63, go_sem, *]) rfl ⟨⟨_, _, _, _, by rw [HE.out], ?_, NF.out.mono (by have := NW.out; omega), HG.out⟩, ?_⟩
    · rw [HF.out, ← MZ.out]
      refine Sl.keep ?_ (Below.drew (bel_alloc (Below.refl _ _) _))
      refine Sl.setOther (Sl.setOther (Sl.setOther (Sl.setOther (Sl.setOther HN ?_ _) ?_ _) ?_ _) ?_ _) ?_ _ <;> (have := NW.out; exact NF.out.ne (by dsimp only; omega))
    · refine Below.drew (bel_alloc ?_ _)
      (repeat (first | with_reducible exact BC.out | with_reducible refine bel_alloc ?_ _ | (with_reducible refine bel_set ?_ ?_ _; (focus (dsimp only; omega)))))
end Go.Proofs.Ytemnklppplgcoab
