/-
  ring.Pop: the word that waits longest, and the ring without it; nothing that was there turns.
-/
import Derived.Test.YtemnklppplgcoabRing2
namespace Go.Proofs.Ytemnklppplgcoab
open Go.RowKit

/-- What Pop answers: the error, the word, the ring. -/
def ppE (zs : List Int) (p h t : Int) : Int := if bothR zs p h t = 0 then (if h = t then 6 else 0) else bothR zs p h t
def ppV (zs : List Int) (p h t : Int) : Int := if ppE zs p h t = 0 then nth zs (p * 8 + h).toNat else 0
def ppR (zs : List Int) (p h t : Int) : Int × Int × Int := if ppE zs p h t = 0 then (p, (h + 1) % 8, t) else (0, 0, 0)

theorem lenR_zero {h t : Int} (hh : 0 ≤ h ∧ h < 8) (ht : 0 ≤ t ∧ t < 8) : lenR h t = 0 ↔ h = t := by unfold lenR; omega

/-- Five cells that are read, and nothing that has turned. -/
theorem keep32 {W w' : World} {m n b o : Nat} {v u0 u1 u2 u3 : Value} (hv : W.cell? ⟨m, 0, none⟩ = some v) (h0 : W.cell? ⟨n, 0, none⟩ = some u0) (h1 : W.cell? ⟨n, 1, none⟩ = some u1) (h2 : W.cell? ⟨n, 2, none⟩ = some u2) (h3 : W.cell? ⟨b, o, none⟩ = some u3) (hm : m < W.heap.size) (hn : n < W.heap.size) (ho : b < W.heap.size) (hb : Below W.heap.size W w') :
    w'.cell? ⟨m, 0, none⟩ = some v ∧ w'.cell? ⟨n, 0, none⟩ = some u0 ∧ w'.cell? ⟨n, 1, none⟩ = some u1 ∧ w'.cell? ⟨n, 2, none⟩ = some u2 ∧ w'.cell? ⟨b, o, none⟩ = some u3 ∧ Below W.heap.size W w' :=
  ⟨((bcell hb).1 m 0 hm).trans hv, ((bcell hb).1 n 0 hn).trans h0, ((bcell hb).1 n 1 hn).trans h1, ((bcell hb).1 n 2 hn).trans h2, ((bcell hb).1 b o ho).trans h3, hb⟩
theorem limbV {A B C D E F : Prop} (h : A ∧ B ∧ C ∧ D ∧ E ∧ F) : F := h.2.2.2.2.2

set_option maxHeartbeats 2000000 in
theorem pop_any (v : Value) (zs : List Int) (p h t : Int) (w : World) (hs : Sl w v zs) :
    Calls Try.prog 41 #[.agg #[v], .agg #[.int .i64 p, .int .i64 h, .int .i64 t]] w fun e w' =>
      (∃ p' h' t', e = .returned (.tuple #[.int .i64 (ppV zs p h t), .agg #[.int .i64 p', .int .i64 h', .int .i64 t'], .int .i64 (ppE zs p h t)]) ∧ ppR zs p h t = (p', h', t')) ∧ Below w.heap.size w w' := by
  obtain ⟨a0, c0, rfl⟩ := hs.shape
  go_enter Try.func41, Try.ntmps41
  go_wp2_with fail
  refine (checkBoth_any _ zs p h t _ (hs.keep (bel_alloc (bel_alloc (bel_alloc (Below.refl _ _) _) _) _))).mono ?_
  rintro e w1 ⟨rfl, b1⟩
  have X0 := ((Box.newAt (n := w.heap.size) (by simp) 39 #[.slice a0 zs.length c0]).past (.cells #[.int .i64 p, .int .i64 h, .int .i64 t] 42)).past (.cells #[.int .i64 0, .int .i64 0, .int .i64 0] 42) |>.keep b1
  have X1 := (Box.newAt (w := w.alloc (.cells #[.slice a0 zs.length c0] 39)) (n := w.heap.size + 1) (by simp) 42 #[.int .i64 p, .int .i64 h, .int .i64 t]).past _ |>.keep b1
  have X3 := (Box.newAt (n := w.heap.size + 1 + 1) (by simp) 42 #[.int .i64 0, .int .i64 0, .int .i64 0]) |>.keep b1
  have B1 : Hid (Below w.heap.size w w1) := bel_trans (bel_alloc (bel_alloc (bel_alloc (Below.refl _ _) _) _) _) b1
  clear b1
  obtain ⟨q0, -, s0⟩ := X0.one
  obtain ⟨q1, q2, q3, z1, z2, z3, s1⟩ := X1.three
  obtain ⟨u0, u1, u2, g0, g1, g2, s3⟩ := X3.three
  by_cases hk : bothR zs p h t = 0
  rotate_left
  · have hq : (bothR zs p h t != 0) = true := by simpa using hk
    have HE : Hid (ppE zs p h t = bothR zs p h t) := if_neg hk
    have HF : Hid (ppV zs p h t = 0) := if_neg (by rw [HE.out]; exact hk)
    have HG : Hid (ppR zs p h t = (0, 0, 0)) := if_neg (by rw [HE.out]; exact hk)
    go_wp2
    refine bodyPost_ret (v := .tuple #[.int .i64 0, .agg #[.int .i64 0, .int .i64 0, .int .i64 0], .int .i64 (bothR zs p h t)]) (by simp [results, Try.results41, go_sem, *]) rfl ⟨⟨_, _, _, by rw [HE.out, HF.out], HG.out⟩, ?_⟩
    exact bel_set3 (by omega) B1.out _ _ _
  obtain ⟨hz, hr⟩ := bothR_ok hk
  obtain ⟨rp, rh, rt⟩ := chkR_ok hr
  have hpl := place_ok rp rh
  have Rp := pageR_in rp
  have Rh := stepR_in rh
  have Rt := stepR_in rt
  have HL : Hid (lenR h t = 0 ↔ h = t) := lenR_zero Rh Rt
  rw [hk]
  go_wp2_with fail
  refine (length_any p h t _ Rh Rt).mono ?_
  rintro e w4 ⟨rfl, rfl⟩
  by_cases hl : lenR h t = 0
  · have he := HL.out.1 hl
    have HE : Hid (ppE zs p h t = 6) := by show _ = _; rw [ppE, if_pos hk, if_pos he]
    have HF : Hid (ppV zs p h t = 0) := if_neg (by rw [HE.out]; decide)
    have HG : Hid (ppR zs p h t = (0, 0, 0)) := if_neg (by rw [HE.out]; decide)
    clear he
    rw [hl]
    go_wp2
    refine bodyPost_ret (v := .tuple #[.int .i64 0, .agg #[.int .i64 0, .int .i64 0, .int .i64 0], .int .i64 6]) (by simp [results, Try.results41, go_sem, *]) rfl ⟨⟨_, _, _, by rw [HE.out, HF.out], HG.out⟩, ?_⟩
    (repeat (first | with_reducible exact B1.out | with_reducible refine bel_alloc ?_ _ | (with_reducible refine bel_set ?_ ?_ _; (focus (dsimp only; omega)))))
  have hne : ¬ h = t := fun e => hl (HL.out.2 e)
  have HE : Hid (ppE zs p h t = 0) := by show _ = _; rw [ppE, if_pos hk, if_neg hne]
  have HF : Hid (ppV zs p h t = nth zs (p * 8 + h).toNat) := if_pos HE.out
  have HG : Hid (ppR zs p h t = (p, (h + 1) % 8, t)) := if_pos HE.out
  have hq : (lenR h t == 0) = false := by simpa using hl
  clear hne
  have X0 := X0.past (ringB p h t)
  have X1 := X1.past (ringB p h t)
  have X3 := X3.past (ringB p h t)
  have B4 : Hid (Below w.heap.size w (w1.alloc (ringB p h t))) := bel_alloc B1.out _
  have hl512 : zs.length = 512 := (chk_ok hz).1
  obtain ⟨b, o, cap, he, hb, hc⟩ := (hs.keep B4.out).open512 hl512
  simp only [Value.slice.injEq] at he
  obtain ⟨rfl, hll, rfl⟩ := he
  obtain ⟨p0, p1⟩ := Rp
  obtain ⟨h0, h1⟩ := Rh
  have gk := hc (p * 8 + h).toNat (by omega)
  have k0 : 0 ≤ p * 8 + h := by omega
  have k1 : p * 8 + h < (zs.length : Int) := by omega
  clear q0 q1 q2 q3 z1 z2 z3 u0 u1 u2 g0 g1 g2 s0 s1 s3 hc B1
  obtain ⟨q0, -, s0⟩ := X0.one
  obtain ⟨q1, q2, q3, z1, z2, z3, s1⟩ := X1.three
  obtain ⟨u0, u1, u2, g0, g1, g2, s3⟩ := X3.three
  have HL5 : Hid (zs.length = 512) := hl512
  clear hl512 hll
  go_upto_region 6 with fail
  generalize w1.alloc (ringB p h t) = W at *
  go_cut [8] from 20 to 27 (fun s wx => s = .int .i64 (nth zs (p * 8 + h).toNat) ∧ Below W.heap.size W wx)
  case first =>
    go_region_held3 (fun w' => w'.cell? ⟨w.heap.size, 0, none⟩ = some (.slice (some ⟨b, o, none⟩) zs.length c0) ∧ w'.cell? ⟨w.heap.size + 1, 0, none⟩ = some (.int .i64 p) ∧ w'.cell? ⟨w.heap.size + 1, 1, none⟩ = some (.int .i64 h) ∧ w'.cell? ⟨w.heap.size + 1, 2, none⟩ = some (.int .i64 t) ∧ w'.cell? ⟨b, o + (p * 8 + h).toNat, none⟩ = some (.int .i64 (nth zs (p * 8 + h).toNat)) ∧ Below W.heap.size W w')
      (with_reducible refine keep32 (by assumption) (by assumption) (by assumption) (by assumption) (by assumption) (by assumption) (by assumption) (by assumption) ?_; (repeat (first | with_reducible assumption | (with_reducible (refine limbV (?_ : _ ∧ _ ∧ _ ∧ _ ∧ _ ∧ _); assumption)) | with_reducible exact Below.refl _ _ | with_reducible refine Below.drew ?_ | with_reducible refine bel_drewN ?_ _ | with_reducible refine bel_alloc ?_ _ | (with_reducible refine bel_set1 ?_ ?_ _; (focus (first | (simp; done) | (simp; omega) | omega))) | with_reducible refine bel_trans ?_ (by assumption))))
      (first
        | (go_at_call 72; refine (place_any p h t h _ ⟨p0, p1⟩ ⟨h0, h1⟩).mono ?_; rintro e w2 ⟨rfl, rfl⟩))
    all_goals (go_wp2_with fail; go_meet)
    exact ⟨rfl, Below.drew (bel_alloc (Below.refl _ _) _)⟩
  case rest =>
    obtain ⟨rfl, Bc⟩ := hcut
    have X1 := X1.keep Bc
    have X3 := X3.keep Bc
    have BC : Hid (Below w.heap.size w wc) := bel_trans B4.out Bc
    clear Bc B4 X0 q0 q1 q2 q3 z1 z2 z3 u0 u1 u2 g0 g1 g2 s0 s1 s3 gk hb
    obtain ⟨q1, q2, q3, z1, z2, z3, s1⟩ := X1.three
    obtain ⟨u0, u1, u2, g0, g1, g2, s3⟩ := X3.three
    generalize nth zs (p * 8 + h).toNat = y at *
    go_wp2_with fail
    refine (next_any h _ ⟨h0, h1⟩).mono ?_
    rintro e w5 ⟨rfl, rfl⟩
    go_wp2
    go_region
    go_wp2
    refine bodyPost_ret (v := .tuple #[.int .i64 y, .agg #[.int .i64 p, .int .i64 ((h + 1) % 8), .int .i64 t], .int .i64 0]) (by simp [results, Try.results41, go_sem, *]) rfl ⟨⟨_, _, _, by rw [HE.out, HF.out], HG.out⟩, ?_⟩
    refine Below.drew ?_
    (repeat (first | with_reducible exact BC.out | with_reducible refine bel_alloc ?_ _ | (with_reducible refine bel_set ?_ ?_ _; (focus (dsimp only; omega)))))

/-- Pop of what waits, and of nothing. -/
theorem pop_ok {v : Value} {zs : List Int} {p h t : Int} {w : World} (hs : Sl w v zs) (hz : chk zs = 0) (hr : chkR p h t = 0) (hne : ¬ h = t) :
    Calls Try.prog 41 #[.agg #[v], .agg #[.int .i64 p, .int .i64 h, .int .i64 t]] w fun e w' =>
      e = .returned (.tuple #[.int .i64 (nth zs (p * 8 + h).toNat), .agg #[.int .i64 p, .int .i64 ((h + 1) % 8), .int .i64 t], .int .i64 0]) ∧ Below w.heap.size w w' := by
  refine (pop_any v zs p h t w hs).mono ?_
  rintro e w' ⟨⟨p', h', t', rfl, hR⟩, hb⟩
  have e0 : ppE zs p h t = 0 := by rw [ppE, if_pos (bothR_mk hz hr), if_neg hne]
  rw [ppR, if_pos e0] at hR
  simp only [Prod.mk.injEq] at hR
  obtain ⟨rfl, rfl, rfl⟩ := hR
  rw [ppV, if_pos e0, e0]
  exact ⟨rfl, hb⟩
theorem pop_none {v : Value} {zs : List Int} {p h : Int} {w : World} (hs : Sl w v zs) (hz : chk zs = 0) (hr : chkR p h h = 0) :
    Calls Try.prog 41 #[.agg #[v], .agg #[.int .i64 p, .int .i64 h, .int .i64 h]] w fun e w' =>
      e = .returned (.tuple #[.int .i64 0, .agg #[.int .i64 0, .int .i64 0, .int .i64 0], .int .i64 6]) ∧ Below w.heap.size w w' := by
  refine (pop_any v zs p h h w hs).mono ?_
  rintro e w' ⟨⟨p', h', t', rfl, hR⟩, hb⟩
  have e0 : ppE zs p h h = 6 := by rw [ppE, if_pos (bothR_mk hz hr), if_pos rfl]
  rw [ppR, if_neg (by rw [e0]; decide)] at hR
  simp only [Prod.mk.injEq] at hR
  obtain ⟨rfl, rfl, rfl⟩ := hR
  rw [ppV, if_neg (by rw [e0]; decide), e0]
  exact ⟨rfl, hb⟩
/-- Push where there is room, and where there is none. -/
theorem push_ok {v : Value} {zs : List Int} {p h t x : Int} {w : World} (hs : Sl w v zs) (hz : chk zs = 0) (hr : chkR p h t = 0) (hx : wordB x = true) (hl : ¬ lenR h t = 7) :
    Calls Try.prog 63 #[.agg #[v], .agg #[.int .i64 p, .int .i64 h, .int .i64 t], .int .i64 x] w fun e w' =>
      ∃ v', e = .returned (.tuple #[.agg #[v'], .agg #[.int .i64 p, .int .i64 h, .int .i64 ((t + 1) % 8)], .int .i64 0]) ∧ Sl w' v' (zs.set (p * 8 + t).toNat x) ∧ Fresh w.heap.size v' ∧ Below w.heap.size w w' := by
  refine (push_any v zs p h t x w hs).mono ?_
  rintro e w' ⟨⟨v', p', h', t', rfl, hS, hF, hR⟩, hb⟩
  have e0 : psE zs p h t x = 0 := by rw [psE, if_pos (bothR_mk hz hr), if_pos hx, if_neg hl]
  rw [psR, if_pos e0] at hR
  simp only [Prod.mk.injEq] at hR
  obtain ⟨rfl, rfl, rfl⟩ := hR
  rw [psM, if_pos e0] at hS
  rw [e0]
  exact ⟨v', rfl, hS, hF, hb⟩
theorem push_full {v : Value} {zs : List Int} {p h t x : Int} {w : World} (hs : Sl w v zs) (hz : chk zs = 0) (hr : chkR p h t = 0) (hx : wordB x = true) (hl : lenR h t = 7) :
    Calls Try.prog 63 #[.agg #[v], .agg #[.int .i64 p, .int .i64 h, .int .i64 t], .int .i64 x] w fun e w' =>
      ∃ a c, e = .returned (.tuple #[.agg #[.slice a 0 c], .agg #[.int .i64 0, .int .i64 0, .int .i64 0], .int .i64 1]) ∧ Below w.heap.size w w' := by
  refine (push_any v zs p h t x w hs).mono ?_
  rintro e w' ⟨⟨v', p', h', t', rfl, hS, hF, hR⟩, hb⟩
  have e0 : psE zs p h t x = 1 := by rw [psE, if_pos (bothR_mk hz hr), if_pos hx, if_pos hl]
  rw [psR, if_neg (by rw [e0]; decide)] at hR
  simp only [Prod.mk.injEq] at hR
  obtain ⟨rfl, rfl, rfl⟩ := hR
  rw [psM, if_neg (by rw [e0]; decide)] at hS
  obtain ⟨a, c, rfl⟩ := hS.shape
  rw [e0]
  exact ⟨a, c, rfl, hb⟩
end Go.Proofs.Ytemnklppplgcoab
