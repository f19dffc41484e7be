/-
  Laid together: MachMath, HartR, Box12, MapB, Quest.
-/
import Derived.Test.YtlgjllmecjkbjacGreatT4
import Derived.Maps.OwnOps
import Derived.Maps.OwnSet
/-
  The machine, as data alone: what Check, Same, Do, Run answer, and what holds of them.
-/
namespace Go.Proofs.YtlgjllmecjkbjacGreat
open Go.RowKit
structure Mc where
  zs : List Int
  h : Ht
  b : Br
structure Hp where
  kind : Int
  num : Int
  d : Int
  a : Int
  n : Int
  wr : Bool
  ds : List Int
structure To where
  done : Bool
  dat : List Int
  f : Int
  tch : List Tc
def M0 : Mc := ⟨[], H0, B0⟩
def T0 : To := ⟨false, [], 0, []⟩
def chkM (m : Mc) : Int := if chk m.zs = 0 then (if chkH m.h = 0 then chkB m.b else chkH m.h) else chk m.zs
def hpE (m : Mc) (x : Hp) : Int :=
  if chkM m = 0 then
    (if x.kind = 1 then (if m.h.done = true then 6 else 0)
    else if x.kind = 2 then obE m.zs m.b
    else if x.kind = 3 then ckA x.d x.a x.n x.wr x.ds
    else if x.kind = 4 then (if 0 ≤ x.num ∧ x.num < m.b.cache.length then 0 else 4)
    else 3)
  else chkM m
def hpG (m : Mc) (x : Hp) : Mc × To :=
  if x.kind = 1 then (⟨(goS m.zs m.h m.b).1, (goS m.zs m.h m.b).2.1, (goS m.zs m.h m.b).2.2⟩, T0)
  else if x.kind = 2 then (⟨m.zs, m.h, obB m.zs m.b⟩, T0)
  else if x.kind = 3 then (⟨(doR m.zs m.b x.d x.a x.n x.wr x.ds).1.zs, m.h, (doR m.zs m.b x.d x.a x.n x.wr x.ds).1.b⟩,
    ⟨decide ((doR m.zs m.b x.d x.a x.n x.wr x.ds).2 = 0), (doR m.zs m.b x.d x.a x.n x.wr x.ds).1.dat, (doR m.zs m.b x.d x.a x.n x.wr x.ds).2, (doR m.zs m.b x.d x.a x.n x.wr x.ds).1.tch⟩)
  else (⟨m.zs, m.h, m.b.with (m.b.cache.eraseIdx x.num.toNat)⟩, T0)
def hpR (m : Mc) (x : Hp) : Mc × To := if hpE m x = 0 then hpG m x else (M0, T0)
theorem chkM_ok {m : Mc} (h : chkM m = 0) : chk m.zs = 0 ∧ chkH m.h = 0 ∧ chkB m.b = 0 := by
  unfold chkM at h
  by_cases h1 : chk m.zs = 0
  · rw [if_pos h1] at h
    by_cases h2 : chkH m.h = 0
    · rw [if_pos h2] at h; exact ⟨h1, h2, h⟩
    · rw [if_neg h2] at h; exact absurd h h2
  · rw [if_neg h1] at h; exact absurd h h1
theorem chkM_mk {m : Mc} (h1 : chk m.zs = 0) (h2 : chkH m.h = 0) (h3 : chkB m.b = 0) : chkM m = 0 := by rw [chkM, if_pos h1, if_pos h2, h3]
theorem erase_good {l : List Ln} (h : chkC l = 0) (i : Nat) : chkC (l.eraseIdx i) = 0 := by
  rw [chkC_zero] at h ⊢
  obtain ⟨h1, h2, h3⟩ := h
  refine ⟨Nat.le_trans (List.length_eraseIdx_le l i) h1, fun x hx => h2 x (List.mem_of_mem_eraseIdx hx), h3.sublist (List.eraseIdx_sublist l i)⟩
theorem do_br {zs : List Int} {b c : Br} {d a n f : Int} {fw : Bool} {ds ms dat : List Int} {tch : List Tc} (hE : doE zs b d a n fw ds = 0) (hR : doR zs b d a n fw ds = (⟨ms, c, dat, tch⟩, f)) :
    ∃ l ft lo, c = { b with cache := l, ft := ft, lost := lo } := by
  obtain ⟨hz, hb, hc⟩ := doE_ok hE
  obtain ⟨hn, hd, ha, hln, hal⟩ := ckA_ok hc
  rw [doR, if_pos hE] at hR
  have hdl : fw = true → ds.length = n.toNat := fun e => by rw [e, needA, if_pos rfl] at hln; omega
  have hw : fw = true → ∀ i, i < 0 + n.toNat → wordB (nth ds i) = true := fun e i hi => all_nth hal (by have := hdl e; omega)
  have hs := runW_held (d := d) (wr := fw) (ds := ds) (o := a.toNat) (zs := zs) (b0 := b) hd n.toNat a.toNat 0 ⟨zs, b, [], []⟩ _ _ (HeldI.start _ _ _ _ _ _) ⟨hz, hb⟩ rfl (by omega) (by omega) hw ⟨_, (with_self b).symm⟩ hR
  rcases hs with ⟨rfl, hH, hG, hl, l', hl'⟩ | ⟨s1, p, hf, hp, hH, hG, hl, ⟨l', hl'⟩, htE, hs'⟩
  · exact ⟨l', b.ft, b.lost, hl'⟩
  · simp only [St.mk.injEq] at hs'
    obtain ⟨rfl, rfl, rfl, rfl⟩ := hs'
    unfold tlB
    rw [if_pos htE, hl']
    split
    · exact ⟨l', b.ft, true, rfl⟩
    · exact ⟨l', _, b.lost, rfl⟩
theorem hp_good {m y : Mc} {x : Hp} {t : To} (h : hpE m x = 0) (hr : hpR m x = (y, t)) :
    chkM m = 0 ∧ chkM y = 0 ∧ (x.kind = 1 ∨ x.kind = 2 ∨ x.kind = 3 ∨ x.kind = 4) ∧ (¬ x.kind = 3 → t = T0) ∧ (¬ x.kind = 1 → y.h = m.h) ∧
    (x.kind = 1 → y.b.cache = m.b.cache ∧ m.h.done = false) ∧
    (x.kind = 2 → y.zs = m.zs ∧ ({ y.b with op := m.b.op, oh := m.b.oh, ot := m.b.ot, cache := m.b.cache, stop := m.b.stop, fen := m.b.fen } : Br) = m.b ∧ y.b.cache.length ≤ m.b.cache.length) ∧
    (x.kind = 3 → ({ y.b with cache := m.b.cache, fp := m.b.fp, fh := m.b.fh, ft := m.b.ft, lost := m.b.lost } : Br) = m.b) ∧
    (x.kind = 4 → y.zs = m.zs ∧ y.b.with m.b.cache = m.b ∧ (y.b.cache.length : Int) = m.b.cache.length - 1) := by
  rw [hpR, if_pos h] at hr
  unfold hpE at h
  by_cases hm : chkM m = 0
  rotate_left
  · rw [if_neg hm] at h; exact absurd h hm
  rw [if_pos hm] at h
  obtain ⟨hz, hh, hb⟩ := chkM_ok hm
  unfold hpG at hr
  by_cases k1 : x.kind = 1
  · rw [if_pos k1] at h hr
    have hd : m.h.done = false := by
      cases hd : m.h.done
      · rfl
      · rw [hd, if_pos rfl] at h; exact absurd h (by decide)
    have hst : stE m.zs m.h m.b = 0 := by rw [stE_mk hz hh hb, hd]; rfl
    obtain ⟨g1, g2, g3, _, g5, _⟩ := goS_keeps hst (show goS m.zs m.h m.b = ((goS m.zs m.h m.b).1, (goS m.zs m.h m.b).2.1, (goS m.zs m.h m.b).2.2) from rfl)
    simp only [Prod.mk.injEq] at hr
    obtain ⟨rfl, rfl⟩ := hr
    exact ⟨hm, chkM_mk g1 g2 g3, .inl k1, fun _ => rfl, fun e => absurd k1 e, fun _ => ⟨g5, hd⟩, fun e => by omega, fun e => by omega, fun e => by omega⟩
  rw [if_neg k1] at h hr
  by_cases k2 : x.kind = 2
  · rw [if_pos k2] at h hr
    simp only [Prod.mk.injEq] at hr
    obtain ⟨rfl, rfl⟩ := hr
    by_cases ho : roE (ordW m.zs m.b) = 0
    · obtain ⟨⟨k, d, p⟩, hO⟩ : ∃ O, roO (ordW m.zs m.b) = O := ⟨_, rfl⟩
      obtain ⟨g1, g2, g3, _⟩ := ob_right h ho hO
      refine ⟨hm, chkM_mk hz hh g2, .inr (.inl k2), fun _ => rfl, fun _ => rfl, fun e => absurd e k1, fun _ => ⟨rfl, ?_, ?_⟩, fun e => by omega, fun e => by omega⟩
      · show ({ obB m.zs m.b with op := m.b.op, oh := m.b.oh, ot := m.b.ot, cache := m.b.cache, stop := m.b.stop, fen := m.b.fen } : Br) = m.b
        rw [g1]
      · show (obB m.zs m.b).cache.length ≤ m.b.cache.length
        rw [g1]
        show (drC m.b.cache k d p).length ≤ _
        rw [drC, if_pos g3]
        exact List.length_filter_le _ _
    · obtain ⟨g1, g2⟩ := ob_bad h ho
      refine ⟨hm, chkM_mk hz hh g2, .inr (.inl k2), fun _ => rfl, fun _ => rfl, fun e => absurd e k1, fun _ => ⟨rfl, ?_, ?_⟩, fun e => by omega, fun e => by omega⟩
      · show ({ obB m.zs m.b with op := m.b.op, oh := m.b.oh, ot := m.b.ot, cache := m.b.cache, stop := m.b.stop, fen := m.b.fen } : Br) = m.b
        rw [g1]
      · show (obB m.zs m.b).cache.length ≤ m.b.cache.length
        rw [g1]
        exact Nat.le_refl _
  rw [if_neg k2] at h hr
  by_cases k3 : x.kind = 3
  · rw [if_pos k3] at h hr
    have hE : doE m.zs m.b x.d x.a x.n x.wr x.ds = 0 := doE_mk hz hb h
    obtain ⟨⟨⟨ms, c, dat, tch⟩, f⟩, hR⟩ : ∃ R, doR m.zs m.b x.d x.a x.n x.wr x.ds = R := ⟨_, rfl⟩
    obtain ⟨g1, g2, _⟩ := do_held hE hR
    obtain ⟨l, ft, lo, g3⟩ := do_br hE hR
    rw [hR] at hr
    simp only [Prod.mk.injEq] at hr
    obtain ⟨rfl, rfl⟩ := hr
    refine ⟨hm, chkM_mk g1 hh g2, .inr (.inr (.inl k3)), fun e => absurd k3 e, fun _ => rfl, fun e => absurd e k1, fun e => absurd e k2, fun _ => ?_, fun e => by omega⟩
    show ({ c with cache := m.b.cache, fp := m.b.fp, fh := m.b.fh, ft := m.b.ft, lost := m.b.lost } : Br) = m.b
    rw [g3]
  rw [if_neg k3] at h hr
  by_cases k4 : x.kind = 4
  · rw [if_pos k4] at h
    by_cases hn : 0 ≤ x.num ∧ x.num < m.b.cache.length
    · simp only [Prod.mk.injEq] at hr
      obtain ⟨rfl, rfl⟩ := hr
      refine ⟨hm, chkM_mk hz hh (chkB_with hb (erase_good (chkB_ok hb).2.2.2.1 _)), .inr (.inr (.inr k4)), fun _ => rfl, fun _ => rfl, fun e => absurd e k1, fun e => absurd e k2, fun e => absurd e k3, fun _ => ⟨rfl, rfl, ?_⟩⟩
      show ((m.b.cache.eraseIdx x.num.toNat).length : Int) = _
      rw [List.length_eraseIdx, if_pos (by omega)]
      omega
    · rw [if_neg hn] at h; exact absurd h (by decide)
  · rw [if_neg k4] at h; exact absurd h (by decide)
def rnM : Mc → List Hp → Mc × List To × List Int
  | m, [] => (m, [], [])
  | m, x :: l => ((rnM (if hpE m x = 0 then (hpR m x).1 else m) l).1, (hpR m x).2 :: (rnM (if hpE m x = 0 then (hpR m x).1 else m) l).2.1, hpE m x :: (rnM (if hpE m x = 0 then (hpR m x).1 else m) l).2.2)
theorem rnM_two : ∀ (l k : List Hp) (m : Mc), rnM m (l ++ k) = ((rnM (rnM m l).1 k).1, (rnM m l).2.1 ++ (rnM (rnM m l).1 k).2.1, (rnM m l).2.2 ++ (rnM (rnM m l).1 k).2.2)
  | [], _, _ => rfl
  | x :: l, k, m => by
    show ((rnM _ (l ++ k)).1, _ :: (rnM _ (l ++ k)).2.1, _ :: (rnM _ (l ++ k)).2.2) = _
    rw [rnM_two l k]
    rfl
theorem rnM_snoc (l : List Hp) (x : Hp) (m : Mc) : rnM m (l ++ [x]) = ((if hpE (rnM m l).1 x = 0 then (hpR (rnM m l).1 x).1 else (rnM m l).1), (rnM m l).2.1 ++ [(hpR (rnM m l).1 x).2], (rnM m l).2.2 ++ [hpE (rnM m l).1 x]) := by
  rw [rnM_two]; rfl
theorem rnM_len : ∀ (l : List Hp) (m : Mc), (rnM m l).2.1.length = l.length ∧ (rnM m l).2.2.length = l.length
  | [], _ => ⟨rfl, rfl⟩
  | x :: l, m => by
    obtain ⟨h1, h2⟩ := rnM_len l (if hpE m x = 0 then (hpR m x).1 else m)
    exact ⟨by show _ + 1 = _ + 1; rw [h1], by show _ + 1 = _ + 1; rw [h2]⟩
theorem rnM_good : ∀ (l : List Hp) (m : Mc), chkM m = 0 → chkM (rnM m l).1 = 0
  | [], _, h => h
  | x :: l, m, h => by
    show chkM (rnM _ l).1 = 0
    apply rnM_good l
    by_cases e : hpE m x = 0
    · rw [if_pos e]
      exact (hp_good e (show hpR m x = ((hpR m x).1, (hpR m x).2) from rfl)).2.1
    · rw [if_neg e]; exact h
theorem hp_shut {m y : Mc} {x : Hp} {t : To} (h : hpE m x = 0) (hr : hpR m x = (y, t)) (hm : m.b.mode = 0) (hk : x.kind = 3) : t.tch = [] ∧ t.done = false ∧ t.f = 1 := by
  rw [hpR, if_pos h, hpG, if_neg (by omega), if_neg (by omega), if_pos hk] at hr
  have hck : ckA x.d x.a x.n x.wr x.ds = 0 := by
    unfold hpE at h
    by_cases hc : chkM m = 0
    · rw [if_pos hc, if_neg (by omega), if_neg (by omega), if_pos hk] at h; exact h
    · rw [if_neg hc] at h; exact absurd h hc
  have hcm : chkM m = 0 := by
    unfold hpE at h
    by_cases hc : chkM m = 0
    · exact hc
    · rw [if_neg hc] at h; exact absurd h hc
  obtain ⟨hz, hh, hb⟩ := chkM_ok hcm
  obtain ⟨hn, _⟩ := ckA_ok hck
  obtain ⟨n, hn'⟩ : ∃ n : Nat, x.n.toNat = n + 1 := ⟨x.n.toNat - 1, by omega⟩
  have hR : doR m.zs m.b x.d x.a x.n x.wr x.ds = runW x.d x.wr x.ds x.a.toNat (n + 1) x.a.toNat 0 ⟨m.zs, m.b, [], []⟩ := by rw [doR, if_pos (doE_mk hz hb hck), hn']
  have hg : goT m.zs m.b x.d ((x.a.toNat / 8 : Nat) : Int) x.wr = (m.b, 0, 1) := by rw [goT, if_pos hm]
  rw [runW_fault (.inl rfl) hg (by decide)] at hR
  rw [hR] at hr
  simp only [Prod.mk.injEq] at hr
  obtain ⟨_, rfl⟩ := hr
  exact ⟨rfl, rfl, rfl⟩
end Go.Proofs.YtlgjllmecjkbjacGreat
/-
  drawbridgeref's CheckHart, SameHart: what they answer; nothing that was there turns.
-/
namespace Go.Proofs.YtlgjllmecjkbjacGreat
open Go.RowKit
theorem chkH_len {p : Int} {r : List Int} {d : Bool} (h : ¬ r.length = 8) : chkH ⟨p, r, d⟩ = 3 := if_neg h
theorem chkH_out {p : Int} {r : List Int} {d : Bool} (h : r.length = 8) (k : placeB p = false) : chkH ⟨p, r, d⟩ = 2 := by
  rw [chkH, if_pos h, if_neg (by rw [k]; decide)]
theorem chkH_bad {p : Int} {r : List Int} {d : Bool} (h : r.length = 8) (k : placeB p = true) {j : Nat} (hj : j < 8) (hw : wordB (nth r j) = false) : chkH ⟨p, r, d⟩ = 2 := by
  rw [chkH, if_pos h, if_pos k, if_neg]
  intro e
  rw [List.all_eq_true] at e
  have := e (nth r j) (by rw [nth, List.getD_eq_getElem?_getD, List.getElem?_eq_getElem (by omega)]; exact List.getElem_mem _)
  rw [hw] at this
  exact absurd this (by decide)
theorem chkH_all {p : Int} {r : List Int} {d : Bool} (h : r.length = 8) (k : placeB p = true) (hw : ∀ j, j < 8 → wordB (nth r j) = true) : chkH ⟨p, r, d⟩ = 0 := by
  rw [chkH, if_pos h, if_pos k, if_pos (all_words fun i hi => hw i (by omega))]
end Go.Proofs.YtlgjllmecjkbjacGreat
/-
  A variable of twelve cells (a bridge): its cells and marks in one line; stores into it.
-/
namespace Go.Proofs.YtlgjllmecjkbjacGreat
open Go.RowKit
theorem Box.twelve {w : World} {n : Nat} {t : TypeId} {a0 a1 a2 a3 a4 a5 a6 a7 a8 a9 a10 a11 : Value} (h : Box w n t #[a0, a1, a2, a3, a4, a5, a6, a7, a8, a9, a10, a11]) :
    (w.cell? ⟨n, 0, none⟩ = some a0 ∧ w.cell? ⟨n, 1, none⟩ = some a1 ∧ w.cell? ⟨n, 2, none⟩ = some a2 ∧ w.cell? ⟨n, 3, none⟩ = some a3 ∧ w.cell? ⟨n, 4, none⟩ = some a4 ∧ w.cell? ⟨n, 5, none⟩ = some a5 ∧ w.cell? ⟨n, 6, none⟩ = some a6 ∧ w.cell? ⟨n, 7, none⟩ = some a7 ∧ w.cell? ⟨n, 8, none⟩ = some a8 ∧ w.cell? ⟨n, 9, none⟩ = some a9 ∧ w.cell? ⟨n, 10, none⟩ = some a10 ∧ w.cell? ⟨n, 11, none⟩ = some a11) ∧ n < w.heap.size :=
  ⟨⟨h.cell 0, h.cell 1, h.cell 2, h.cell 3, h.cell 4, h.cell 5, h.cell 6, h.cell 7, h.cell 8, h.cell 9, h.cell 10, h.cell 11⟩, h.lt⟩
theorem Box.marks {w : World} {n : Nat} {t : TypeId} {a0 a1 a2 a3 a4 a5 a6 a7 a8 a9 a10 a11 : Value} (h : Box w n t #[a0, a1, a2, a3, a4, a5, a6, a7, a8, a9, a10, a11]) :
    w.frozen? ⟨n, 0, none⟩ = false ∧ w.frozen? ⟨n, 1, none⟩ = false ∧ w.frozen? ⟨n, 2, none⟩ = false ∧ w.frozen? ⟨n, 3, none⟩ = false ∧ w.frozen? ⟨n, 4, none⟩ = false ∧ w.frozen? ⟨n, 5, none⟩ = false ∧ w.frozen? ⟨n, 6, none⟩ = false ∧ w.frozen? ⟨n, 7, none⟩ = false ∧ w.frozen? ⟨n, 8, none⟩ = false ∧ w.frozen? ⟨n, 9, none⟩ = false ∧ w.frozen? ⟨n, 10, none⟩ = false ∧ w.frozen? ⟨n, 11, none⟩ = false :=
  ⟨h.frozen 0, h.frozen 1, h.frozen 2, h.frozen 3, h.frozen 4, h.frozen 5, h.frozen 6, h.frozen 7, h.frozen 8, h.frozen 9, h.frozen 10, h.frozen 11⟩
theorem Box.set12 {w : World} {n : Nat} {t : TypeId} {a0 a1 a2 a3 a4 a5 a6 a7 a8 a9 a10 a11 : Value} (h : Box w n t #[a0, a1, a2, a3, a4, a5, a6, a7, a8, a9, a10, a11]) (u0 u1 u2 u3 u4 u5 u6 u7 u8 u9 u10 u11 : Value) :
    Box ((((((((((((w.setCell ⟨n, 0, none⟩ u0).setCell ⟨n, 1, none⟩ u1).setCell ⟨n, 2, none⟩ u2).setCell ⟨n, 3, none⟩ u3).setCell ⟨n, 4, none⟩ u4).setCell ⟨n, 5, none⟩ u5).setCell ⟨n, 6, none⟩ u6).setCell ⟨n, 7, none⟩ u7).setCell ⟨n, 8, none⟩ u8).setCell ⟨n, 9, none⟩ u9).setCell ⟨n, 10, none⟩ u10).setCell ⟨n, 11, none⟩ u11) n t #[u0, u1, u2, u3, u4, u5, u6, u7, u8, u9, u10, u11] := by
  have h0 : Box _ n t #[u0, a1, a2, a3, a4, a5, a6, a7, a8, a9, a10, a11] := h.set 0 u0
  have h1 : Box _ n t #[u0, u1, a2, a3, a4, a5, a6, a7, a8, a9, a10, a11] := h0.set 1 u1
  have h2 : Box _ n t #[u0, u1, u2, a3, a4, a5, a6, a7, a8, a9, a10, a11] := h1.set 2 u2
  have h3 : Box _ n t #[u0, u1, u2, u3, a4, a5, a6, a7, a8, a9, a10, a11] := h2.set 3 u3
  have h4 : Box _ n t #[u0, u1, u2, u3, u4, a5, a6, a7, a8, a9, a10, a11] := h3.set 4 u4
  have h5 : Box _ n t #[u0, u1, u2, u3, u4, u5, a6, a7, a8, a9, a10, a11] := h4.set 5 u5
  have h6 : Box _ n t #[u0, u1, u2, u3, u4, u5, u6, a7, a8, a9, a10, a11] := h5.set 6 u6
  have h7 : Box _ n t #[u0, u1, u2, u3, u4, u5, u6, u7, a8, a9, a10, a11] := h6.set 7 u7
  have h8 : Box _ n t #[u0, u1, u2, u3, u4, u5, u6, u7, u8, a9, a10, a11] := h7.set 8 u8
  have h9 : Box _ n t #[u0, u1, u2, u3, u4, u5, u6, u7, u8, u9, a10, a11] := h8.set 9 u9
  have h10 : Box _ n t #[u0, u1, u2, u3, u4, u5, u6, u7, u8, u9, u10, a11] := h9.set 10 u10
  have h11 : Box _ n t #[u0, u1, u2, u3, u4, u5, u6, u7, u8, u9, u10, u11] := h10.set 11 u11
  exact h11
theorem Box.other12 {w : World} {n m : Nat} {t : TypeId} {cs : Array Value} (h : Box w n t cs) (hp : n ≠ m) (u0 u1 u2 u3 u4 u5 u6 u7 u8 u9 u10 u11 : Value) :
    Box ((((((((((((w.setCell ⟨m, 0, none⟩ u0).setCell ⟨m, 1, none⟩ u1).setCell ⟨m, 2, none⟩ u2).setCell ⟨m, 3, none⟩ u3).setCell ⟨m, 4, none⟩ u4).setCell ⟨m, 5, none⟩ u5).setCell ⟨m, 6, none⟩ u6).setCell ⟨m, 7, none⟩ u7).setCell ⟨m, 8, none⟩ u8).setCell ⟨m, 9, none⟩ u9).setCell ⟨m, 10, none⟩ u10).setCell ⟨m, 11, none⟩ u11) n t cs :=
  (((((((((((h.other (p := ⟨m, 0, none⟩) hp u0).other (p := ⟨m, 1, none⟩) hp u1).other (p := ⟨m, 2, none⟩) hp u2).other (p := ⟨m, 3, none⟩) hp u3).other (p := ⟨m, 4, none⟩) hp u4).other (p := ⟨m, 5, none⟩) hp u5).other (p := ⟨m, 6, none⟩) hp u6).other (p := ⟨m, 7, none⟩) hp u7).other (p := ⟨m, 8, none⟩) hp u8).other (p := ⟨m, 9, none⟩) hp u9).other (p := ⟨m, 10, none⟩) hp u10).other (p := ⟨m, 11, none⟩) hp u11
theorem bel_set12 {a w : World} {m : Nat} (hp : a.heap.size ≤ m) (h : Below a.heap.size a w) (u0 u1 u2 u3 u4 u5 u6 u7 u8 u9 u10 u11 : Value) :
    Below a.heap.size a ((((((((((((w.setCell ⟨m, 0, none⟩ u0).setCell ⟨m, 1, none⟩ u1).setCell ⟨m, 2, none⟩ u2).setCell ⟨m, 3, none⟩ u3).setCell ⟨m, 4, none⟩ u4).setCell ⟨m, 5, none⟩ u5).setCell ⟨m, 6, none⟩ u6).setCell ⟨m, 7, none⟩ u7).setCell ⟨m, 8, none⟩ u8).setCell ⟨m, 9, none⟩ u9).setCell ⟨m, 10, none⟩ u10).setCell ⟨m, 11, none⟩ u11) :=
  (((((((((((h.setCell (p := ⟨m, 0, none⟩) hp u0).setCell (p := ⟨m, 1, none⟩) hp u1).setCell (p := ⟨m, 2, none⟩) hp u2).setCell (p := ⟨m, 3, none⟩) hp u3).setCell (p := ⟨m, 4, none⟩) hp u4).setCell (p := ⟨m, 5, none⟩) hp u5).setCell (p := ⟨m, 6, none⟩) hp u6).setCell (p := ⟨m, 7, none⟩) hp u7).setCell (p := ⟨m, 8, none⟩) hp u8).setCell (p := ⟨m, 9, none⟩) hp u9).setCell (p := ⟨m, 10, none⟩) hp u10).setCell (p := ⟨m, 11, none⟩) hp u11
end Go.Proofs.YtlgjllmecjkbjacGreat
/-
  A map of the call's own, as what stands at each number: for map[int]bool (Seen), and for any map keyed by int (OwnM).
-/
namespace Go.Proofs.YtlgjllmecjkbjacGreat
open Go.RowKit
def Rv (v : Value) : Option (DataW Value × List MemPlace) := some (.held v, [])
theorem law_int : Maps.Keyed Tryz.prog 3 := Maps.int_keyed Tryz.underlying3
theorem key_int {z : Int} (h0 : 0 ≤ z) (h1 : z < 1000) : keyOf Tryz.prog 3 (.int .i64 z) = some (.int .i64 z) := Maps.keyOf_int_mk Tryz.underlying3 (WalkArith.wf_i64 (by omega))
theorem key_all {z : Int} (h0 : -9223372036854775808 ≤ z) (h1 : z ≤ 9223372036854775807) : keyOf Tryz.prog 3 (.int .i64 z) = some (.int .i64 z) := Maps.keyOf_int_mk Tryz.underlying3 (WalkArith.wf_i64 (by omega))
theorem grown_none {w w' : World} (h : Below w.heap.size w w') : w.grownBy w' none := ⟨h.os, h.tape, h.output, h.size, fun k hk _ => h.block k hk⟩
def Seen (w : World) (b n : Nat) (ks : List Int) : Prop :=
  ∃ D, w.ownsMap Tryz.prog 3 Rv b n D ∧ ∀ z, D.atKey (.int .i64 z) (.held (.bool false)) = .held (.bool (decide (z ∈ ks)))
theorem Seen.new (w : World) : Seen (w.alloc (.map #[] 0)) w.heap.size 0 [] := ⟨_, World.ownsMap_made _ _ _ _, fun z => by simp [DataW.atKey]⟩
theorem Seen.keep {w w' : World} {b n : Nat} {ks : List Int} (h : Seen w b n ks) (hb : Below w.heap.size w w') : Seen w' b n ks := by
  obtain ⟨D, h1, h2⟩ := h
  exact ⟨D, h1.kept (grown_none hb) (by simp), h2⟩
theorem Seen.lt {w : World} {b n : Nat} {ks : List Int} (h : Seen w b n ks) : b < w.heap.size := by obtain ⟨D, h1, _⟩ := h; exact h1.lt
end Go.Proofs.YtlgjllmecjkbjacGreat
/-
  Package cache: questions and its closures: at each kind of order stands what is asked of a line; nothing that was there turns.
-/
namespace Go.Proofs.YtlgjllmecjkbjacGreat
open Go.RowKit
theorem q0_any (d1 p1 a : Int) (r x : Bool) (w : World) :
    Calls Tryz.prog 147 #[.agg #[.int .i64 d1, .int .i64 p1, .int .i64 a, .bool r, .bool x]] w fun e w' => e = .returned (.bool false) ∧ ∃ o, w' = w.alloc o := by
  go_enter Tryz.func147, Tryz.ntmps147
  go_wp2
  go_ret
  exact ⟨rfl, _, rfl⟩
theorem q1_any (d1 p1 a : Int) (r x : Bool) (w : World) :
    Calls Tryz.prog 148 #[.agg #[.int .i64 d1, .int .i64 p1, .int .i64 a, .bool r, .bool x]] w fun e w' => e = .returned (.bool true) ∧ ∃ o, w' = w.alloc o := by
  go_enter Tryz.func148, Tryz.ntmps148
  go_wp2
  go_ret
  exact ⟨rfl, _, rfl⟩
theorem q2_any (n : Nat) (d d1 p1 a : Int) (r x : Bool) (w : World) (h1 : w.cell? ⟨n, 1, none⟩ = some (.int .i64 d)) (l1 : n < w.heap.size) :
    Calls Tryz.prog 149 #[.agg #[.int .i64 d1, .int .i64 p1, .int .i64 a, .bool r, .bool x], .pointer (some ⟨n, 0, none⟩)] w fun e w' => e = .returned (.bool (decide (d1 = d))) ∧ ∃ o, w' = w.alloc o := by
  by_cases e1 : d1 = d
  · have q1 : (d1 == d) = true := by simpa using e1
    rw [decide_eq_true e1]
    clear e1
    go_enter Tryz.func149, Tryz.ntmps149
    go_wp2
    go_ret
    exact ⟨by simp, _, rfl⟩
  · have q1 : (d1 == d) = false := by simpa using e1
    rw [decide_eq_false e1]
    clear e1
    go_enter Tryz.func149, Tryz.ntmps149
    go_wp2
    go_ret
    exact ⟨by simp, _, rfl⟩
abbrev OwnM (w : World) (b n : Nat) (D : DataW Value) : Prop := w.ownsMap Tryz.prog 3 Rv b n D
theorem wpList_insert_M {w : World} {ops : Array Oper} {rest : List Oper} {o : Oper} {a : Act} {Q : Exit → Act → World → Prop} (hg : o.guard = none) (m x v : Operand) (hop : o.op = Op.insert 172 m x v) (b n : Nat) (D : DataW Value)
    (hm : a.eval m = .map (some b)) (hown : OwnM w b n D) (z : Int) (val : Value) (hx : a.eval x = .int .i64 z) (hv : a.eval v = val) (h0 : 0 ≤ z) (h1 : z < 1000) (hn : n < 1000)
    (hK : ∀ w', OwnM w' b (n + 1) (D.put (.int .i64 z) (.held val)) → w.grownBy w' (some b) → wpList Tryz.prog ops Q rest (a.put o.dst undef) w') : wpList Tryz.prog ops Q (o :: rest) a w := by
  refine wpList_plain hg fun K' hK' => ?_
  obtain ⟨w', hrun, r1, r2⟩ := hown.update law_int Tryz.underlying172 (by unfold maxLen; omega) (key_int h0 h1) (val := val) (d := .held val) (ps := []) rfl
  unfold Oper.wp
  simp [execOp, hop, hm, hx, hv, hrun, Result.andThen]
  exact hK' _ _ (hK w' r1 r2)
def qsD (n u v : Nat) : DataW Value :=
  ((((DataW.map []).put (.int .i64 0) (.held (.func (.func 147) #[] #[]))).put (.int .i64 1) (.held (.func (.func 148) #[] #[]))).put (.int .i64 2) (.held (.func (.func 149) #[] #[.pointer (some ⟨n, 0, none⟩)]))).put (.int .i64 3) (.held (.func (.func 154) #[] #[.pointer (some ⟨u, 0, none⟩), .pointer (some ⟨v, 0, none⟩)]))
def Asks (w : World) (b : Nat) (d p : Int) : Prop :=
  ∃ n u v, OwnM w b 4 (qsD n u v) ∧ (w.cell? ⟨n, 1, none⟩ = some (.int .i64 d) ∧ n < w.heap.size) ∧ (w.cell? ⟨u, 0, none⟩ = some (.int .i64 d) ∧ u < w.heap.size) ∧ (w.cell? ⟨v, 0, none⟩ = some (.int .i64 p) ∧ v < w.heap.size)
theorem grown_cell {w w' : World} {b n o : Nat} {x : Option Value} (h : w.cell? ⟨n, o, none⟩ = x) (hg : w.grownBy w' (some b)) (hne : ¬ n = b) (hl : n < w.heap.size) : w'.cell? ⟨n, o, none⟩ = x := by
  rw [← h]
  exact World.cell?_of_block (a := ⟨n, o, none⟩) (hg.block n hl (by simpa using hne))
theorem Blk.grown {w w' : World} {n b : Nat} {cs : Array Value} (h : Blk w n cs) (hg : w.grownBy w' (some b)) (hne : ¬ n = b) : Blk w' n cs := by
  have hl := h.lt
  obtain ⟨t, fr, h⟩ := h
  exact ⟨t, fr, by rw [hg.block n hl (by simpa using hne)]; exact h⟩
set_option maxHeartbeats 1000000 in
theorem questions_any (k d p : Int) (w : World) :
    Calls Tryz.prog 119 #[.agg #[.int .i64 k, .int .i64 d, .int .i64 p]] w fun e w' => (∃ b, e = .returned (.map (some b)) ∧ Asks w' b d p) ∧ Below w.heap.size w w' := by
  have hmm := @run_makeMap Tryz.prog
  have hmf : ∀ (fn : Fn) (first cap : Array Value) (w : World), (Instr.makeFunc fn first cap).run Tryz.prog w = .ok (.func fn first cap) w := fun _ _ _ _ => rfl
  go_enter Tryz.func119, Tryz.ntmps119
  go_wp2_with (first | (refine wpList_insert_M rfl (.tmp 3) _ _ rfl (w.heap.size + 1) 0 (DataW.map []) rfl (by have := World.ownsMap_made (w.alloc (.cells #[.int .i64 k, .int .i64 d, .int .i64 p] 120)) Tryz.prog 3 Rv; simpa using this) 0 _ rfl rfl (by omega) (by omega) (by omega) ?_))
  intro w1 o1 g1
  have b1 : Hid (Below w.heap.size w w1) := (bel_alloc (bel_alloc (Below.refl _ _) _) _).grown g1 (by simp; omega) (fun j hj => by cases hj; omega)
  have s1 : Hid (w.heap.size + 1 + 1 ≤ w1.heap.size) := by show _ ≤ _; have := g1.size; simpa using this
  have k1 := ((Blk.new w #[.int .i64 k, .int .i64 d, .int .i64 p] 120 (0, 0)).past (.map #[] 0)).grown g1 (by omega)
  clear g1
  go_wp2_with (first | (refine wpList_insert_M rfl (.tmp 3) _ _ rfl (w.heap.size + 1) 1 _ rfl o1 1 _ rfl rfl (by omega) (by omega) (by omega) ?_))
  intro w2 o2 g2
  have b2 : Hid (Below w.heap.size w w2) := b1.out.grown g2 b1.out.size (fun j hj => by cases hj; omega)
  have s2 : Hid (w.heap.size + 1 + 1 ≤ w2.heap.size) := Nat.le_trans s1.out g2.size
  have k2 := k1.grown g2 (by omega)
  clear g2 b1 s1 k1 o1
  go_wp2_with (first | (refine wpList_insert_M rfl (.tmp 3) _ _ rfl (w.heap.size + 1) 2 _ rfl o2 2 _ rfl rfl (by omega) (by omega) (by omega) ?_))
  intro w3 o3 g3
  have b3 : Hid (Below w.heap.size w w3) := b2.out.grown g3 b2.out.size (fun j hj => by cases hj; omega)
  have s3 : Hid (w.heap.size + 1 + 1 ≤ w3.heap.size) := Nat.le_trans s2.out g3.size
  have k3 := k2.grown g3 (by omega)
  clear g3 b2 s2 k2 o2
  obtain ⟨c0, c1, c2⟩ := k3.three
  have l3 := k3.lt
  go_wp2_with (first | (go_at_call 126; refine (isOf_any d p w3).mono ?_; rintro e wq ⟨rfl, rfl⟩) | (refine wpList_insert_M rfl (.tmp 3) _ _ rfl (w.heap.size + 1) 3 _ rfl ((o3.alloc _).alloc _) 3 _ rfl rfl (by omega) (by omega) (by omega) ?_))
  intro w4 o4 g4
  have b4 : Hid (Below w.heap.size w w4) := (bel_alloc (bel_alloc b3.out _) _).grown g4 (by have := s3.out; simp; omega) (fun j hj => by cases hj; omega)
  have e3 := s3.out
  have hu : w4.cell? ⟨w3.heap.size, 0, none⟩ = some (.int .i64 d) := grown_cell (by simp [go_sem]) g4 (by omega) (by simp; omega)
  have hv : w4.cell? ⟨w3.heap.size + 1, 0, none⟩ = some (.int .i64 p) := grown_cell (by simp [go_sem]) g4 (by omega) (by simp)
  have z4 : w3.heap.size + 1 + 1 ≤ w4.heap.size := by have := g4.size; simpa using this
  have HA : Hid (Asks w4 (w.heap.size + 1) d p) := ⟨w.heap.size, w3.heap.size, w3.heap.size + 1, o4, ⟨(((k3.past _).past _).grown g4 (by omega)).three.2.1, by omega⟩, ⟨hu, by omega⟩, ⟨hv, by omega⟩⟩
  clear o4 g4 hu hv k3 o3
  go_wp2
  go_ret
  exact ⟨⟨_, rfl, HA.out⟩, b4.out⟩
theorem zero_func (w : World) : (zeroValue 170).run Tryz.prog w = .ok .nilFunc w := by kernel_rfl
theorem qs_0 (n u v : Nat) (x : DataW Value) : (qsD n u v).atKey (.int .i64 0) x = .held (.func (.func 147) #[] #[]) ∧ Maps.has (qsD n u v) (.int .i64 0) = true := ⟨rfl, rfl⟩
theorem qs_1 (n u v : Nat) (x : DataW Value) : (qsD n u v).atKey (.int .i64 1) x = .held (.func (.func 148) #[] #[]) ∧ Maps.has (qsD n u v) (.int .i64 1) = true := ⟨rfl, rfl⟩
theorem qs_2 (n u v : Nat) (x : DataW Value) : (qsD n u v).atKey (.int .i64 2) x = .held (.func (.func 149) #[] #[.pointer (some ⟨n, 0, none⟩)]) ∧ Maps.has (qsD n u v) (.int .i64 2) = true := ⟨rfl, rfl⟩
theorem qs_3 (n u v : Nat) (x : DataW Value) : (qsD n u v).atKey (.int .i64 3) x = .held (.func (.func 154) #[] #[.pointer (some ⟨u, 0, none⟩), .pointer (some ⟨v, 0, none⟩)]) ∧ Maps.has (qsD n u v) (.int .i64 3) = true := ⟨rfl, rfl⟩
theorem qs_no (n u v : Nat) (x : DataW Value) {z : Int} (h : ¬ (0 ≤ z ∧ z ≤ 3)) : (qsD n u v).atKey (.int .i64 z) x = x ∧ Maps.has (qsD n u v) (.int .i64 z) = false := by
  have hh : Maps.has (qsD n u v) (.int .i64 z) = false := by
    unfold qsD
    rw [Maps.has_put_other (by simp; omega), Maps.has_put_other (by simp; omega), Maps.has_put_other (by simp; omega), Maps.has_put_other (by simp; omega)]
    rfl
  exact ⟨Maps.atKey_of_not_has hh x, hh⟩
theorem look_ok {w : World} {b : Nat} {D : DataW Value} (h : OwnM w b 4 D) {z : Int} (h0 : -9223372036854775808 ≤ z) (h1 : z ≤ 9223372036854775807) {f : Value} {t : Bool} (hD : D.atKey (.int .i64 z) (.held .nilFunc) = .held f ∧ Maps.has D (.int .i64 z) = t) :
    (Instr.lookup 172 (.map (some b)) (.int .i64 z) true).run Tryz.prog w = .ok (.tuple #[f, .bool t]) w := by
  obtain ⟨v, ps, hrun, hv⟩ := h.look_ok law_int Tryz.underlying172 (zero_func w) (zd := .held .nilFunc) (zp := []) rfl (key_all h0 h1)
  rw [hD.1] at hv
  rw [hD.2] at hrun
  simp only [Rv, Option.some.injEq, Prod.mk.injEq, DataW.held.injEq] at hv
  rw [hrun, hv.1]
theorem Asks.at0 {w : World} {b : Nat} {d p : Int} (h : Asks w b d p) : (Instr.lookup 172 (.map (some b)) (.int .i64 0) true).run Tryz.prog w = .ok (.tuple #[.func (.func 147) #[] #[], .bool true]) w := by
  obtain ⟨n, u, v, h, _⟩ := h; exact look_ok h (by decide) (by decide) (qs_0 n u v _)
theorem Asks.at1 {w : World} {b : Nat} {d p : Int} (h : Asks w b d p) : (Instr.lookup 172 (.map (some b)) (.int .i64 1) true).run Tryz.prog w = .ok (.tuple #[.func (.func 148) #[] #[], .bool true]) w := by
  obtain ⟨n, u, v, h, _⟩ := h; exact look_ok h (by decide) (by decide) (qs_1 n u v _)
theorem Asks.at2 {w : World} {b : Nat} {d p : Int} (h : Asks w b d p) : ∃ n, (Instr.lookup 172 (.map (some b)) (.int .i64 2) true).run Tryz.prog w = .ok (.tuple #[.func (.func 149) #[] #[.pointer (some ⟨n, 0, none⟩)], .bool true]) w ∧ w.cell? ⟨n, 1, none⟩ = some (.int .i64 d) ∧ n < w.heap.size := by
  obtain ⟨n, u, v, h, hn, _⟩ := h; exact ⟨n, look_ok h (by decide) (by decide) (qs_2 n u v _), hn⟩
theorem Asks.at3 {w : World} {b : Nat} {d p : Int} (h : Asks w b d p) : ∃ u v, (Instr.lookup 172 (.map (some b)) (.int .i64 3) true).run Tryz.prog w = .ok (.tuple #[.func (.func 154) #[] #[.pointer (some ⟨u, 0, none⟩), .pointer (some ⟨v, 0, none⟩)], .bool true]) w ∧ (w.cell? ⟨u, 0, none⟩ = some (.int .i64 d) ∧ u < w.heap.size) ∧ (w.cell? ⟨v, 0, none⟩ = some (.int .i64 p) ∧ v < w.heap.size) := by
  obtain ⟨n, u, v, h, _, hu, hv⟩ := h; exact ⟨u, v, look_ok h (by decide) (by decide) (qs_3 n u v _), hu, hv⟩
theorem Asks.no {w : World} {b : Nat} {d p : Int} (h : Asks w b d p) {z : Int} (h0 : -9223372036854775808 ≤ z) (h1 : z ≤ 9223372036854775807) (hz : ¬ (0 ≤ z ∧ z ≤ 3)) : (Instr.lookup 172 (.map (some b)) (.int .i64 z) true).run Tryz.prog w = .ok (.tuple #[.nilFunc, .bool false]) w := by
  obtain ⟨n, u, v, h, _⟩ := h; exact look_ok h h0 h1 (qs_no n u v _ hz)
end Go.Proofs.YtlgjllmecjkbjacGreat
