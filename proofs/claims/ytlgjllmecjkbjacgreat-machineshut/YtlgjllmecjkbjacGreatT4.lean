/-
  Laid together: WordMath, BridgeMath, CodeMath, HartMath, TellMath, DmaMath, HeldMath, DoHeld.
-/
import Derived.Test.YtlgjllmecjkbjacGreatT3
/-
  Orders and faults as words: numbers alone.
-/
namespace Go.Proofs.YtlgjllmecjkbjacGreat
open Go.RowKit
def oE (k d p : Int) : Int := if (0 ≤ k ∧ k ≤ 3) ∧ (0 ≤ d ∧ d ≤ 7) ∧ (0 ≤ p ∧ p ≤ 63) then (if (0 < d ∧ k < 2) ∨ (0 < p ∧ k < 3) then 3 else 0) else 2
def oW (k d p : Int) : Int := if oE k d p = 0 then k + 4 * d + 32 * p else 0
def roE (w : Int) : Int := if 0 ≤ w ∧ w ≤ 65535 then (if oE (w % 4) (w / 4 % 8) (w / 32) = 0 then 0 else 3) else 2
def roO (w : Int) : Int × Int × Int := if roE w = 0 then (w % 4, w / 4 % 8, w / 32) else (0, 0, 0)
theorem oE_ok {k d p : Int} (h : oE k d p = 0) : (0 ≤ k ∧ k ≤ 3) ∧ (0 ≤ d ∧ d ≤ 7) ∧ (0 ≤ p ∧ p ≤ 63) ∧ ¬ (0 < d ∧ k < 2) ∧ ¬ (0 < p ∧ k < 3) := by
  unfold oE at h
  split at h
  · rename_i h1
    split at h
    · exact absurd h (by decide)
    · rename_i h2
      exact ⟨h1.1, h1.2.1, h1.2.2, fun x => h2 (.inl x), fun x => h2 (.inr x)⟩
  · exact absurd h (by decide)
theorem oE_mk {k d p : Int} (h1 : 0 ≤ k ∧ k ≤ 3) (h2 : 0 ≤ d ∧ d ≤ 7) (h3 : 0 ≤ p ∧ p ≤ 63) (h4 : ¬ (0 < d ∧ k < 2)) (h5 : ¬ (0 < p ∧ k < 3)) : oE k d p = 0 := by
  unfold oE; rw [if_pos ⟨h1, h2, h3⟩, if_neg (fun h => h.elim h4 h5)]
theorem oW_ok {k d p : Int} (h : oE k d p = 0) : oW k d p = k + 4 * d + 32 * p := if_pos h
theorem roE_ok {w : Int} (h : roE w = 0) : (0 ≤ w ∧ w ≤ 65535) ∧ oE (w % 4) (w / 4 % 8) (w / 32) = 0 := by
  unfold roE at h
  split at h
  · rename_i h1
    split at h
    · rename_i h2; exact ⟨h1, h2⟩
    · exact absurd h (by decide)
  · exact absurd h (by decide)
theorem roE_mk {w : Int} (h1 : 0 ≤ w ∧ w ≤ 65535) (h2 : oE (w % 4) (w / 4 % 8) (w / 32) = 0) : roE w = 0 := by unfold roE; rw [if_pos h1, if_pos h2]
theorem o_read {w k d p : Int} (h : roE w = 0) (e : roO w = (k, d, p)) : oE k d p = 0 ∧ oW k d p = w := by
  obtain ⟨h1, h2⟩ := roE_ok h
  rw [roO, if_pos h] at e
  simp only [Prod.mk.injEq] at e
  obtain ⟨rfl, rfl, rfl⟩ := e
  exact ⟨h2, by rw [oW_ok h2]; omega⟩
def fE (c d p : Int) : Int := if (1 ≤ c ∧ c ≤ 5) ∧ (0 ≤ d ∧ d ≤ 7) ∧ (0 ≤ p ∧ p ≤ 63) then 0 else 2
def fX (x : Bool) : Int := if x = true then 4096 else 0
def fW (c d p : Int) (x : Bool) : Int := if fE c d p = 0 then c + 8 * d + 64 * p + fX x else 0
def rfE (w : Int) : Int := if 0 ≤ w ∧ w ≤ 65535 then (if fE (w % 8) (w / 8 % 8) (w / 64 % 64) = 0 ∧ w < 8192 then 0 else 3) else 2
def rfF (w : Int) : Int × Int × Int × Bool := if rfE w = 0 then (w % 8, w / 8 % 8, w / 64 % 64, decide (w / 4096 = 1)) else (0, 0, 0, false)
theorem fE_ok {c d p : Int} (h : fE c d p = 0) : (1 ≤ c ∧ c ≤ 5) ∧ (0 ≤ d ∧ d ≤ 7) ∧ (0 ≤ p ∧ p ≤ 63) := by
  unfold fE at h; split at h
  · rename_i h1; exact h1
  · exact absurd h (by decide)
theorem fE_mk {c d p : Int} (h1 : 1 ≤ c ∧ c ≤ 5) (h2 : 0 ≤ d ∧ d ≤ 7) (h3 : 0 ≤ p ∧ p ≤ 63) : fE c d p = 0 := if_pos ⟨h1, h2, h3⟩
theorem fW_ok {c d p : Int} {x : Bool} (h : fE c d p = 0) : fW c d p x = c + 8 * d + 64 * p + fX x := if_pos h
theorem fX_cases (x : Bool) : (x = true ∧ fX x = 4096) ∨ (x = false ∧ fX x = 0) := by cases x <;> simp [fX]
theorem rfE_ok {w : Int} (h : rfE w = 0) : (0 ≤ w ∧ w ≤ 65535) ∧ fE (w % 8) (w / 8 % 8) (w / 64 % 64) = 0 ∧ w < 8192 := by
  unfold rfE at h
  split at h
  · rename_i h1
    split at h
    · rename_i h2; exact ⟨h1, h2⟩
    · exact absurd h (by decide)
  · exact absurd h (by decide)
theorem rfE_mk {w : Int} (h1 : 0 ≤ w ∧ w ≤ 65535) (h2 : fE (w % 8) (w / 8 % 8) (w / 64 % 64) = 0) (h3 : w < 8192) : rfE w = 0 := by unfold rfE; rw [if_pos h1, if_pos ⟨h2, h3⟩]
theorem f_back {c d p : Int} {x : Bool} (h : fE c d p = 0) : rfE (fW c d p x) = 0 ∧ rfF (fW c d p x) = (c, d, p, x) := by
  obtain ⟨h1, h2, h3⟩ := fE_ok h
  obtain ⟨w, hw⟩ : ∃ w, fW c d p x = w := ⟨_, rfl⟩
  have ew := fW_ok (x := x) h
  rw [hw] at ew ⊢
  have hx := fX_cases x
  have e1 : w % 8 = c := by rcases hx with ⟨_, hx⟩ | ⟨_, hx⟩ <;> rw [hx] at ew <;> omega
  have e2 : w / 8 % 8 = d := by rcases hx with ⟨_, hx⟩ | ⟨_, hx⟩ <;> rw [hx] at ew <;> omega
  have e3 : w / 64 % 64 = p := by rcases hx with ⟨_, hx⟩ | ⟨_, hx⟩ <;> rw [hx] at ew <;> omega
  have e4 : decide (w / 4096 = 1) = x := by
    rcases hx with ⟨hb, hx⟩ | ⟨hb, hx⟩
    · rw [hx] at ew; rw [hb]; exact decide_eq_true (by omega)
    · rw [hx] at ew; rw [hb]; exact decide_eq_false (by omega)
  have hr : rfE w = 0 := rfE_mk (by rcases hx with ⟨_, hx⟩ | ⟨_, hx⟩ <;> rw [hx] at ew <;> omega) (by rw [e1, e2, e3]; exact h) (by rcases hx with ⟨_, hx⟩ | ⟨_, hx⟩ <;> rw [hx] at ew <;> omega)
  exact ⟨hr, by rw [rfF, if_pos hr, e1, e2, e3, e4]⟩
end Go.Proofs.YtlgjllmecjkbjacGreat
/-
  The bridge, as data alone: what Check, Through, Plain, Tell, Obey answer, and what holds of it.
-/
namespace Go.Proofs.YtlgjllmecjkbjacGreat
open Go.RowKit
structure Br where
  mode : Int
  base : Int
  cache : List Ln
  op : Int
  oh : Int
  ot : Int
  stop : Bool
  fen : Int
  fp : Int
  fh : Int
  ft : Int
  lost : Bool
def B0 : Br := ⟨0, 0, [], 0, 0, 0, false, 0, 0, 0, 0, false⟩
def Br.with (b : Br) (l : List Ln) : Br := { b with cache := l }
def rngBr (b : Br) : Bool := decide (0 ≤ b.mode ∧ b.mode ≤ 2) && decide (0 ≤ b.base ∧ b.base ≤ 63) && decide (0 ≤ b.fen ∧ b.fen ≤ 999)
def chkB (b : Br) : Int := if rngBr b = true then (if chkC b.cache = 0 then (if chkR b.op b.oh b.ot = 0 then chkR b.fp b.fh b.ft else chkR b.op b.oh b.ot) else chkC b.cache) else 2
def bothB (zs : List Int) (b : Br) : Int := if chk zs = 0 then chkB b else chk zs
def whoB (d p : Int) : Bool := decide ((0 ≤ d ∧ d ≤ 7) ∧ (0 ≤ p ∧ p ≤ 63))
def thE (zs : List Int) (b : Br) (d p : Int) : Int := if bothB zs b = 0 then (if whoB d p = true then 0 else 4) else bothB zs b
def ctxW (zs : List Int) (b : Br) (d : Int) : Int := nth zs (8 * b.base + d).toNat
def byT (zs : List Int) (b : Br) (d p : Int) (wr : Bool) : Br × Int × Int :=
  if vC (ctxW zs b d) = true then
    (if aC (ctxW zs b d) = true then (b, p, 0)
    else if (wkd zs (pC (ctxW zs b d)) p wr).2.1 = 0 then (b.with (flC b.cache (d, p, (wkd zs (pC (ctxW zs b d)) p wr).1.2.2.2.2, true, (wkd zs (pC (ctxW zs b d)) p wr).1.2.2.1)), (wkd zs (pC (ctxW zs b d)) p wr).1.2.2.2.2, 0)
    else (b, 0, (wkd zs (pC (ctxW zs b d)) p wr).2.1))
  else (b, 0, 2)
def lineC (l : List Ln) (d p : Int) : Ln := lth l (fndC l d p).toNat
def goT (zs : List Int) (b : Br) (d p : Int) (wr : Bool) : Br × Int × Int :=
  if b.mode = 0 then (b, 0, 1)
  else if b.mode = 1 then (b, p, 0)
  else if 0 ≤ fndC b.cache d p then (if (wr && !(lineC b.cache d p).2.2.2.2) = true then (b, 0, 5) else (b, (lineC b.cache d p).2.2.1, 0))
  else byT zs b d p wr
def thR (zs : List Int) (b : Br) (d p : Int) (wr : Bool) : Br × Int × Int := if thE zs b d p = 0 then goT zs b d p wr else (B0, 0, 0)
theorem chkB_ok {b : Br} (h : chkB b = 0) : (0 ≤ b.mode ∧ b.mode ≤ 2) ∧ (0 ≤ b.base ∧ b.base ≤ 63) ∧ (0 ≤ b.fen ∧ b.fen ≤ 999) ∧ chkC b.cache = 0 ∧ chkR b.op b.oh b.ot = 0 ∧ chkR b.fp b.fh b.ft = 0 := by
  unfold chkB at h
  by_cases h1 : rngBr b = true
  · rw [if_pos h1] at h
    by_cases h2 : chkC b.cache = 0
    · rw [if_pos h2] at h
      by_cases h3 : chkR b.op b.oh b.ot = 0
      · rw [if_pos h3] at h
        simp only [rngBr, Bool.and_eq_true, decide_eq_true_eq] at h1
        exact ⟨h1.1.1, h1.1.2, h1.2, h2, h3, h⟩
      · rw [if_neg h3] at h; exact absurd h h3
    · rw [if_neg h2] at h; exact absurd h h2
  · rw [if_neg h1] at h; exact absurd h (by decide)
theorem chkB_mk {b : Br} (h1 : 0 ≤ b.mode ∧ b.mode ≤ 2) (h2 : 0 ≤ b.base ∧ b.base ≤ 63) (h3 : 0 ≤ b.fen ∧ b.fen ≤ 999) (h4 : chkC b.cache = 0) (h5 : chkR b.op b.oh b.ot = 0) (h6 : chkR b.fp b.fh b.ft = 0) : chkB b = 0 := by
  have : rngBr b = true := by simp [rngBr, h1, h2, h3]
  rw [chkB, if_pos this, if_pos h4, if_pos h5, h6]
theorem chkB_with {b : Br} (h : chkB b = 0) {l : List Ln} (hl : chkC l = 0) : chkB (b.with l) = 0 := by
  obtain ⟨h1, h2, h3, _, h5, h6⟩ := chkB_ok h
  exact chkB_mk h1 h2 h3 hl h5 h6
theorem bothB_ok {zs : List Int} {b : Br} (h : bothB zs b = 0) : chk zs = 0 ∧ chkB b = 0 := by
  unfold bothB at h
  by_cases hk : chk zs = 0
  · rw [if_pos hk] at h; exact ⟨hk, h⟩
  · rw [if_neg hk] at h; exact absurd h hk
theorem bothB_mk {zs : List Int} {b : Br} (h : chk zs = 0) (k : chkB b = 0) : bothB zs b = 0 := by rw [bothB, if_pos h, k]
theorem thE_ok {zs : List Int} {b : Br} {d p : Int} (h : thE zs b d p = 0) : chk zs = 0 ∧ chkB b = 0 ∧ (0 ≤ d ∧ d ≤ 7) ∧ (0 ≤ p ∧ p ≤ 63) := by
  unfold thE at h
  by_cases hb : bothB zs b = 0
  · rw [if_pos hb] at h
    by_cases hw : whoB d p = true
    · obtain ⟨a, c⟩ := bothB_ok hb
      simp only [whoB, decide_eq_true_eq] at hw
      exact ⟨a, c, hw.1, hw.2⟩
    · rw [if_neg hw] at h; exact absurd h (by decide)
  · rw [if_neg hb] at h; exact absurd h hb
theorem thE_mk {zs : List Int} {b : Br} {d p : Int} (h : chk zs = 0) (k : chkB b = 0) (hd : 0 ≤ d ∧ d ≤ 7) (hp : 0 ≤ p ∧ p ≤ 63) : thE zs b d p = 0 := by
  rw [thE, if_pos (bothB_mk h k), if_pos (by simp [whoB, hd, hp])]
theorem fnd_page {zs : List Int} {root page : Int} {b r x l : Bool} {p : Int} (h : fnd zs root page = ((b, r, x, l, p), 0)) : 0 ≤ p ∧ p ≤ 63 := by
  unfold fnd at h
  by_cases h1 : fltR (one zs root page) = 0
  · rw [if_pos h1] at h
    by_cases h2 : lE (one zs root page) = true
    · rw [if_pos h2] at h
      by_cases h3 : pE (one zs root page) % 8 = 0
      · rw [if_pos h3] at h
        simp only [Prod.mk.injEq] at h
        have := pE_in (one zs root page)
        omega
      · rw [if_neg h3] at h
        simp only [Prod.mk.injEq] at h
        omega
    · rw [if_neg h2] at h
      by_cases h3 : fltR (two zs root page) = 0
      · rw [if_pos h3] at h
        by_cases h4 : lE (two zs root page) = true
        · rw [if_pos h4, entE] at h
          simp only [Prod.mk.injEq] at h
          have := pE_in (two zs root page)
          omega
        · rw [if_neg h4] at h
          simp only [Prod.mk.injEq] at h
          omega
      · rw [if_neg h3] at h
        simp only [Prod.mk.injEq] at h
        exact absurd h.2 h3
  · rw [if_neg h1] at h
    simp only [Prod.mk.injEq] at h
    exact absurd h.2 h1
theorem fltR_cases (z : Int) : fltR z = 0 ∨ fltR z = 3 ∨ fltR z = 4 := by
  unfold fltR; split
  · split <;> simp
  · simp
theorem fnd_fault (zs : List Int) (root page : Int) : (fnd zs root page).2 = 0 ∨ (fnd zs root page).2 = 3 ∨ (fnd zs root page).2 = 4 := by
  unfold fnd
  by_cases h1 : fltR (one zs root page) = 0
  · rw [if_pos h1]
    by_cases h2 : lE (one zs root page) = true
    · rw [if_pos h2]
      by_cases h3 : pE (one zs root page) % 8 = 0
      · rw [if_pos h3]; simp
      · rw [if_neg h3]; simp
    · rw [if_neg h2]
      by_cases h3 : fltR (two zs root page) = 0
      · rw [if_pos h3]
        by_cases h4 : lE (two zs root page) = true
        · rw [if_pos h4]; simp
        · rw [if_neg h4]; simp
      · rw [if_neg h3]; exact fltR_cases _
  · rw [if_neg h1]; exact fltR_cases _
theorem wkd_two {zs : List Int} {root page : Int} {wr : Bool} (hk : chk zs = 0) (hr : pageB root = true) (hp : pageB page = true) :
    (∃ f, (3 ≤ f ∧ f ≤ 5) ∧ wkd zs root page wr = ((false, false, false, false, 0), f, 0)) ∨
    (∃ x p, (0 ≤ p ∧ p ≤ 63) ∧ (wr = true → x = true) ∧ wkd zs root page wr = ((true, true, x, true, p), 0, 0)) := by
  obtain ⟨⟨⟨b, r, x, l, p⟩, f⟩, hF⟩ : ∃ F, fnd zs root page = F := ⟨_, rfl⟩
  have hff := fnd_fault zs root page
  rw [hF] at hff
  rw [wkd, if_pos hk, if_pos ⟨hr, hp⟩, wkF, hF]
  by_cases h : f = 0
  · subst h
    obtain ⟨rfl, rfl⟩ := fnd_good hF
    simp only [if_true]
    by_cases hq : (r && (x || !wr)) = true
    · rw [if_pos hq]
      simp only [Bool.and_eq_true, Bool.or_eq_true, Bool.not_eq_true'] at hq
      obtain ⟨rfl, hx⟩ := hq
      refine .inr ⟨x, p, fnd_page hF, fun e => ?_, rfl⟩
      rcases hx with hx | hx
      · exact hx
      · rw [e] at hx; exact absurd hx (by decide)
    · rw [if_neg hq]
      exact .inl ⟨5, by omega, rfl⟩
  · simp only [h, if_false]
    have hff : f = 0 ∨ f = 3 ∨ f = 4 := hff
    exact .inl ⟨f, by omega, rfl⟩
theorem pC_page (z : Int) : pageB (pC z) = true := by
  unfold pC pageB; split <;> simp <;> omega
theorem page_of {p : Int} (h : 0 ≤ p ∧ p ≤ 63) : pageB p = true := by simp [pageB]; omega
theorem byT_ways {zs : List Int} {b : Br} {d p : Int} {wr : Bool} (hk : chk zs = 0) (hp : 0 ≤ p ∧ p ≤ 63) :
    (∃ f, (2 ≤ f ∧ f ≤ 5) ∧ ∀ l, byT zs (b.with l) d p wr = (b.with l, 0, f)) ∨
    (∀ l, byT zs (b.with l) d p wr = (b.with l, p, 0)) ∨
    (∃ a x, (0 ≤ a ∧ a ≤ 63) ∧ (wr = true → x = true) ∧ ∀ l, byT zs (b.with l) d p wr = (b.with (flC l (d, p, a, true, x)), a, 0)) := by
  have hc : ∀ l, ctxW zs (b.with l) d = ctxW zs b d := fun l => rfl
  unfold byT
  by_cases h1 : vC (ctxW zs b d) = true
  · by_cases h2 : aC (ctxW zs b d) = true
    · exact .inr (.inl fun l => by rw [hc, if_pos h1, if_pos h2])
    · rcases wkd_two (wr := wr) hk (pC_page (ctxW zs b d)) (page_of hp) with ⟨f, hf, e⟩ | ⟨x, a, ha, hx, e⟩
      · refine .inl ⟨f, by omega, fun l => ?_⟩
        rw [hc, if_pos h1, if_neg h2, e]
        exact if_neg (show ¬ f = 0 by omega)
      · refine .inr (.inr ⟨a, x, ha, hx, fun l => ?_⟩)
        rw [hc, if_pos h1, if_neg h2, e]
        exact if_pos rfl
  · exact .inl ⟨2, by omega, fun l => by rw [hc, if_neg h1]⟩
theorem with_self (b : Br) : b.with b.cache = b := rfl
theorem fnd_line {l : List Ln} {d p : Int} (h : 0 ≤ fndC l d p) : (fndC l d p).toNat < l.length ∧ hasB d p (lineC l d p) = true ∧ lineC l d p ∈ l := by
  unfold lineC
  unfold fndC at h ⊢
  cases e : l.findIdx? (hasB d p) with
  | none => rw [e] at h; exact absurd h (by decide)
  | some i =>
    rw [List.findIdx?_eq_some_iff_getElem] at e
    obtain ⟨hi, h1, _⟩ := e
    have hn : ((i : Int)).toNat = i := by simp
    simp only [hn]
    exact ⟨hi, by rw [lth_get hi]; exact h1, by rw [lth_get hi]; exact List.getElem_mem hi⟩
theorem line_at {l : List Ln} (h : chkC l = 0) {x : Ln} (hx : x ∈ l) : (0 ≤ x.2.2.1 ∧ x.2.2.1 ≤ 63) ∧ x.2.2.2.1 = true := by
  obtain ⟨g1, g2, _⟩ := chkC_zero.1 h
  obtain ⟨a, b⟩ := g2 x hx
  simp only [rngB, Bool.and_eq_true, decide_eq_true_eq] at a
  exact ⟨by omega, b⟩
theorem fl_ok {l : List Ln} {d p a : Int} {x : Bool} (hl : chkC l = 0) (hd : 0 ≤ d ∧ d ≤ 7) (hp : 0 ≤ p ∧ p ≤ 63) (ha : 0 ≤ a ∧ a ≤ 63) (hn : ¬ 0 ≤ fndC l d p) : flE l (d, p, a, true, x) = 0 := by
  have h1 : chkC [((d, p, a, true, x) : Ln)] = 0 := chkC_zero.2 ⟨by simp, fun y hy => by
    obtain rfl := List.mem_singleton.1 hy
    exact ⟨by simp [rngB]; omega, rfl⟩, List.pairwise_singleton _ _⟩
  rw [flE, if_pos hl, if_pos h1, if_neg hn]
theorem goT_ways {zs : List Int} {b : Br} {d p : Int} {wr : Bool} (h : thE zs b d p = 0) :
    (∃ f, (1 ≤ f ∧ f ≤ 5) ∧ goT zs b d p wr = (b, 0, f)) ∨
    (∃ k, (0 ≤ k ∧ k ≤ 63) ∧ goT zs b d p wr = (b, k, 0) ∧ (b.mode = 2 → 0 ≤ fndC b.cache d p → (lineC b.cache d p).2.2.1 = k ∧ (wr && !(lineC b.cache d p).2.2.2.2) = false)) ∨
    (∃ a x, b.mode = 2 ∧ ¬ 0 ≤ fndC b.cache d p ∧ (0 ≤ a ∧ a ≤ 63) ∧ (wr = true → x = true) ∧ flE b.cache (d, p, a, true, x) = 0 ∧ goT zs b d p wr = (b.with (flC b.cache (d, p, a, true, x)), a, 0)) := by
  obtain ⟨hk, hb, hd, hp⟩ := thE_ok h
  obtain ⟨m1, _, _, hc, _, _⟩ := chkB_ok hb
  unfold goT
  by_cases h0 : b.mode = 0
  · rw [if_pos h0]; exact .inl ⟨1, by omega, rfl⟩
  rw [if_neg h0]
  by_cases h1 : b.mode = 1
  · rw [if_pos h1]; exact .inr (.inl ⟨p, hp, rfl, fun e => by omega⟩)
  rw [if_neg h1]
  by_cases hf : 0 ≤ fndC b.cache d p
  · rw [if_pos hf]
    by_cases hq : (wr && !(lineC b.cache d p).2.2.2.2) = true
    · rw [if_pos hq]; exact .inl ⟨5, by omega, rfl⟩
    · rw [if_neg hq]
      exact .inr (.inl ⟨_, (line_at hc (fnd_line hf).2.2).1, rfl, fun _ _ => ⟨rfl, by simpa using hq⟩⟩)
  · rw [if_neg hf]
    rcases byT_ways (b := b) (d := d) (wr := wr) hk hp with ⟨f, hff, e⟩ | e | ⟨a, x, ha, hx, e⟩
    · exact .inl ⟨f, by omega, e b.cache⟩
    · exact .inr (.inl ⟨p, hp, e b.cache, fun _ g => absurd g hf⟩)
    · exact .inr (.inr ⟨a, x, by omega, hf, ha, hx, fl_ok hc hd hp ha hf, e b.cache⟩)
theorem goT_good {zs : List Int} {b c : Br} {d p k f : Int} {wr : Bool} (h : thE zs b d p = 0) (hg : goT zs b d p wr = (c, k, f)) :
    chkB c = 0 ∧ (¬ f = 0 → c = b) ∧ (0 ≤ k ∧ k ≤ 63) ∧ (0 ≤ f ∧ f ≤ 5) ∧ ∃ l, c = b.with l := by
  obtain ⟨hk, hb, hd, hp⟩ := thE_ok h
  rcases goT_ways (wr := wr) h with ⟨f', hf, e⟩ | ⟨k', hk', e, _⟩ | ⟨a, x, hm, hn, ha, hx, hl, e⟩
  all_goals
    rw [e] at hg
    simp only [Prod.mk.injEq] at hg
    obtain ⟨rfl, rfl, rfl⟩ := hg
  · exact ⟨hb, fun _ => rfl, by omega, by omega, _, (with_self b).symm⟩
  · exact ⟨hb, fun _ => rfl, hk', by omega, _, (with_self b).symm⟩
  · exact ⟨chkB_with hb (fill_good hl).1, fun g => absurd rfl g, ha, by omega, _, rfl⟩
end Go.Proofs.YtlgjllmecjkbjacGreat
/-
  Instructions as words: numbers alone.
-/
namespace Go.Proofs.YtlgjllmecjkbjacGreat
open Go.RowKit
def useA (k : Int) : Bool := decide (1 ≤ k)
def useB (k : Int) : Bool := decide (k = 2) || decide (4 ≤ k ∧ k ≤ 6)
def useI (k : Int) : Bool := decide (1 ≤ k) && !decide (k = 2)
def rngI (k a b i : Int) : Bool := decide (0 ≤ k ∧ k ≤ 8) && decide (0 ≤ a ∧ a ≤ 7) && decide (0 ≤ b ∧ b ≤ 7) && decide (0 ≤ i ∧ i ≤ 63)
def fitI (k a b i : Int) : Bool := (useA k || decide (a = 0)) && (useB k || decide (b = 0)) && (useI k || decide (i = 0))
def iE (k a b i : Int) : Int := if rngI k a b i = true then (if fitI k a b i = true then 0 else 3) else 2
def iW (k a b i : Int) : Int := if iE k a b i = 0 then 4096 * k + 512 * a + 64 * b + i else 0
def riE (w : Int) : Int := if 0 ≤ w ∧ w ≤ 65535 then (if iE (w / 4096) (w / 512 % 8) (w / 64 % 8) (w % 64) = 0 then 0 else 3) else 2
def riX (w : Int) : Int × Int × Int × Int := if riE w = 0 then (w / 4096, w / 512 % 8, w / 64 % 8, w % 64) else (0, 0, 0, 0)
theorem iE_ok {k a b i : Int} (h : iE k a b i = 0) : (0 ≤ k ∧ k ≤ 8) ∧ (0 ≤ a ∧ a ≤ 7) ∧ (0 ≤ b ∧ b ≤ 7) ∧ (0 ≤ i ∧ i ≤ 63) ∧ fitI k a b i = true := by
  unfold iE at h
  by_cases h1 : rngI k a b i = true
  · rw [if_pos h1] at h
    by_cases h2 : fitI k a b i = true
    · simp only [rngI, Bool.and_eq_true, decide_eq_true_eq] at h1
      exact ⟨h1.1.1.1, h1.1.1.2, h1.1.2, h1.2, h2⟩
    · rw [if_neg h2] at h; exact absurd h (by decide)
  · rw [if_neg h1] at h; exact absurd h (by decide)
theorem iW_ok {k a b i : Int} (h : iE k a b i = 0) : iW k a b i = 4096 * k + 512 * a + 64 * b + i := if_pos h
theorem riE_ok {w : Int} (h : riE w = 0) : (0 ≤ w ∧ w ≤ 65535) ∧ iE (w / 4096) (w / 512 % 8) (w / 64 % 8) (w % 64) = 0 := by
  unfold riE at h
  by_cases h1 : 0 ≤ w ∧ w ≤ 65535
  · rw [if_pos h1] at h
    by_cases h2 : iE (w / 4096) (w / 512 % 8) (w / 64 % 8) (w % 64) = 0
    · exact ⟨h1, h2⟩
    · rw [if_neg h2] at h; exact absurd h (by decide)
  · rw [if_neg h1] at h; exact absurd h (by decide)
theorem riE_mk {w : Int} (h1 : 0 ≤ w ∧ w ≤ 65535) (h2 : iE (w / 4096) (w / 512 % 8) (w / 64 % 8) (w % 64) = 0) : riE w = 0 := by unfold riE; rw [if_pos h1, if_pos h2]
theorem i_read {w k a b i : Int} (h : riE w = 0) (e : riX w = (k, a, b, i)) : iE k a b i = 0 ∧ iW k a b i = w := by
  obtain ⟨h1, h2⟩ := riE_ok h
  rw [riX, if_pos h] at e
  simp only [Prod.mk.injEq] at e
  obtain ⟨rfl, rfl, rfl, rfl⟩ := e
  exact ⟨h2, by rw [iW_ok h2]; omega⟩
end Go.Proofs.YtlgjllmecjkbjacGreat
/-
  The hart, as data alone: what Check, Same, Step answer, and what holds of a step.
-/
namespace Go.Proofs.YtlgjllmecjkbjacGreat
open Go.RowKit
structure Ht where
  pc : Int
  r : List Int
  done : Bool
def H0 : Ht := ⟨0, [], false⟩
def chkH (h : Ht) : Int := if h.r.length = 8 then (if placeB h.pc = true then (if h.r.all wordB = true then 0 else 2) else 2) else 3
def stE (zs : List Int) (h : Ht) (b : Br) : Int := if chk zs = 0 then (if chkH h = 0 then (if chkB b = 0 then (if h.done = true then 6 else 0) else chkB b) else chkH h) else chk zs
def stB (b : Br) : Int := (if b.stop = true then 1 else 0) + (if b.lost = true then 2 else 0)
def regB (b : Br) (i : Int) : Int :=
  if i = 0 then b.mode else if i = 1 then b.base else if i = 2 then b.op else if i = 3 then b.ot else if i = 4 then b.oh else if i = 5 then b.fp else if i = 6 then b.fh else if i = 7 then b.ft else if i = 8 then b.fen else stB b
def mostB (i : Int) : Int := if i = 0 then 2 else if i = 1 ∨ i = 2 ∨ i = 5 then 63 else if i = 3 ∨ i = 6 then 7 else if i = 9 then 0 else -1
def setB (b : Br) (i v : Int) : Br :=
  if i = 0 then { b with mode := v } else if i = 1 then { b with base := v } else if i = 2 then { b with op := v } else if i = 3 then { b with ot := v } else if i = 5 then { b with fp := v } else if i = 6 then { b with fh := v } else { b with stop := false, lost := false }
def stand (zs : List Int) (h : Ht) (b : Br) : List Int × Ht × Br := (zs, { h with done := true }, b)
def nextP (p : Int) : Int := (p + 1) % 512
def exeI (zs : List Int) (h : Ht) (b : Br) (k x y i : Int) : List Int × Ht × Br :=
  if k = 1 then (zs, ⟨nextP h.pc, h.r.set x.toNat i, h.done⟩, b)
  else if k = 2 then (zs, ⟨nextP h.pc, h.r.set x.toNat ((nth h.r x.toNat + nth h.r y.toNat) % 65536), h.done⟩, b)
  else if k = 3 then (zs, ⟨nextP h.pc, h.r.set x.toNat (nth h.r x.toNat * 2 ^ i.toNat % 65536), h.done⟩, b)
  else if k = 4 then (if nth h.r y.toNat + i ≤ 511 then (zs, ⟨nextP h.pc, h.r.set x.toNat (nth zs (nth h.r y.toNat + i).toNat), h.done⟩, b) else stand zs h b)
  else if k = 5 then (if nth h.r y.toNat + i ≤ 511 then (zs.set (nth h.r y.toNat + i).toNat (nth h.r x.toNat), ⟨nextP h.pc, h.r, h.done⟩, b) else stand zs h b)
  else if k = 6 then (zs, ⟨if nth h.r x.toNat = nth h.r y.toNat then i else nextP h.pc, h.r, h.done⟩, b)
  else if k = 7 then (if nth h.r x.toNat ≤ mostB i then (zs, ⟨nextP h.pc, h.r, h.done⟩, setB b i (nth h.r x.toNat)) else stand zs h b)
  else if k = 8 then (if i ≤ 9 then (zs, ⟨nextP h.pc, h.r.set x.toNat (regB b i), h.done⟩, b) else stand zs h b)
  else stand zs h b
def insW (zs : List Int) (h : Ht) : Int := nth zs h.pc.toNat
def goS (zs : List Int) (h : Ht) (b : Br) : List Int × Ht × Br :=
  if riE (insW zs h) = 0 then exeI zs h b (riX (insW zs h)).1 (riX (insW zs h)).2.1 (riX (insW zs h)).2.2.1 (riX (insW zs h)).2.2.2 else stand zs h b
def stR (zs : List Int) (h : Ht) (b : Br) : List Int × Ht × Br := if stE zs h b = 0 then goS zs h b else ([], H0, B0)
theorem chkH_ok {h : Ht} (e : chkH h = 0) : h.r.length = 8 ∧ (0 ≤ h.pc ∧ h.pc < 512) ∧ ∀ i, i < 8 → 0 ≤ nth h.r i ∧ nth h.r i ≤ 65535 := by
  unfold chkH at e
  by_cases h1 : h.r.length = 8
  · rw [if_pos h1] at e
    by_cases h2 : placeB h.pc = true
    · rw [if_pos h2] at e
      by_cases h3 : h.r.all wordB = true
      · refine ⟨h1, by simpa [placeB] using h2, fun i hi => ?_⟩
        rw [List.all_eq_true] at h3
        have := h3 (nth h.r i) (by rw [nth, List.getD_eq_getElem?_getD, List.getElem?_eq_getElem (by omega)]; exact List.getElem_mem _)
        simpa [wordB] using this
      · rw [if_neg h3] at e; exact absurd e (by decide)
    · rw [if_neg h2] at e; exact absurd e (by decide)
  · rw [if_neg h1] at e; exact absurd e (by decide)
theorem all_words {zs : List Int} (h : ∀ i, i < zs.length → wordB (nth zs i) = true) : zs.all wordB = true := by
  rw [List.all_eq_true]
  intro x hx
  obtain ⟨i, hi, rfl⟩ := List.mem_iff_getElem.1 hx
  have := h i hi
  rwa [nth, List.getD_eq_getElem?_getD, List.getElem?_eq_getElem hi] at this
theorem chkH_mk {h : Ht} (h1 : h.r.length = 8) (h2 : 0 ≤ h.pc ∧ h.pc < 512) (h3 : ∀ i, i < 8 → 0 ≤ nth h.r i ∧ nth h.r i ≤ 65535) : chkH h = 0 := by
  rw [chkH, if_pos h1, if_pos (by simpa [placeB] using h2), if_pos]
  exact all_words fun i hi => by have := h3 i (by omega); simpa [wordB] using this
theorem stE_ok {zs : List Int} {h : Ht} {b : Br} (e : stE zs h b = 0) : chk zs = 0 ∧ chkH h = 0 ∧ chkB b = 0 ∧ h.done = false := by
  unfold stE at e
  by_cases h1 : chk zs = 0
  · rw [if_pos h1] at e
    by_cases h2 : chkH h = 0
    · rw [if_pos h2] at e
      by_cases h3 : chkB b = 0
      · rw [if_pos h3] at e
        by_cases h4 : h.done = true
        · rw [if_pos h4] at e; exact absurd e (by decide)
        · exact ⟨h1, h2, h3, by simpa using h4⟩
      · rw [if_neg h3] at e; exact absurd e h3
    · rw [if_neg h2] at e; exact absurd e h2
  · rw [if_neg h1] at e; exact absurd e h1
theorem stE_mk {zs : List Int} {h : Ht} {b : Br} (h1 : chk zs = 0) (h2 : chkH h = 0) (h3 : chkB b = 0) : stE zs h b = if h.done = true then 6 else 0 := by
  rw [stE, if_pos h1, if_pos h2, if_pos h3]
def shl (v : Int) : Nat → Int
  | 0 => v
  | n + 1 => shl v n * 2 % 65536
theorem shl_pow {v : Int} (h : 0 ≤ v ∧ v ≤ 65535) : ∀ n, shl v n = v * 2 ^ n % 65536
  | 0 => by simp [shl]; omega
  | n + 1 => by
    rw [shl, shl_pow h n, Int.pow_succ]
    have : v * (2 ^ n * 2) = v * 2 ^ n * 2 := by rw [Int.mul_assoc]
    rw [this]
    omega
theorem shl_in {v : Int} (h : 0 ≤ v ∧ v ≤ 65535) : ∀ n, 0 ≤ shl v n ∧ shl v n ≤ 65535
  | 0 => h
  | n + 1 => by rw [shl]; omega
theorem nth_set_eq {l : List Int} {i : Nat} (h : i < l.length) (z : Int) : nth (l.set i z) i = z := by simp [nth, h]
theorem nth_set_ne {l : List Int} {i j : Nat} (h : i ≠ j) (z : Int) : nth (l.set i z) j = nth l j := by
  simp [nth, List.getElem?_set_ne h]
theorem regs_set {h : Ht} (hk : chkH h = 0) {x v : Int} (hv : 0 ≤ v ∧ v ≤ 65535) {p : Int} (hp : 0 ≤ p ∧ p < 512) (d : Bool) : chkH ⟨p, h.r.set x.toNat v, d⟩ = 0 := by
  obtain ⟨h1, h2, h3⟩ := chkH_ok hk
  refine chkH_mk (by simpa using h1) hp fun i hi => ?_
  by_cases e : x.toNat = i
  · subst e
    rw [nth_set_eq (by rw [h1]; omega)]; exact hv
  · rw [nth_set_ne e]; exact h3 i hi
theorem regs_keep {h : Ht} (hk : chkH h = 0) {p : Int} (hp : 0 ≤ p ∧ p < 512) (d : Bool) : chkH ⟨p, h.r, d⟩ = 0 := by
  obtain ⟨h1, _, h3⟩ := chkH_ok hk
  exact chkH_mk h1 hp h3
theorem regB_in {b : Br} (h : chkB b = 0) (i : Int) : 0 ≤ regB b i ∧ regB b i ≤ 65535 := by
  obtain ⟨g1, g2, g3, _, g5, g6⟩ := chkB_ok h
  obtain ⟨r1, r2, r3⟩ := chkR_ok g5
  obtain ⟨s1, s2, s3⟩ := chkR_ok g6
  have r1 := pageR_in r1
  have r2 := stepR_in r2
  have r3 := stepR_in r3
  have s1 := pageR_in s1
  have s2 := stepR_in s2
  have s3 := stepR_in s3
  have hs : 0 ≤ stB b ∧ stB b ≤ 3 := by unfold stB; split <;> split <;> omega
  unfold regB
  obtain ⟨s, hs'⟩ : ∃ s, stB b = s := ⟨_, rfl⟩
  rw [hs'] at hs ⊢
  by_cases c0 : i = 0
  · rw [if_pos c0]; omega
  rw [if_neg c0]
  by_cases c1 : i = 1
  · rw [if_pos c1]; omega
  rw [if_neg c1]
  by_cases c2 : i = 2
  · rw [if_pos c2]; omega
  rw [if_neg c2]
  by_cases c3 : i = 3
  · rw [if_pos c3]; omega
  rw [if_neg c3]
  by_cases c4 : i = 4
  · rw [if_pos c4]; omega
  rw [if_neg c4]
  by_cases c5 : i = 5
  · rw [if_pos c5]; omega
  rw [if_neg c5]
  by_cases c6 : i = 6
  · rw [if_pos c6]; omega
  rw [if_neg c6]
  by_cases c7 : i = 7
  · rw [if_pos c7]; omega
  rw [if_neg c7]
  by_cases c8 : i = 8
  · rw [if_pos c8]; omega
  rw [if_neg c8]
  omega
theorem setB_same (b : Br) (i v : Int) : (setB b i v).cache = b.cache ∧ (setB b i v).fen = b.fen ∧ (setB b i v).oh = b.oh ∧ (setB b i v).ft = b.ft := by
  unfold setB; (repeat' split) <;> exact ⟨rfl, rfl, rfl, rfl⟩
theorem setB_good {b : Br} (h : chkB b = 0) {i v : Int} (hv : 0 ≤ v) (hm : v ≤ mostB i) : chkB (setB b i v) = 0 := by
  obtain ⟨g1, g2, g3, g4, g5, g6⟩ := chkB_ok h
  obtain ⟨r1, r2, r3⟩ := chkR_ok g5
  obtain ⟨s1, s2, s3⟩ := chkR_ok g6
  unfold mostB at hm
  unfold setB
  by_cases c0 : i = 0
  · rw [if_pos c0] at hm ⊢; exact chkB_mk ⟨hv, hm⟩ g2 g3 g4 g5 g6
  rw [if_neg c0] at hm ⊢
  by_cases c1 : i = 1
  · rw [if_pos (.inl c1)] at hm; rw [if_pos c1]; exact chkB_mk g1 ⟨hv, hm⟩ g3 g4 g5 g6
  rw [if_neg c1]
  by_cases c2 : i = 2
  · rw [if_pos (.inr (.inl c2))] at hm; rw [if_pos c2]; exact chkB_mk g1 g2 g3 g4 (chkR_mk (by simp [pageR]; omega) r2 r3) g6
  rw [if_neg c2]
  by_cases c3 : i = 3
  · rw [if_neg (by omega), if_pos (.inl c3)] at hm; rw [if_pos c3]; exact chkB_mk g1 g2 g3 g4 (chkR_mk r1 r2 (by simp [stepR]; omega)) g6
  rw [if_neg c3]
  by_cases c5 : i = 5
  · rw [if_pos (.inr (.inr c5))] at hm; rw [if_pos c5]; exact chkB_mk g1 g2 g3 g4 g5 (chkR_mk (by simp [pageR]; omega) s2 s3)
  rw [if_neg c5]
  by_cases c6 : i = 6
  · rw [if_neg (by omega), if_pos (.inr c6)] at hm; rw [if_pos c6]; exact chkB_mk g1 g2 g3 g4 g5 (chkR_mk s1 (by simp [stepR]; omega) s3)
  rw [if_neg c6]
  exact chkB_mk g1 g2 g3 g4 g5 g6
theorem goS_ways {zs : List Int} {h : Ht} {b : Br} (e : stE zs h b = 0) :
    (goS zs h b = stand zs h b) ∨
    (∃ x v : Int, (0 ≤ x ∧ x ≤ 7) ∧ (0 ≤ v ∧ v ≤ 65535) ∧ goS zs h b = (zs, ⟨nextP h.pc, h.r.set x.toNat v, false⟩, b)) ∨
    (∃ q v : Int, (0 ≤ q ∧ q < 512) ∧ (0 ≤ v ∧ v ≤ 65535) ∧ goS zs h b = (zs.set q.toNat v, ⟨nextP h.pc, h.r, false⟩, b)) ∨
    (∃ p : Int, (p = nextP h.pc ∨ (0 ≤ p ∧ p ≤ 63)) ∧ goS zs h b = (zs, ⟨p, h.r, false⟩, b)) ∨
    (∃ i v : Int, (0 ≤ v ∧ v ≤ mostB i) ∧ goS zs h b = (zs, ⟨nextP h.pc, h.r, false⟩, setB b i v)) := by
  obtain ⟨hz, hh, hb, hd⟩ := stE_ok e
  obtain ⟨r1, r2, r3⟩ := chkH_ok hh
  obtain ⟨z1, z2⟩ := chk_ok hz
  unfold goS
  by_cases hr : riE (insW zs h) = 0
  · rw [if_pos hr]
    obtain ⟨⟨k, x, y, i⟩, hX⟩ : ∃ X, riX (insW zs h) = X := ⟨_, rfl⟩
    obtain ⟨hi, hw⟩ := i_read hr hX
    obtain ⟨i1, i2, i3, i4, _⟩ := iE_ok hi
    rw [hX]
    simp only
    have rx := r3 x.toNat (by omega)
    have ry := r3 y.toNat (by omega)
    unfold exeI
    rw [hd]
    by_cases c1 : k = 1
    · rw [if_pos c1]; exact .inr (.inl ⟨x, i, i2, by omega, rfl⟩)
    rw [if_neg c1]
    by_cases c2 : k = 2
    · rw [if_pos c2]; exact .inr (.inl ⟨x, _, i2, by omega, rfl⟩)
    rw [if_neg c2]
    by_cases c3 : k = 3
    · rw [if_pos c3]; exact .inr (.inl ⟨x, _, i2, by omega, rfl⟩)
    rw [if_neg c3]
    by_cases c4 : k = 4
    · rw [if_pos c4]
      by_cases q : nth h.r y.toNat + i ≤ 511
      · rw [if_pos q]
        have := z2 (nth h.r y.toNat + i).toNat (by omega)
        exact .inr (.inl ⟨x, _, i2, by simpa [wordB] using this, rfl⟩)
      · rw [if_neg q]; exact .inl rfl
    rw [if_neg c4]
    by_cases c5 : k = 5
    · rw [if_pos c5]
      by_cases q : nth h.r y.toNat + i ≤ 511
      · rw [if_pos q]
        exact .inr (.inr (.inl ⟨nth h.r y.toNat + i, _, by omega, rx, rfl⟩))
      · rw [if_neg q]; exact .inl rfl
    rw [if_neg c5]
    by_cases c6 : k = 6
    · rw [if_pos c6]
      refine .inr (.inr (.inr (.inl ⟨_, ?_, rfl⟩)))
      split
      · exact .inr i4
      · exact .inl rfl
    rw [if_neg c6]
    by_cases c7 : k = 7
    · rw [if_pos c7]
      by_cases q : nth h.r x.toNat ≤ mostB i
      · rw [if_pos q]
        exact .inr (.inr (.inr (.inr ⟨i, _, ⟨rx.1, q⟩, rfl⟩)))
      · rw [if_neg q]; exact .inl rfl
    rw [if_neg c7]
    by_cases c8 : k = 8
    · rw [if_pos c8]
      by_cases q : i ≤ 9
      · rw [if_pos q]
        exact .inr (.inl ⟨x, _, i2, regB_in hb i, rfl⟩)
      · rw [if_neg q]; exact .inl rfl
    rw [if_neg c8]
    exact .inl rfl
  · rw [if_neg hr]; exact .inl rfl
theorem nextP_in {p : Int} (_ : 0 ≤ p ∧ p < 512) : 0 ≤ nextP p ∧ nextP p < 512 := by unfold nextP; omega
def difN (xs ys : List Int) : Nat → Nat
  | 0 => 0
  | k + 1 => difN xs ys k + (if nth xs k = nth ys k then 0 else 1)
theorem difN_self (xs : List Int) : ∀ k, difN xs xs k = 0
  | 0 => rfl
  | k + 1 => by rw [difN, difN_self xs k, if_pos rfl]
theorem difN_set (xs : List Int) (i : Nat) (z : Int) : ∀ k, difN (xs.set i z) xs k ≤ (if i < k then 1 else 0)
  | 0 => Nat.le_refl 0
  | k + 1 => by
    have := difN_set xs i z k
    rw [difN]
    by_cases e : i = k
    · subst e
      rw [if_neg (by omega)] at this
      rw [if_pos (show i < i + 1 by omega)]
      split <;> omega
    · rw [if_pos (nth_set_ne e z)]
      split at this <;> split <;> omega
theorem goS_keeps {zs ns : List Int} {h g : Ht} {b c : Br} (e : stE zs h b = 0) (hg : goS zs h b = (ns, g, c)) :
    chk ns = 0 ∧ chkH g = 0 ∧ chkB c = 0 ∧ difN ns zs 512 + difN g.r h.r 8 ≤ 1 ∧ c.cache = b.cache ∧ c.fen = b.fen ∧ c.oh = b.oh ∧ c.ft = b.ft ∧
    (g.done = true → ns = zs ∧ g.r = h.r ∧ g.pc = h.pc ∧ c = b) ∧ (c = b ∨ (ns = zs ∧ g.r = h.r)) ∧
    (g.pc = nextP h.pc ∨ (g.done = true ∧ g.pc = h.pc) ∨ (g.done = false ∧ g.pc ≤ 63)) := by
  obtain ⟨hz, hh, hb, hd⟩ := stE_ok e
  obtain ⟨r1, r2, r3⟩ := chkH_ok hh
  obtain ⟨z1, z2⟩ := chk_ok hz
  have hn := nextP_in r2
  rcases goS_ways e with w | ⟨x, v, hx, hv, w⟩ | ⟨q, v, hq, hv, w⟩ | ⟨p, hp, w⟩ | ⟨i, v, hv, w⟩
  all_goals
    rw [hg] at w
    simp only [stand, Prod.mk.injEq] at w
    obtain ⟨rfl, rfl, rfl⟩ := w
  · exact ⟨hz, regs_keep hh r2 _, hb, by simp [difN_self], rfl, rfl, rfl, rfl, fun _ => ⟨rfl, rfl, rfl, rfl⟩, .inl rfl, .inr (.inl ⟨rfl, rfl⟩)⟩
  · refine ⟨hz, regs_set hh hv hn _, hb, ?_, rfl, rfl, rfl, rfl, fun q => absurd q (by simp), .inl rfl, .inl rfl⟩
    have := difN_set h.r x.toNat v 8
    simp only [difN_self]
    split at this <;> omega
  · refine ⟨chk_set hz (by simpa [wordB] using hv), regs_keep hh hn _, hb, ?_, rfl, rfl, rfl, rfl, fun q => absurd q (by simp), .inl rfl, .inl rfl⟩
    have := difN_set zs q.toNat v 512
    simp only [difN_self]
    split at this <;> omega
  · refine ⟨hz, regs_keep hh (by omega) _, hb, by simp [difN_self], rfl, rfl, rfl, rfl, fun q => absurd q (by simp), .inl rfl, ?_⟩
    rcases hp with hp | hp
    · exact .inl hp
    · exact .inr (.inr ⟨rfl, hp.2⟩)
  · obtain ⟨s1, s2, s3, s4⟩ := setB_same b i v
    exact ⟨hz, regs_keep hh hn _, setB_good hb hv.1 hv.2, by simp [difN_self], s1, s2, s3, s4, fun q => absurd q (by simp), .inr ⟨rfl, rfl⟩, .inl rfl⟩
end Go.Proofs.YtlgjllmecjkbjacGreat
/-
  The bridge, as data alone: what Tell, Obey answer; faults in their ring; orders one by one.
-/
namespace Go.Proofs.YtlgjllmecjkbjacGreat
open Go.RowKit
def tlE (zs : List Int) (b : Br) (c d p : Int) : Int := if bothB zs b = 0 then fE c d p else bothB zs b
def fullB (b : Br) : Bool := b.lost || decide (lenR b.fh b.ft = 7)
def tlM (zs : List Int) (b : Br) (c d p : Int) (x : Bool) : List Int :=
  if tlE zs b c d p = 0 then (if fullB b = true then zs else zs.set (b.fp * 8 + b.ft).toNat (fW c d p x)) else []
def tlB (zs : List Int) (b : Br) (c d p : Int) : Br :=
  if tlE zs b c d p = 0 then (if fullB b = true then { b with lost := true } else { b with ft := (b.ft + 1) % 8 }) else B0
def obE (zs : List Int) (b : Br) : Int := if bothB zs b = 0 then (if b.stop = true then 6 else if b.oh = b.ot then 6 else 0) else bothB zs b
def ordW (zs : List Int) (b : Br) : Int := nth zs (b.op * 8 + b.oh).toNat
def obB (zs : List Int) (b : Br) : Br :=
  if obE zs b = 0 then
    (if roE (ordW zs b) = 0 then { b with oh := (b.oh + 1) % 8, cache := drC b.cache (roO (ordW zs b)).1 (roO (ordW zs b)).2.1 (roO (ordW zs b)).2.2, fen := if (roO (ordW zs b)).1 = 0 then (b.fen + 1) % 1000 else b.fen }
    else { b with stop := true })
  else B0
theorem tlE_ok {zs : List Int} {b : Br} {c d p : Int} (h : tlE zs b c d p = 0) : chk zs = 0 ∧ chkB b = 0 ∧ fE c d p = 0 := by
  unfold tlE at h
  by_cases hb : bothB zs b = 0
  · rw [if_pos hb] at h
    exact ⟨(bothB_ok hb).1, (bothB_ok hb).2, h⟩
  · rw [if_neg hb] at h; exact absurd h hb
theorem fW_word {c d p : Int} (x : Bool) (h : fE c d p = 0) : wordB (fW c d p x) = true := by
  have := (rfE_ok (f_back (x := x) h).1).1
  simp [wordB]; omega
theorem tl_good {zs : List Int} {b : Br} {c d p : Int} (x : Bool) (h : tlE zs b c d p = 0) : chk (tlM zs b c d p x) = 0 ∧ chkB (tlB zs b c d p) = 0 ∧ (tlB zs b c d p).lost = fullB b := by
  obtain ⟨h1, h2, h3⟩ := tlE_ok h
  obtain ⟨g1, g2, g3, g4, g5, g6⟩ := chkB_ok h2
  rw [tlM, if_pos h, tlB, if_pos h]
  by_cases hf : fullB b = true
  · rw [if_pos hf, if_pos hf]
    exact ⟨h1, chkB_mk g1 g2 g3 g4 g5 g6, hf.symm⟩
  · rw [if_neg hf, if_neg hf]
    obtain ⟨r1, r2, r3⟩ := chkR_ok g6
    have hl : b.lost = false := by
      simp only [fullB, Bool.or_eq_true, not_or] at hf
      simpa using hf.1
    refine ⟨chk_set h1 (fW_word x h3), chkB_mk g1 g2 g3 g4 g5 (chkR_mk r1 r2 ?_), ?_⟩
    · simp [stepR]; omega
    · have : fullB b = false := by simpa using hf
      rw [this]; exact hl
theorem obE_ok {zs : List Int} {b : Br} (h : obE zs b = 0) : chk zs = 0 ∧ chkB b = 0 ∧ b.stop = false ∧ ¬ b.oh = b.ot := by
  unfold obE at h
  by_cases hb : bothB zs b = 0
  · rw [if_pos hb] at h
    by_cases hs : b.stop = true
    · rw [if_pos hs] at h; exact absurd h (by decide)
    · rw [if_neg hs] at h
      by_cases he : b.oh = b.ot
      · rw [if_pos he] at h; exact absurd h (by decide)
      · exact ⟨(bothB_ok hb).1, (bothB_ok hb).2, by simpa using hs, he⟩
  · rw [if_neg hb] at h; exact absurd h hb
theorem ob_bad {zs : List Int} {b : Br} (h : obE zs b = 0) (hr : ¬ roE (ordW zs b) = 0) : obB zs b = { b with stop := true } ∧ chkB (obB zs b) = 0 := by
  obtain ⟨_, h2, _, _⟩ := obE_ok h
  obtain ⟨g1, g2, g3, g4, g5, g6⟩ := chkB_ok h2
  have e : obB zs b = { b with stop := true } := by rw [obB, if_pos h, if_neg hr]
  rw [e]
  exact ⟨rfl, chkB_mk g1 g2 g3 g4 g5 g6⟩
theorem ob_right {zs : List Int} {b : Br} {k d p : Int} (h : obE zs b = 0) (hr : roE (ordW zs b) = 0) (ho : roO (ordW zs b) = (k, d, p)) :
    obB zs b = { b with oh := (b.oh + 1) % 8, cache := drC b.cache k d p, fen := if k = 0 then (b.fen + 1) % 1000 else b.fen } ∧ chkB (obB zs b) = 0 ∧ drE b.cache k = 0 ∧ (0 ≤ k ∧ k ≤ 3) ∧ lenR ((b.oh + 1) % 8) b.ot = lenR b.oh b.ot - 1 := by
  obtain ⟨_, h2, _, h4⟩ := obE_ok h
  obtain ⟨g1, g2, g3, g4, g5, g6⟩ := chkB_ok h2
  obtain ⟨r1, r2, r3⟩ := chkR_ok g5
  have hk : 0 ≤ k ∧ k ≤ 3 := by
    have := (oE_ok (o_read hr ho).1).1
    omega
  have hd : drE b.cache k = 0 := by rw [drE, if_pos g4, if_pos hk]
  have e : obB zs b = { b with oh := (b.oh + 1) % 8, cache := drC b.cache k d p, fen := if k = 0 then (b.fen + 1) % 1000 else b.fen } := by
    rw [obB, if_pos h, if_pos hr, ho]
  refine ⟨e, ?_, hd, hk, ?_⟩
  · rw [e]
    refine chkB_mk g1 g2 ?_ (drop_good hd) (chkR_mk r1 ?_ r3) g6
    · show 0 ≤ (if k = 0 then (b.fen + 1) % 1000 else b.fen) ∧ (if k = 0 then (b.fen + 1) % 1000 else b.fen) ≤ 999
      split <;> omega
    · simp [stepR]; omega
  · have a := stepR_in r2
    have c := stepR_in r3
    unfold lenR; omega
end Go.Proofs.YtlgjllmecjkbjacGreat
/-
  Package dma, as data alone: what Check, Do answer; a burst word by word, page by page.
-/
namespace Go.Proofs.YtlgjllmecjkbjacGreat
open Go.RowKit
abbrev Tc := Int × Int × Int × Bool × Int
def tth (l : List Tc) (i : Nat) : Tc := l.getD i (0, 0, 0, false, 0)
def needA (wr : Bool) (n : Int) : Int := if wr = true then n else 0
def hasW (a n : Int) : Bool := decide (0 ≤ a ∧ a ≤ 512 - n)
def ckA (d a n : Int) (wr : Bool) (ds : List Int) : Int :=
  if 1 ≤ n ∧ n ≤ 20 then (if (0 ≤ d ∧ d ≤ 7) ∧ hasW a n = true then (if (ds.length : Int) = needA wr n then (if ds.all wordB = true then 0 else 2) else 3) else 4) else 1
def doE (zs : List Int) (b : Br) (d a n : Int) (wr : Bool) (ds : List Int) : Int := if bothB zs b = 0 then ckA d a n wr ds else bothB zs b
theorem ckA_ok {d a n : Int} {wr : Bool} {ds : List Int} (h : ckA d a n wr ds = 0) : (1 ≤ n ∧ n ≤ 20) ∧ (0 ≤ d ∧ d ≤ 7) ∧ (0 ≤ a ∧ a ≤ 512 - n) ∧ (ds.length : Int) = needA wr n ∧ ds.all wordB = true := by
  unfold ckA at h
  by_cases h1 : 1 ≤ n ∧ n ≤ 20
  · rw [if_pos h1] at h
    by_cases h2 : (0 ≤ d ∧ d ≤ 7) ∧ hasW a n = true
    · rw [if_pos h2] at h
      by_cases h3 : (ds.length : Int) = needA wr n
      · rw [if_pos h3] at h
        by_cases h4 : ds.all wordB = true
        · exact ⟨h1, h2.1, by simpa [hasW] using h2.2, h3, h4⟩
        · rw [if_neg h4] at h; exact absurd h (by decide)
      · rw [if_neg h3] at h; exact absurd h (by decide)
    · rw [if_neg h2] at h; exact absurd h (by decide)
  · rw [if_neg h1] at h; exact absurd h (by decide)
theorem doE_ok {zs : List Int} {b : Br} {d a n : Int} {wr : Bool} {ds : List Int} (h : doE zs b d a n wr ds = 0) : chk zs = 0 ∧ chkB b = 0 ∧ ckA d a n wr ds = 0 := by
  unfold doE at h
  by_cases hb : bothB zs b = 0
  · rw [if_pos hb] at h; exact ⟨(bothB_ok hb).1, (bothB_ok hb).2, h⟩
  · rw [if_neg hb] at h; exact absurd h hb
theorem doE_mk {zs : List Int} {b : Br} {d a n : Int} {wr : Bool} {ds : List Int} (h1 : chk zs = 0) (h2 : chkB b = 0) (h3 : ckA d a n wr ds = 0) : doE zs b d a n wr ds = 0 := by
  rw [doE, if_pos (bothB_mk h1 h2), h3]
structure St where
  zs : List Int
  b : Br
  dat : List Int
  tch : List Tc
def plc (k : Int) (x : Nat) : Int := k * 8 + ((x % 8 : Nat) : Int)
theorem plc_in {k : Int} (x : Nat) (h : 0 ≤ k ∧ k ≤ 63) : 0 ≤ plc k x ∧ plc k x < 512 := by unfold plc; omega
def wdM (wr : Bool) (ds : List Int) (o : Nat) (k : Int) (x : Nat) (zs : List Int) : List Int := if wr = true then zs.set (plc k x).toNat (nth ds (x - o)) else zs
def wd (d : Int) (wr : Bool) (ds : List Int) (o : Nat) (k : Int) (x : Nat) (s : St) : St :=
  ⟨wdM wr ds o k x s.zs, s.b, if wr = true then s.dat else s.dat ++ [nth s.zs (plc k x).toNat], s.tch ++ [(d, (x : Int), plc k x, wr, nth (wdM wr ds o k x s.zs) (plc k x).toNat)]⟩
def wds (d : Int) (wr : Bool) (ds : List Int) (o : Nat) (k : Int) : Nat → Nat → St → St
  | 0, _, s => s
  | m + 1, x, s => wds d wr ds o k m (x + 1) (wd d wr ds o k x s)
def runW (d : Int) (wr : Bool) (ds : List Int) (o : Nat) : Nat → Nat → Int → St → St × Int
  | 0, _, _, s => (s, 0)
  | m + 1, x, k, s =>
    if x = o ∨ x % 8 = 0 then
      (if (goT s.zs s.b d ((x / 8 : Nat) : Int) wr).2.2 = 0 then runW d wr ds o m (x + 1) (goT s.zs s.b d ((x / 8 : Nat) : Int) wr).2.1 (wd d wr ds o (goT s.zs s.b d ((x / 8 : Nat) : Int) wr).2.1 x ⟨s.zs, (goT s.zs s.b d ((x / 8 : Nat) : Int) wr).1, s.dat, s.tch⟩)
      else (⟨tlM s.zs (goT s.zs s.b d ((x / 8 : Nat) : Int) wr).1 (goT s.zs s.b d ((x / 8 : Nat) : Int) wr).2.2 d ((x / 8 : Nat) : Int) wr, tlB s.zs (goT s.zs s.b d ((x / 8 : Nat) : Int) wr).1 (goT s.zs s.b d ((x / 8 : Nat) : Int) wr).2.2 d ((x / 8 : Nat) : Int), s.dat, s.tch⟩, (goT s.zs s.b d ((x / 8 : Nat) : Int) wr).2.2))
    else runW d wr ds o m (x + 1) k (wd d wr ds o k x s)
def doR (zs : List Int) (b : Br) (d a n : Int) (wr : Bool) (ds : List Int) : St × Int :=
  if doE zs b d a n wr ds = 0 then runW d wr ds a.toNat n.toNat a.toNat 0 ⟨zs, b, [], []⟩ else (⟨[], B0, [], []⟩, 0)
theorem runW_zero (d : Int) (wr : Bool) (ds : List Int) (o x : Nat) (k : Int) (s : St) : runW d wr ds o 0 x k s = (s, 0) := rfl
theorem runW_page {d : Int} {wr : Bool} {ds : List Int} {o m x : Nat} {k k' : Int} {s : St} {c : Br} (hx : x = o ∨ x % 8 = 0) (hg : goT s.zs s.b d ((x / 8 : Nat) : Int) wr = (c, k', 0)) :
    runW d wr ds o (m + 1) x k s = runW d wr ds o m (x + 1) k' (wd d wr ds o k' x ⟨s.zs, c, s.dat, s.tch⟩) := by
  rw [runW, if_pos hx, hg, if_pos rfl]
theorem runW_fault {d : Int} {wr : Bool} {ds : List Int} {o m x : Nat} {k k' f : Int} {s : St} {c : Br} (hx : x = o ∨ x % 8 = 0) (hg : goT s.zs s.b d ((x / 8 : Nat) : Int) wr = (c, k', f)) (hf : ¬ f = 0) :
    runW d wr ds o (m + 1) x k s = (⟨tlM s.zs c f d ((x / 8 : Nat) : Int) wr, tlB s.zs c f d ((x / 8 : Nat) : Int), s.dat, s.tch⟩, f) := by
  rw [runW, if_pos hx, hg, if_neg hf]
theorem runW_word {d : Int} {wr : Bool} {ds : List Int} {o m x : Nat} {k : Int} {s : St} (hx : ¬ (x = o ∨ x % 8 = 0)) :
    runW d wr ds o (m + 1) x k s = runW d wr ds o m (x + 1) k (wd d wr ds o k x s) := by
  rw [runW, if_neg hx]
theorem runW_words {d : Int} {wr : Bool} {ds : List Int} {o : Nat} {k : Int} : ∀ (j m x : Nat) (s : St), (∀ i, i < j → ¬ (x + i = o ∨ (x + i) % 8 = 0)) →
    runW d wr ds o (j + m) x k s = runW d wr ds o m (x + j) k (wds d wr ds o k j x s)
  | 0, m, x, s, _ => by rw [Nat.zero_add, Nat.add_zero]; rfl
  | j + 1, m, x, s, h => by
    rw [show j + 1 + m = (j + m) + 1 by omega, runW_word (by simpa using h 0 (by omega)), runW_words j m (x + 1) _ (fun i hi => by have := h (i + 1) (by omega); rw [show x + 1 + i = x + (i + 1) by omega]; exact this), show x + 1 + j = x + (j + 1) by omega]
    rfl
theorem page_run {d : Int} {wr : Bool} {ds : List Int} {o m x : Nat} {k k' : Int} {s : St} {c : Br} (hm : 0 < m) (ho : o ≤ x) (hx : x = o ∨ x % 8 = 0) (hg : goT s.zs s.b d ((x / 8 : Nat) : Int) wr = (c, k', 0)) :
    runW d wr ds o m x k s = runW d wr ds o (m - min m (8 - x % 8)) (x + min m (8 - x % 8)) k' (wds d wr ds o k' (min m (8 - x % 8)) x ⟨s.zs, c, s.dat, s.tch⟩) := by
  obtain ⟨j, hj⟩ : ∃ j, min m (8 - x % 8) = j + 1 := ⟨min m (8 - x % 8) - 1, by omega⟩
  obtain ⟨r, hr⟩ : ∃ r, m = j + r + 1 := ⟨m - (j + 1), by omega⟩
  rw [hj]
  subst hr
  rw [runW_page hx hg, runW_words j r (x + 1) _ (fun i hi => by omega), show j + r + 1 - (j + 1) = r by omega, show x + 1 + j = x + (j + 1) by omega]
  rfl
theorem runW_at {d : Int} {wr : Bool} {ds : List Int} {o m x : Nat} {s : St} (h : m = 0 ∨ x = o ∨ x % 8 = 0) (k k2 : Int) : runW d wr ds o m x k s = runW d wr ds o m x k2 s := by
  cases m with
  | zero => rfl
  | succ m =>
    have hx : x = o ∨ x % 8 = 0 := by rcases h with h | h; omega; exact h
    rw [runW, runW, if_pos hx, if_pos hx]
def GoodS (s : St) : Prop := chk s.zs = 0 ∧ chkB s.b = 0
theorem wdM_good {zs ds : List Int} {wr : Bool} {o x : Nat} {k : Int} (h : chk zs = 0) (hw : wr = true → wordB (nth ds (x - o)) = true) : chk (wdM wr ds o k x zs) = 0 := by
  unfold wdM
  cases wr
  · exact h
  · rw [if_pos rfl]; exact chk_set h (hw rfl)
theorem wd_good {d : Int} {wr : Bool} {ds : List Int} {o x : Nat} {k : Int} {s : St} (h : GoodS s) (hw : wr = true → wordB (nth ds (x - o)) = true) : GoodS (wd d wr ds o k x s) := ⟨wdM_good h.1 hw, h.2⟩
theorem all_nth {ds : List Int} (h : ds.all wordB = true) {i : Nat} (hi : i < ds.length) : wordB (nth ds i) = true := by
  rw [List.all_eq_true] at h
  rw [nth, List.getD_eq_getElem?_getD, List.getElem?_eq_getElem hi]
  exact h _ (List.getElem_mem hi)
theorem wds_good {d : Int} {wr : Bool} {ds : List Int} {o : Nat} {k : Int} : ∀ (j x : Nat) (s : St), GoodS s → (∀ i, i < j → wr = true → wordB (nth ds (x + i - o)) = true) → GoodS (wds d wr ds o k j x s)
  | 0, _, _, h, _ => h
  | j + 1, x, s, h, hw => wds_good j (x + 1) _ (wd_good h (hw 0 (by omega))) (fun i hi => by have := hw (i + 1) (by omega); rw [show x + 1 + i - o = x + (i + 1) - o by omega]; exact this)
theorem wds_snoc {d : Int} {wr : Bool} {ds : List Int} {o : Nat} {k : Int} : ∀ (j x : Nat) (s : St), wds d wr ds o k (j + 1) x s = wd d wr ds o k (x + j) (wds d wr ds o k j x s)
  | 0, _, _ => rfl
  | j + 1, x, s => by
    rw [wds, wds_snoc j (x + 1), show x + 1 + j = x + (j + 1) by omega]
    rfl
theorem wds_len {d : Int} {wr : Bool} {ds : List Int} {o : Nat} {k : Int} : ∀ (j x : Nat) (s : St), (wds d wr ds o k j x s).tch.length = s.tch.length + j
  | 0, _, _ => rfl
  | j + 1, x, s => by rw [wds, wds_len j]; simp [wd]; omega
theorem wds_dlen {d : Int} {wr : Bool} {ds : List Int} {o : Nat} {k : Int} : ∀ (j x : Nat) (s : St), (wds d wr ds o k j x s).dat.length = s.dat.length + (if wr = true then 0 else j)
  | 0, _, _ => by simp [wds]
  | j + 1, x, s => by rw [wds, wds_dlen j]; cases wr <;> simp [wd]; omega
end Go.Proofs.YtlgjllmecjkbjacGreat
/-
  A burst, as data alone: what is touched, and that nothing else turns (what DmaHeld asks); a burst in its pages (DmaParts).
-/
namespace Go.Proofs.YtlgjllmecjkbjacGreat
open Go.RowKit
def rep (zs ds : List Int) (T : List Tc) : Nat → List Int
  | 0 => zs
  | j + 1 => if (tth T j).2.2.2.1 = true then (rep zs ds T j).set (tth T j).2.2.1.toNat (nth ds j) else rep zs ds T j
theorem tth_left {T : List Tc} {t : Tc} {j : Nat} (h : j < T.length) : tth (T ++ [t]) j = tth T j := by simp [tth, List.getElem?_append_left h]
theorem tth_last (T : List Tc) (t : Tc) : tth (T ++ [t]) T.length = t := by simp [tth]
theorem rep_snoc {zs ds : List Int} {T : List Tc} {t : Tc} : ∀ j, j ≤ T.length → rep zs ds (T ++ [t]) j = rep zs ds T j
  | 0, _ => rfl
  | j + 1, h => by rw [rep, rep, tth_left (by omega), rep_snoc j (by omega)]
theorem rep_last (zs ds : List Int) (T : List Tc) (t : Tc) : rep zs ds (T ++ [t]) (T.length + 1) = if t.2.2.2.1 = true then (rep zs ds T T.length).set t.2.2.1.toNat (nth ds T.length) else rep zs ds T T.length := by
  simp only [rep, tth_last, rep_snoc T.length (Nat.le_refl _)]
structure HeldI (d : Int) (wr : Bool) (ds : List Int) (o : Nat) (zs : List Int) (s : St) : Prop where
  mem : s.zs = rep zs ds s.tch s.tch.length
  each : ∀ j, j < s.tch.length → ∃ p : Int, (0 ≤ p ∧ p < 512) ∧ tth s.tch j = (d, ((o + j : Nat) : Int), p, wr, nth (rep zs ds s.tch (j + 1)) p.toNat)
  read : wr = false → s.dat.length = s.tch.length ∧ ∀ j, j < s.tch.length → nth s.dat j = (tth s.tch j).2.2.2.2
  writ : wr = true → s.dat = []
theorem HeldI.start (d : Int) (wr : Bool) (ds : List Int) (o : Nat) (zs : List Int) (b : Br) : HeldI d wr ds o zs ⟨zs, b, [], []⟩ :=
  ⟨rfl, fun _ hj => absurd hj (Nat.not_lt_zero _), fun _ => ⟨rfl, fun _ hj => absurd hj (Nat.not_lt_zero _)⟩, fun _ => rfl⟩
theorem HeldI.bridge {d : Int} {wr : Bool} {ds : List Int} {o : Nat} {zs : List Int} {s : St} (h : HeldI d wr ds o zs s) (c : Br) : HeldI d wr ds o zs ⟨s.zs, c, s.dat, s.tch⟩ := ⟨h.mem, h.each, h.read, h.writ⟩
theorem HeldI.word {d : Int} {wr : Bool} {ds : List Int} {o : Nat} {zs : List Int} {s : St} (h : HeldI d wr ds o zs s) {k : Int} (hk : 0 ≤ k ∧ k ≤ 63) {x : Nat} (hx : x = o + s.tch.length) : HeldI d wr ds o zs (wd d wr ds o k x s) := by
  subst hx
  obtain ⟨h1, h2, h3, h4⟩ := h
  have hlen : (wd d wr ds o k (o + s.tch.length) s).tch.length = s.tch.length + 1 := by simp [wd]
  have hz : (wd d wr ds o k (o + s.tch.length) s).zs = rep zs ds (wd d wr ds o k (o + s.tch.length) s).tch (s.tch.length + 1) := by
    show wdM wr ds o k (o + s.tch.length) s.zs = _
    simp only [wd]
    rw [rep_last, ← h1, wdM, show o + s.tch.length - o = s.tch.length by omega]
  refine ⟨by rw [hlen]; exact hz, fun j hj => ?_, fun e => ?_, fun e => ?_⟩
  · rw [hlen] at hj
    by_cases hjj : j < s.tch.length
    · obtain ⟨p, hp, e⟩ := h2 j hjj
      refine ⟨p, hp, ?_⟩
      simp only [wd]
      rw [tth_left hjj, rep_snoc _ (by omega), e]
    · obtain rfl : j = s.tch.length := by omega
      refine ⟨plc k (o + s.tch.length), plc_in _ hk, ?_⟩
      rw [← hz]
      simp only [wd]
      rw [tth_last]
  · subst e
    obtain ⟨g1, g2⟩ := h3 rfl
    refine ⟨by rw [hlen]; simp [wd, g1], fun j hj => ?_⟩
    rw [hlen] at hj
    simp only [wd, Bool.false_eq_true, if_false]
    by_cases hjj : j < s.tch.length
    · rw [tth_left hjj, ← g2 j hjj]
      simp [nth, List.getElem?_append_left (show j < s.dat.length by omega)]
    · obtain rfl : j = s.tch.length := by omega
      rw [tth_last]
      simp [nth, ← g1, wdM]
  · subst e
    simp only [wd, if_true]
    exact h4 rfl
theorem page_in {x : Nat} (h : x < 512) : 0 ≤ ((x / 8 : Nat) : Int) ∧ ((x / 8 : Nat) : Int) ≤ 63 := by omega
theorem runW_held {d : Int} {wr : Bool} {ds : List Int} {o : Nat} {zs : List Int} {b0 : Br} (hd : 0 ≤ d ∧ d ≤ 7) : ∀ (m x : Nat) (k : Int) (s s' : St) (f : Int),
    HeldI d wr ds o zs s → GoodS s → x = o + s.tch.length → (0 ≤ k ∧ k ≤ 63) → x + m ≤ 512 → (wr = true → ∀ i, i < s.tch.length + m → wordB (nth ds i) = true) → (∃ l, s.b = b0.with l) → runW d wr ds o m x k s = (s', f) →
    (f = 0 ∧ HeldI d wr ds o zs s' ∧ GoodS s' ∧ s'.tch.length = s.tch.length + m ∧ ∃ l, s'.b = b0.with l) ∨
    (∃ s1 p, (1 ≤ f ∧ f ≤ 5) ∧ (0 ≤ p ∧ p ≤ 63) ∧ HeldI d wr ds o zs s1 ∧ GoodS s1 ∧ s1.tch.length < s.tch.length + m ∧ (∃ l, s1.b = b0.with l) ∧ tlE s1.zs s1.b f d p = 0 ∧ s' = ⟨tlM s1.zs s1.b f d p wr, tlB s1.zs s1.b f d p, s1.dat, s1.tch⟩)
  | 0, x, k, s, s', f, hH, hG, hx, hk, hm, hw, hl, e => by
    rw [runW_zero, Prod.mk.injEq] at e
    obtain ⟨rfl, rfl⟩ := e
    exact .inl ⟨rfl, hH, hG, rfl, hl⟩
  | m + 1, x, k, s, s', f, hH, hG, hx, hk, hm, hw, hl, e => by
    have hwx : wr = true → wordB (nth ds (x - o)) = true := fun h => hw h (x - o) (by omega)
    have hlen : ∀ k c, (wd d wr ds o k x ⟨s.zs, c, s.dat, s.tch⟩).tch.length = s.tch.length + 1 := fun k c => by simp [wd]
    by_cases hp : x = o ∨ x % 8 = 0
    · obtain ⟨⟨c, k', f'⟩, hg⟩ : ∃ R, goT s.zs s.b d ((x / 8 : Nat) : Int) wr = R := ⟨_, rfl⟩
      have hth : thE s.zs s.b d ((x / 8 : Nat) : Int) = 0 := thE_mk hG.1 hG.2 hd (page_in (by omega))
      obtain ⟨g1, g2, g3, g4, l', g5⟩ := goT_good hth hg
      by_cases hf : f' = 0
      · subst hf
        rw [runW_page hp hg] at e
        have hl2 : ∃ l, c = b0.with l := by
          obtain ⟨l, hl⟩ := hl
          exact ⟨l', by rw [g5, hl]; rfl⟩
        have := runW_held (b0 := b0) hd m (x + 1) k' _ s' f ((hH.bridge c).word g3 hx) (wd_good ⟨hG.1, g1⟩ hwx) (by rw [hlen]; omega) g3 (by omega) (fun h i hi => hw h i (by rw [hlen] at hi; omega)) hl2 e
        rw [hlen, show s.tch.length + 1 + m = s.tch.length + (m + 1) by omega] at this
        exact this
      · have hc : c = s.b := g2 hf
        subst hc
        rw [runW_fault hp hg hf, Prod.mk.injEq] at e
        obtain ⟨rfl, rfl⟩ := e
        refine .inr ⟨s, _, by omega, page_in (x := x) (by omega), hH, hG, by omega, hl, ?_, rfl⟩
        rw [tlE, if_pos (bothB_mk hG.1 hG.2), fE, if_pos ⟨by omega, hd, page_in (by omega)⟩]
    · rw [runW_word hp] at e
      have := runW_held (b0 := b0) hd m (x + 1) k _ s' f (hH.word hk hx) (wd_good hG hwx) (by rw [show (wd d wr ds o k x s) = wd d wr ds o k x ⟨s.zs, s.b, s.dat, s.tch⟩ from rfl, hlen]; omega) hk (by omega) (fun h i hi => hw h i (by rw [show (wd d wr ds o k x s) = wd d wr ds o k x ⟨s.zs, s.b, s.dat, s.tch⟩ from rfl, hlen] at hi; omega)) hl e
      rw [show (wd d wr ds o k x s) = wd d wr ds o k x ⟨s.zs, s.b, s.dat, s.tch⟩ from rfl, hlen, show s.tch.length + 1 + m = s.tch.length + (m + 1) by omega] at this
      exact this
end Go.Proofs.YtlgjllmecjkbjacGreat
/-
  What Do answers, as data: what is touched, and what of memory and bridge has turned.
-/
namespace Go.Proofs.YtlgjllmecjkbjacGreat
open Go.RowKit
theorem do_held {zs : List Int} {b c : Br} {d a n f : Int} {fw : Bool} {ds ms dat : List Int} {tch : List Tc} (hE : doE zs b d a n fw ds = 0) (hR : doR zs b d a n fw ds = (⟨ms, c, dat, tch⟩, f)) :
    chk ms = 0 ∧ chkB c = 0 ∧ tch.length ≤ 20 ∧ (0 ≤ f ∧ f ≤ 5) ∧ (decide (f = 0) = decide ((tch.length : Int) = n)) ∧ c.fp = b.fp ∧ c.fh = b.fh ∧
    (∀ j, j < tch.length → ∃ p : Int, (0 ≤ p ∧ p < 512) ∧ tth tch j = (d, a + (j : Int), p, fw, nth (rep zs ds tch (j + 1)) p.toNat)) ∧
    (fw = true → tch.length ≤ ds.length) ∧ (fw = false → dat.length = tch.length ∧ ∀ j, j < tch.length → nth dat j = (tth tch j).2.2.2.2) ∧
    ((f = 0 ∧ ms = rep zs ds tch tch.length ∧ c.ft = b.ft) ∨ (¬ f = 0 ∧ ms = rep zs ds tch tch.length ∧ c.ft = b.ft) ∨
     (¬ f = 0 ∧ ¬ c.ft = b.ft ∧ (0 ≤ b.fp * 8 + b.ft ∧ b.fp * 8 + b.ft < 512) ∧ ∃ z, ms = (rep zs ds tch tch.length).set (b.fp * 8 + b.ft).toNat z)) := by
  obtain ⟨hz, hb, hc⟩ := doE_ok hE
  obtain ⟨hn, hd, ha, hln, hal⟩ := ckA_ok hc
  rw [doR, if_pos hE] at hR
  have hdl : fw = true → ds.length = n.toNat := fun e => by rw [e, needA, if_pos rfl] at hln; omega
  have hw : fw = true → ∀ i, i < 0 + n.toNat → wordB (nth ds i) = true := fun e i hi => all_nth hal (by have := hdl e; omega)
  have hs := runW_held (d := d) (wr := fw) (ds := ds) (o := a.toNat) (zs := zs) (b0 := b) hd n.toNat a.toNat 0 ⟨zs, b, [], []⟩ _ _ (HeldI.start _ _ _ _ _ _) ⟨hz, hb⟩ rfl (by omega) (by omega) hw ⟨_, (with_self b).symm⟩ hR
  have hE2 : ∀ s : St, HeldI d fw ds a.toNat zs s → ∀ j, j < s.tch.length → ∃ p : Int, (0 ≤ p ∧ p < 512) ∧ tth s.tch j = (d, a + (j : Int), p, fw, nth (rep zs ds s.tch (j + 1)) p.toNat) := fun s h j hj => by
    obtain ⟨p, hp, e⟩ := h.each j hj
    refine ⟨p, hp, ?_⟩
    rw [e, show ((a.toNat + j : Nat) : Int) = a + (j : Int) by omega]
  rcases hs with ⟨rfl, hH, hG, hl, l', hl'⟩ | ⟨s1, p, hf, hp, hH, hG, hl, ⟨l', hl'⟩, htE, hs'⟩
  · have hl : tch.length = n.toNat := by simpa using hl
    have hl' : c = b.with l' := hl'
    subst hl'
    refine ⟨hG.1, hG.2, by omega, by omega, ?_, rfl, rfl, hE2 _ hH, fun e => by rw [hdl e]; omega, hH.read, .inl ⟨rfl, hH.mem, rfl⟩⟩
    rw [decide_eq_true rfl, decide_eq_true (by omega)]
  · simp only [St.mk.injEq] at hs'
    obtain ⟨rfl, rfl, rfl, rfl⟩ := hs'
    have hl : s1.tch.length < n.toNat := by simpa using hl
    have hg := tl_good fw htE
    have hms : s1.zs = rep zs ds s1.tch s1.tch.length := hH.mem
    obtain ⟨_, _, _, _, _, g6⟩ := chkB_ok hG.2
    obtain ⟨r1, r2, r3⟩ := chkR_ok g6
    have r1 := pageR_in r1
    have r3 := stepR_in r3
    have e1 : s1.b.fp = b.fp := by rw [hl']; rfl
    have e2 : s1.b.fh = b.fh := by rw [hl']; rfl
    have e3 : s1.b.ft = b.ft := by rw [hl']; rfl
    have hf0 : ¬ f = 0 := by omega
    rw [e1] at r1
    rw [e3] at r3
    by_cases hfu : fullB s1.b = true
    · have t1 : tlB s1.zs s1.b f d p = { s1.b with lost := true } := by rw [tlB, if_pos htE, if_pos hfu]
      have t2 : tlM s1.zs s1.b f d p fw = s1.zs := by rw [tlM, if_pos htE, if_pos hfu]
      refine ⟨hg.1, hg.2.1, by omega, by omega, ?_, by rw [t1]; exact e1, by rw [t1]; exact e2, hE2 _ hH, fun e => by rw [hdl e]; omega, hH.read, .inr (.inl ⟨hf0, by rw [t2]; exact hms, by rw [t1]; exact e3⟩)⟩
      rw [decide_eq_false hf0, decide_eq_false (by omega)]
    · have t1 : tlB s1.zs s1.b f d p = { s1.b with ft := (s1.b.ft + 1) % 8 } := by rw [tlB, if_pos htE, if_neg hfu]
      have t2 : tlM s1.zs s1.b f d p fw = s1.zs.set (b.fp * 8 + b.ft).toNat (fW f d p fw) := by rw [tlM, if_pos htE, if_neg hfu, e1, e3]
      refine ⟨hg.1, hg.2.1, by omega, by omega, ?_, by rw [t1]; exact e1, by rw [t1]; exact e2, hE2 _ hH, fun e => by rw [hdl e]; omega, hH.read, .inr (.inr ⟨hf0, ?_, by omega, fW f d p fw, by rw [t2, hms]⟩)⟩
      · rw [decide_eq_false hf0, decide_eq_false (by omega)]
      · rw [t1]
        show ¬ (s1.b.ft + 1) % 8 = b.ft
        rw [e3]; omega
end Go.Proofs.YtlgjllmecjkbjacGreat
