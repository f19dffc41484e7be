/-
  Laid together: BridgeMath, CodeMath, HartMath, HartR, Box12, MapB, Quest, DropC, Kept, Bridge1, HCheck.
-/
import Derived.Test.YtfbmmiikhkmpfacT2
import Derived.Maps.OwnOps
import Derived.Maps.OwnSet
/-
  The bridge, as data alone: what Check, Through, Plain, Tell, Obey answer, and what holds of it.
-/
namespace Go.Proofs.Ytfbmmiikhkmpfac
open Go.RowKit

/-- A bridge. -/
structure Br where
  mode : Int
  base : Int
  cache : List Ln
  op : Int
  oh : Int
  ot : Int
  stop : Bool
  fen : Int
  fp : Int
  fh : Int
  ft : Int
  lost : Bool
def B0 : Br := ⟨0, 0, [], 0, 0, 0, false, 0, 0, 0, 0, false⟩
/-- The same with other lines. -/
def Br.with (b : Br) (l : List Ln) : Br := { b with cache := l }
/-- What Check says. -/
def rngBr (b : Br) : Bool := decide (0 ≤ b.mode ∧ b.mode ≤ 2) && decide (0 ≤ b.base ∧ b.base ≤ 63) && decide (0 ≤ b.fen ∧ b.fen ≤ 999)
def chkB (b : Br) : Int := if rngBr b = true then (if chkC b.cache = 0 then (if chkR b.op b.oh b.ot = 0 then chkR b.fp b.fh b.ft else chkR b.op b.oh b.ot) else chkC b.cache) else 2
/-- What is wrong with a memory, or a bridge beside it. -/
def bothB (zs : List Int) (b : Br) : Int := if chk zs = 0 then chkB b else chk zs
def whoB (d p : Int) : Bool := decide ((0 ≤ d ∧ d ≤ 7) ∧ (0 ≤ p ∧ p ≤ 63))
def thE (zs : List Int) (b : Br) (d p : Int) : Int := if bothB zs b = 0 then (if whoB d p = true then 0 else 4) else bothB zs b

/-- The word of a device's context. -/
def ctxW (zs : List Int) (b : Br) (d : Int) : Int := nth zs (8 * b.base + d).toNat
/-- Through by the tables: the bridge, the page, the fault. -/
def byT (zs : List Int) (b : Br) (d p : Int) (wr : Bool) : Br × Int × Int :=
  if vC (ctxW zs b d) = true then
    (if aC (ctxW zs b d) = true then (b, p, 0)
    else if (wkd zs (pC (ctxW zs b d)) p wr).2.1 = 0 then (b.with (flC b.cache (d, p, (wkd zs (pC (ctxW zs b d)) p wr).1.2.2.2.2, true, (wkd zs (pC (ctxW zs b d)) p wr).1.2.2.1)), (wkd zs (pC (ctxW zs b d)) p wr).1.2.2.2.2, 0)
    else (b, 0, (wkd zs (pC (ctxW zs b d)) p wr).2.1))
  else (b, 0, 2)
/-- The line that is found. -/
def lineC (l : List Ln) (d p : Int) : Ln := lth l (fndC l d p).toNat
/-- Through, of right memory and bridge. -/
def goT (zs : List Int) (b : Br) (d p : Int) (wr : Bool) : Br × Int × Int :=
  if b.mode = 0 then (b, 0, 1)
  else if b.mode = 1 then (b, p, 0)
  else if 0 ≤ fndC b.cache d p then (if (wr && !(lineC b.cache d p).2.2.2.2) = true then (b, 0, 5) else (b, (lineC b.cache d p).2.2.1, 0))
  else byT zs b d p wr
def thR (zs : List Int) (b : Br) (d p : Int) (wr : Bool) : Br × Int × Int := if thE zs b d p = 0 then goT zs b d p wr else (B0, 0, 0)

theorem chkB_ok {b : Br} (h : chkB b = 0) : (0 ≤ b.mode ∧ b.mode ≤ 2) ∧ (0 ≤ b.base ∧ b.base ≤ 63) ∧ (0 ≤ b.fen ∧ b.fen ≤ 999) ∧ chkC b.cache = 0 ∧ chkR b.op b.oh b.ot = 0 ∧ chkR b.fp b.fh b.ft = 0 := by
  unfold chkB at h
  by_cases h1 : rngBr b = true
  · rw [if_pos h1] at h
    by_cases h2 : chkC b.cache = 0
    · rw [if_pos h2] at h
      by_cases h3 : chkR b.op b.oh b.ot = 0
      · rw [if_pos h3] at h
        simp only [rngBr, Bool.and_eq_true, decide_eq_true_eq] at h1
        exact ⟨h1.1.1, h1.1.2, h1.2, h2, h3, h⟩
      · rw [if_neg h3] at h; exact absurd h h3
    · rw [if_neg h2] at h; exact absurd h h2
  · rw [if_neg h1] at h; exact absurd h (by decide)
theorem chkB_mk {b : Br} (h1 : 0 ≤ b.mode ∧ b.mode ≤ 2) (h2 : 0 ≤ b.base ∧ b.base ≤ 63) (h3 : 0 ≤ b.fen ∧ b.fen ≤ 999) (h4 : chkC b.cache = 0) (h5 : chkR b.op b.oh b.ot = 0) (h6 : chkR b.fp b.fh b.ft = 0) : chkB b = 0 := by
  have : rngBr b = true := by simp [rngBr, h1, h2, h3]
  rw [chkB, if_pos this, if_pos h4, if_pos h5, h6]
theorem chkB_with {b : Br} (h : chkB b = 0) {l : List Ln} (hl : chkC l = 0) : chkB (b.with l) = 0 := by
  obtain ⟨h1, h2, h3, _, h5, h6⟩ := chkB_ok h
  exact chkB_mk h1 h2 h3 hl h5 h6
theorem chkC_nil : chkC [] = 0 := by decide
theorem bothB_ok {zs : List Int} {b : Br} (h : bothB zs b = 0) : chk zs = 0 ∧ chkB b = 0 := by
  unfold bothB at h
  by_cases hk : chk zs = 0
  · rw [if_pos hk] at h; exact ⟨hk, h⟩
  · rw [if_neg hk] at h; exact absurd h hk
theorem bothB_mk {zs : List Int} {b : Br} (h : chk zs = 0) (k : chkB b = 0) : bothB zs b = 0 := by rw [bothB, if_pos h, k]
theorem thE_ok {zs : List Int} {b : Br} {d p : Int} (h : thE zs b d p = 0) : chk zs = 0 ∧ chkB b = 0 ∧ (0 ≤ d ∧ d ≤ 7) ∧ (0 ≤ p ∧ p ≤ 63) := by
  unfold thE at h
  by_cases hb : bothB zs b = 0
  · rw [if_pos hb] at h
    by_cases hw : whoB d p = true
    · obtain ⟨a, c⟩ := bothB_ok hb
      simp only [whoB, decide_eq_true_eq] at hw
      exact ⟨a, c, hw.1, hw.2⟩
    · rw [if_neg hw] at h; exact absurd h (by decide)
  · rw [if_neg hb] at h; exact absurd h hb
theorem thE_mk {zs : List Int} {b : Br} {d p : Int} (h : chk zs = 0) (k : chkB b = 0) (hd : 0 ≤ d ∧ d ≤ 7) (hp : 0 ≤ p ∧ p ≤ 63) : thE zs b d p = 0 := by
  rw [thE, if_pos (bothB_mk h k), if_pos (by simp [whoB, hd, hp])]
theorem thE_with {zs : List Int} {b : Br} {d p : Int} (h : thE zs b d p = 0) {l : List Ln} (hl : chkC l = 0) : thE zs (b.with l) d p = 0 := by
  obtain ⟨h1, h2, h3, h4⟩ := thE_ok h
  exact thE_mk h1 (chkB_with h2 hl) h3 h4

/-- The page that find tells is one. -/
theorem fnd_page {zs : List Int} {root page : Int} {b r x l : Bool} {p : Int} (h : fnd zs root page = ((b, r, x, l, p), 0)) : 0 ≤ p ∧ p ≤ 63 := by
  unfold fnd at h
  by_cases h1 : fltR (one zs root page) = 0
  · rw [if_pos h1] at h
    by_cases h2 : lE (one zs root page) = true
    · rw [if_pos h2] at h
      by_cases h3 : pE (one zs root page) % 8 = 0
      · rw [if_pos h3] at h
        simp only [Prod.mk.injEq] at h
        have := pE_in (one zs root page)
        omega
      · rw [if_neg h3] at h
        simp only [Prod.mk.injEq] at h
        omega
    · rw [if_neg h2] at h
      by_cases h3 : fltR (two zs root page) = 0
      · rw [if_pos h3] at h
        by_cases h4 : lE (two zs root page) = true
        · rw [if_pos h4, entE] at h
          simp only [Prod.mk.injEq] at h
          have := pE_in (two zs root page)
          omega
        · rw [if_neg h4] at h
          simp only [Prod.mk.injEq] at h
          omega
      · rw [if_neg h3] at h
        simp only [Prod.mk.injEq] at h
        exact absurd h.2 h3
  · rw [if_neg h1] at h
    simp only [Prod.mk.injEq] at h
    exact absurd h.2 h1
theorem fltR_cases (z : Int) : fltR z = 0 ∨ fltR z = 3 ∨ fltR z = 4 := by
  unfold fltR; split
  · split <;> simp
  · simp
theorem fnd_fault (zs : List Int) (root page : Int) : (fnd zs root page).2 = 0 ∨ (fnd zs root page).2 = 3 ∨ (fnd zs root page).2 = 4 := by
  unfold fnd
  by_cases h1 : fltR (one zs root page) = 0
  · rw [if_pos h1]
    by_cases h2 : lE (one zs root page) = true
    · rw [if_pos h2]
      by_cases h3 : pE (one zs root page) % 8 = 0
      · rw [if_pos h3]; simp
      · rw [if_neg h3]; simp
    · rw [if_neg h2]
      by_cases h3 : fltR (two zs root page) = 0
      · rw [if_pos h3]
        by_cases h4 : lE (two zs root page) = true
        · rw [if_pos h4]; simp
        · rw [if_neg h4]; simp
      · rw [if_neg h3]; exact fltR_cases _
  · rw [if_neg h1]; exact fltR_cases _
/-- Walk of right memory and pages: a fault and nothing else; or a leaf that may be used so. -/
theorem wkd_two {zs : List Int} {root page : Int} {wr : Bool} (hk : chk zs = 0) (hr : pageB root = true) (hp : pageB page = true) :
    (∃ f, (3 ≤ f ∧ f ≤ 5) ∧ wkd zs root page wr = ((false, false, false, false, 0), f, 0)) ∨
    (∃ x p, (0 ≤ p ∧ p ≤ 63) ∧ (wr = true → x = true) ∧ wkd zs root page wr = ((true, true, x, true, p), 0, 0)) := by
  obtain ⟨⟨⟨b, r, x, l, p⟩, f⟩, hF⟩ : ∃ F, fnd zs root page = F := ⟨_, rfl⟩
  have hff := fnd_fault zs root page
  rw [hF] at hff
  rw [wkd, if_pos hk, if_pos ⟨hr, hp⟩, wkF, hF]
  by_cases h : f = 0
  · subst h
    obtain ⟨rfl, rfl⟩ := fnd_good hF
    simp only [if_true]
    by_cases hq : (r && (x || !wr)) = true
    · rw [if_pos hq]
      simp only [Bool.and_eq_true, Bool.or_eq_true, Bool.not_eq_true'] at hq
      obtain ⟨rfl, hx⟩ := hq
      refine .inr ⟨x, p, fnd_page hF, fun e => ?_, rfl⟩
      rcases hx with hx | hx
      · exact hx
      · rw [e] at hx; exact absurd hx (by decide)
    · rw [if_neg hq]
      exact .inl ⟨5, by omega, rfl⟩
  · simp only [h, if_false]
    have hff : f = 0 ∨ f = 3 ∨ f = 4 := hff
    exact .inl ⟨f, by omega, rfl⟩

theorem pC_page (z : Int) : pageB (pC z) = true := by
  unfold pC pageB; split <;> simp <;> omega
theorem page_of {p : Int} (h : 0 ≤ p ∧ p ≤ 63) : pageB p = true := by simp [pageB]; omega

/-- By the tables: no way; memory as it is; a fault of the tables; a page, which is remembered. -/
theorem byT_ways {zs : List Int} {b : Br} {d p : Int} {wr : Bool} (hk : chk zs = 0) (hp : 0 ≤ p ∧ p ≤ 63) :
    (∃ f, (2 ≤ f ∧ f ≤ 5) ∧ ∀ l, byT zs (b.with l) d p wr = (b.with l, 0, f)) ∨
    (∀ l, byT zs (b.with l) d p wr = (b.with l, p, 0)) ∨
    (∃ a x, (0 ≤ a ∧ a ≤ 63) ∧ (wr = true → x = true) ∧ ∀ l, byT zs (b.with l) d p wr = (b.with (flC l (d, p, a, true, x)), a, 0)) := by
  have hc : ∀ l, ctxW zs (b.with l) d = ctxW zs b d := fun l => rfl
  unfold byT
  by_cases h1 : vC (ctxW zs b d) = true
  · by_cases h2 : aC (ctxW zs b d) = true
    · exact .inr (.inl fun l => by rw [hc, if_pos h1, if_pos h2])
    · rcases wkd_two (wr := wr) hk (pC_page (ctxW zs b d)) (page_of hp) with ⟨f, hf, e⟩ | ⟨x, a, ha, hx, e⟩
      · refine .inl ⟨f, by omega, fun l => ?_⟩
        rw [hc, if_pos h1, if_neg h2, e]
        exact if_neg (show ¬ f = 0 by omega)
      · refine .inr (.inr ⟨a, x, ha, hx, fun l => ?_⟩)
        rw [hc, if_pos h1, if_neg h2, e]
        exact if_pos rfl
  · exact .inl ⟨2, by omega, fun l => by rw [hc, if_neg h1]⟩
theorem with_self (b : Br) : b.with b.cache = b := rfl

theorem fnd_line {l : List Ln} {d p : Int} (h : 0 ≤ fndC l d p) : (fndC l d p).toNat < l.length ∧ hasB d p (lineC l d p) = true ∧ lineC l d p ∈ l := by
  unfold lineC
  unfold fndC at h ⊢
  cases e : l.findIdx? (hasB d p) with
  | none => rw [e] at h; exact absurd h (by decide)
  | some i =>
    rw [List.findIdx?_eq_some_iff_getElem] at e
    obtain ⟨hi, h1, _⟩ := e
    have hn : ((i : Int)).toNat = i := by simp
    simp only [hn]
    exact ⟨hi, by rw [lth_get hi]; exact h1, by rw [lth_get hi]; exact List.getElem_mem hi⟩
theorem line_at {l : List Ln} (h : chkC l = 0) {x : Ln} (hx : x ∈ l) : (0 ≤ x.2.2.1 ∧ x.2.2.1 ≤ 63) ∧ x.2.2.2.1 = true := by
  obtain ⟨g1, g2, _⟩ := chkC_zero.1 h
  obtain ⟨a, b⟩ := g2 x hx
  simp only [rngB, Bool.and_eq_true, decide_eq_true_eq] at a
  exact ⟨by omega, b⟩
/-- A line that is filled in: there is none of that key, so it goes well. -/
theorem fl_ok {l : List Ln} {d p a : Int} {x : Bool} (hl : chkC l = 0) (hd : 0 ≤ d ∧ d ≤ 7) (hp : 0 ≤ p ∧ p ≤ 63) (ha : 0 ≤ a ∧ a ≤ 63) (hn : ¬ 0 ≤ fndC l d p) : flE l (d, p, a, true, x) = 0 := by
  have h1 : chkC [((d, p, a, true, x) : Ln)] = 0 := chkC_zero.2 ⟨by simp, fun y hy => by
    obtain rfl := List.mem_singleton.1 hy
    exact ⟨by simp [rngB]; omega, rfl⟩, List.pairwise_singleton _ _⟩
  rw [flE, if_pos hl, if_pos h1, if_neg hn]

/-- Through, of right things: the ways. -/
theorem goT_ways {zs : List Int} {b : Br} {d p : Int} {wr : Bool} (h : thE zs b d p = 0) :
    (∃ f, (1 ≤ f ∧ f ≤ 5) ∧ goT zs b d p wr = (b, 0, f)) ∨
    (∃ k, (0 ≤ k ∧ k ≤ 63) ∧ goT zs b d p wr = (b, k, 0) ∧ (b.mode = 2 → 0 ≤ fndC b.cache d p → (lineC b.cache d p).2.2.1 = k ∧ (wr && !(lineC b.cache d p).2.2.2.2) = false)) ∨
    (∃ a x, b.mode = 2 ∧ ¬ 0 ≤ fndC b.cache d p ∧ (0 ≤ a ∧ a ≤ 63) ∧ (wr = true → x = true) ∧ flE b.cache (d, p, a, true, x) = 0 ∧ goT zs b d p wr = (b.with (flC b.cache (d, p, a, true, x)), a, 0)) := by
  obtain ⟨hk, hb, hd, hp⟩ := thE_ok h
  obtain ⟨m1, _, _, hc, _, _⟩ := chkB_ok hb
  unfold goT
  by_cases h0 : b.mode = 0
  · rw [if_pos h0]; exact .inl ⟨1, by omega, rfl⟩
  rw [if_neg h0]
  by_cases h1 : b.mode = 1
  · rw [if_pos h1]; exact .inr (.inl ⟨p, hp, rfl, fun e => by omega⟩)
  rw [if_neg h1]
  by_cases hf : 0 ≤ fndC b.cache d p
  · rw [if_pos hf]
    by_cases hq : (wr && !(lineC b.cache d p).2.2.2.2) = true
    · rw [if_pos hq]; exact .inl ⟨5, by omega, rfl⟩
    · rw [if_neg hq]
      exact .inr (.inl ⟨_, (line_at hc (fnd_line hf).2.2).1, rfl, fun _ _ => ⟨rfl, by simpa using hq⟩⟩)
  · rw [if_neg hf]
    rcases byT_ways (b := b) (d := d) (wr := wr) hk hp with ⟨f, hff, e⟩ | e | ⟨a, x, ha, hx, e⟩
    · exact .inl ⟨f, by omega, e b.cache⟩
    · exact .inr (.inl ⟨p, hp, e b.cache, fun _ g => absurd g hf⟩)
    · exact .inr (.inr ⟨a, x, by omega, hf, ha, hx, fl_ok hc hd hp ha hf, e b.cache⟩)
theorem goT_good {zs : List Int} {b c : Br} {d p k f : Int} {wr : Bool} (h : thE zs b d p = 0) (hg : goT zs b d p wr = (c, k, f)) :
    chkB c = 0 ∧ (¬ f = 0 → c = b) ∧ (0 ≤ k ∧ k ≤ 63) ∧ (0 ≤ f ∧ f ≤ 5) ∧ ∃ l, c = b.with l := by
  obtain ⟨hk, hb, hd, hp⟩ := thE_ok h
  rcases goT_ways (wr := wr) h with ⟨f', hf, e⟩ | ⟨k', hk', e, _⟩ | ⟨a, x, hm, hn, ha, hx, hl, e⟩
  all_goals
    rw [e] at hg
    simp only [Prod.mk.injEq] at hg
    obtain ⟨rfl, rfl, rfl⟩ := hg
  · exact ⟨hb, fun _ => rfl, by omega, by omega, _, (with_self b).symm⟩
  · exact ⟨hb, fun _ => rfl, hk', by omega, _, (with_self b).symm⟩
  · exact ⟨chkB_with hb (fill_good hl).1, fun g => absurd rfl g, ha, by omega, _, rfl⟩
/-- Who was let through is let through again, to the same page, whatever memory says. -/
theorem goT_again {zs ns : List Int} {b c : Br} {d p k : Int} {wr : Bool} (h : thE zs b d p = 0) (hg : goT zs b d p wr = (c, k, 0)) (hm : b.mode = 2) (hf : 0 ≤ fndC c.cache d p) : goT ns c d p wr = (c, k, 0) := by
  obtain ⟨hk, hb, hd, hp⟩ := thE_ok h
  rcases goT_ways (wr := wr) h with ⟨f', hf', e⟩ | ⟨k', hk', e, hl⟩ | ⟨a, x, _, hn, ha, hx, hl, e⟩
  all_goals
    rw [e] at hg
    simp only [Prod.mk.injEq] at hg
  · omega
  · obtain ⟨rfl, rfl, -⟩ := hg
    obtain ⟨l1, l2⟩ := hl hm hf
    unfold goT
    rw [if_neg (by omega), if_neg (by omega), if_pos hf, l2, l1]
    rfl
  · obtain ⟨rfl, rfl, -⟩ := hg
    have hfi := (fill_good hl).2.1
    have hli : lineC (flC b.cache (d, p, a, true, x)) d p = (d, p, a, true, x) := by
      unfold lineC
      rw [show fndC (flC b.cache (d, p, a, true, x)) d p = ((oldC b.cache).length : Int) from hfi, flC_ok hl]
      rw [Int.toNat_natCast, lth_get (by simp)]
      simp
    have hcache : (b.with (flC b.cache (d, p, a, true, x))).cache = flC b.cache (d, p, a, true, x) := rfl
    have hmode : (b.with (flC b.cache (d, p, a, true, x))).mode = 2 := hm
    unfold goT
    rw [if_neg (by omega), if_neg (by omega), if_pos hf, hcache, hli]
    have hq : (wr && !x) = false := by
      cases wr
      · rfl
      · rw [hx rfl]; rfl
    rw [hq]
    rfl
theorem drop_none {l : List Ln} {d p : Int} (h : chkC l = 0) : ¬ 0 ≤ fndC (drC l 3 d p) d p := by
  have he : drE l 3 = 0 := by rw [drE, if_pos h, if_pos (by omega)]
  have : fndC (drC l 3 d p) d p < 0 := by
    rw [fndC_neg]
    intro x hx
    rw [drC, if_pos he] at hx
    have := (List.mem_filter.1 hx).2
    simp only [goesB] at this
    cases hq : hasB d p x
    · rfl
    · simp only [hasB, Bool.and_eq_true, decide_eq_true_eq] at hq
      simp [hq.1, hq.2] at this
  omega
/-- Once it is dropped all is as memory says. -/
theorem goT_plain {ns : List Int} {b : Br} {l : List Ln} {d p : Int} {wr : Bool} (hk : chk ns = 0) (hp : 0 ≤ p ∧ p ≤ 63) (hn : ¬ 0 ≤ fndC l d p) : (goT ns (b.with l) d p wr).2 = (goT ns (b.with []) d p wr).2 := by
  unfold goT
  have hm : ∀ l, (b.with l).mode = b.mode := fun l => rfl
  have hc : ∀ l, (b.with l).cache = l := fun l => rfl
  rw [hm, hm, hc, hc]
  by_cases h0 : b.mode = 0
  · rw [if_pos h0, if_pos h0]
  rw [if_neg h0, if_neg h0]
  by_cases h1 : b.mode = 1
  · rw [if_pos h1, if_pos h1]
  rw [if_neg h1, if_neg h1, if_neg hn, if_neg (show ¬ 0 ≤ fndC [] d p by simp [fndC])]
  rcases byT_ways (b := b) (d := d) (wr := wr) hk hp with ⟨f, _, e⟩ | e | ⟨a, x, _, _, e⟩
  all_goals rw [e, e]
end Go.Proofs.Ytfbmmiikhkmpfac
/-
  Instructions as words: numbers alone.
-/
namespace Go.Proofs.Ytfbmmiikhkmpfac
open Go.RowKit

/-- What an instruction's kind has use for. -/
def useA (k : Int) : Bool := decide (1 ≤ k)
def useB (k : Int) : Bool := decide (k = 2) || decide (4 ≤ k ∧ k ≤ 6)
def useI (k : Int) : Bool := decide (1 ≤ k) && !decide (k = 2)
/-- What is wrong with an instruction; its word. -/
def rngI (k a b i : Int) : Bool := decide (0 ≤ k ∧ k ≤ 8) && decide (0 ≤ a ∧ a ≤ 7) && decide (0 ≤ b ∧ b ≤ 7) && decide (0 ≤ i ∧ i ≤ 63)
def fitI (k a b i : Int) : Bool := (useA k || decide (a = 0)) && (useB k || decide (b = 0)) && (useI k || decide (i = 0))
def iE (k a b i : Int) : Int := if rngI k a b i = true then (if fitI k a b i = true then 0 else 3) else 2
def iW (k a b i : Int) : Int := if iE k a b i = 0 then 4096 * k + 512 * a + 64 * b + i else 0
/-- A word that is read as an instruction. -/
def riE (w : Int) : Int := if 0 ≤ w ∧ w ≤ 65535 then (if iE (w / 4096) (w / 512 % 8) (w / 64 % 8) (w % 64) = 0 then 0 else 3) else 2
def riX (w : Int) : Int × Int × Int × Int := if riE w = 0 then (w / 4096, w / 512 % 8, w / 64 % 8, w % 64) else (0, 0, 0, 0)

theorem iE_ok {k a b i : Int} (h : iE k a b i = 0) : (0 ≤ k ∧ k ≤ 8) ∧ (0 ≤ a ∧ a ≤ 7) ∧ (0 ≤ b ∧ b ≤ 7) ∧ (0 ≤ i ∧ i ≤ 63) ∧ fitI k a b i = true := by
  unfold iE at h
  by_cases h1 : rngI k a b i = true
  · rw [if_pos h1] at h
    by_cases h2 : fitI k a b i = true
    · simp only [rngI, Bool.and_eq_true, decide_eq_true_eq] at h1
      exact ⟨h1.1.1.1, h1.1.1.2, h1.1.2, h1.2, h2⟩
    · rw [if_neg h2] at h; exact absurd h (by decide)
  · rw [if_neg h1] at h; exact absurd h (by decide)
theorem iE_cases (k a b i : Int) : iE k a b i = 0 ∨ iE k a b i = 2 ∨ iE k a b i = 3 := by
  unfold iE; split
  · split <;> simp
  · simp
theorem iW_ok {k a b i : Int} (h : iE k a b i = 0) : iW k a b i = 4096 * k + 512 * a + 64 * b + i := if_pos h
theorem riE_ok {w : Int} (h : riE w = 0) : (0 ≤ w ∧ w ≤ 65535) ∧ iE (w / 4096) (w / 512 % 8) (w / 64 % 8) (w % 64) = 0 := by
  unfold riE at h
  by_cases h1 : 0 ≤ w ∧ w ≤ 65535
  · rw [if_pos h1] at h
    by_cases h2 : iE (w / 4096) (w / 512 % 8) (w / 64 % 8) (w % 64) = 0
    · exact ⟨h1, h2⟩
    · rw [if_neg h2] at h; exact absurd h (by decide)
  · rw [if_neg h1] at h; exact absurd h (by decide)
theorem riE_mk {w : Int} (h1 : 0 ≤ w ∧ w ≤ 65535) (h2 : iE (w / 4096) (w / 512 % 8) (w / 64 % 8) (w % 64) = 0) : riE w = 0 := by unfold riE; rw [if_pos h1, if_pos h2]
/-- What is put is read; what is read is put as it was. -/
theorem i_back {k a b i : Int} (h : iE k a b i = 0) : riE (iW k a b i) = 0 ∧ riX (iW k a b i) = (k, a, b, i) := by
  obtain ⟨h1, h2, h3, h4, _⟩ := iE_ok h
  have e1 : iW k a b i / 4096 = k := by rw [iW_ok h]; omega
  have e2 : iW k a b i / 512 % 8 = a := by rw [iW_ok h]; omega
  have e3 : iW k a b i / 64 % 8 = b := by rw [iW_ok h]; omega
  have e4 : iW k a b i % 64 = i := by rw [iW_ok h]; omega
  have hr : riE (iW k a b i) = 0 := riE_mk (by rw [iW_ok h]; omega) (by rw [e1, e2, e3, e4]; exact h)
  exact ⟨hr, by rw [riX, if_pos hr, e1, e2, e3, e4]⟩
theorem i_read {w k a b i : Int} (h : riE w = 0) (e : riX w = (k, a, b, i)) : iE k a b i = 0 ∧ iW k a b i = w := by
  obtain ⟨h1, h2⟩ := riE_ok h
  rw [riX, if_pos h] at e
  simp only [Prod.mk.injEq] at e
  obtain ⟨rfl, rfl, rfl, rfl⟩ := e
  exact ⟨h2, by rw [iW_ok h2]; omega⟩
end Go.Proofs.Ytfbmmiikhkmpfac
/-
  The hart, as data alone: what Check, Same, Step answer, and what holds of a step.
-/
namespace Go.Proofs.Ytfbmmiikhkmpfac
open Go.RowKit

/-- A hart. -/
structure Ht where
  pc : Int
  r : List Int
  done : Bool
def H0 : Ht := ⟨0, [], false⟩
/-- What Check says. -/
def chkH (h : Ht) : Int := if h.r.length = 8 then (if placeB h.pc = true then (if h.r.all wordB = true then 0 else 2) else 2) else 3
def sameH (a b : Ht) : Bool := decide (a.pc = b.pc) && decide (a.done = b.done) && decide (a.r = b.r)
/-- What New answers. -/
def newE (k : Int) : Int := if placeB k = true then 0 else 2
def newH (k : Int) : Ht := if placeB k = true then ⟨k, List.replicate 8 0, false⟩ else H0
/-- What is wrong where a step is asked for. -/
def stE (zs : List Int) (h : Ht) (b : Br) : Int := if chk zs = 0 then (if chkH h = 0 then (if chkB b = 0 then (if h.done = true then 6 else 0) else chkB b) else chkH h) else chk zs
/-- The bridge's registers, as the hart sees them. -/
def stB (b : Br) : Int := (if b.stop = true then 1 else 0) + (if b.lost = true then 2 else 0)
def regB (b : Br) (i : Int) : Int :=
  if i = 0 then b.mode else if i = 1 then b.base else if i = 2 then b.op else if i = 3 then b.ot else if i = 4 then b.oh else if i = 5 then b.fp else if i = 6 then b.fh else if i = 7 then b.ft else if i = 8 then b.fen else stB b
/-- The most that a register of the bridge may be set to; -1: it can't be set. -/
def mostB (i : Int) : Int := if i = 0 then 2 else if i = 1 ∨ i = 2 ∨ i = 5 then 63 else if i = 3 ∨ i = 6 then 7 else if i = 9 then 0 else -1
def setB (b : Br) (i v : Int) : Br :=
  if i = 0 then { b with mode := v } else if i = 1 then { b with base := v } else if i = 2 then { b with op := v } else if i = 3 then { b with ot := v } else if i = 5 then { b with fp := v } else if i = 6 then { b with fh := v } else { b with stop := false, lost := false }
/-- It stands. -/
def stand (zs : List Int) (h : Ht) (b : Br) : List Int × Ht × Br := (zs, { h with done := true }, b)
def nextP (p : Int) : Int := (p + 1) % 512
/-- An instruction is done. -/
def exeI (zs : List Int) (h : Ht) (b : Br) (k x y i : Int) : List Int × Ht × Br :=
  if k = 1 then (zs, ⟨nextP h.pc, h.r.set x.toNat i, h.done⟩, b)
  else if k = 2 then (zs, ⟨nextP h.pc, h.r.set x.toNat ((nth h.r x.toNat + nth h.r y.toNat) % 65536), h.done⟩, b)
  else if k = 3 then (zs, ⟨nextP h.pc, h.r.set x.toNat (nth h.r x.toNat * 2 ^ i.toNat % 65536), h.done⟩, b)
  else if k = 4 then (if nth h.r y.toNat + i ≤ 511 then (zs, ⟨nextP h.pc, h.r.set x.toNat (nth zs (nth h.r y.toNat + i).toNat), h.done⟩, b) else stand zs h b)
  else if k = 5 then (if nth h.r y.toNat + i ≤ 511 then (zs.set (nth h.r y.toNat + i).toNat (nth h.r x.toNat), ⟨nextP h.pc, h.r, h.done⟩, b) else stand zs h b)
  else if k = 6 then (zs, ⟨if nth h.r x.toNat = nth h.r y.toNat then i else nextP h.pc, h.r, h.done⟩, b)
  else if k = 7 then (if nth h.r x.toNat ≤ mostB i then (zs, ⟨nextP h.pc, h.r, h.done⟩, setB b i (nth h.r x.toNat)) else stand zs h b)
  else if k = 8 then (if i ≤ 9 then (zs, ⟨nextP h.pc, h.r.set x.toNat (regB b i), h.done⟩, b) else stand zs h b)
  else stand zs h b
def insW (zs : List Int) (h : Ht) : Int := nth zs h.pc.toNat
/-- A step, of right ones. -/
def goS (zs : List Int) (h : Ht) (b : Br) : List Int × Ht × Br :=
  if riE (insW zs h) = 0 then exeI zs h b (riX (insW zs h)).1 (riX (insW zs h)).2.1 (riX (insW zs h)).2.2.1 (riX (insW zs h)).2.2.2 else stand zs h b
def stR (zs : List Int) (h : Ht) (b : Br) : List Int × Ht × Br := if stE zs h b = 0 then goS zs h b else ([], H0, B0)

theorem chkH_ok {h : Ht} (e : chkH h = 0) : h.r.length = 8 ∧ (0 ≤ h.pc ∧ h.pc < 512) ∧ ∀ i, i < 8 → 0 ≤ nth h.r i ∧ nth h.r i ≤ 65535 := by
  unfold chkH at e
  by_cases h1 : h.r.length = 8
  · rw [if_pos h1] at e
    by_cases h2 : placeB h.pc = true
    · rw [if_pos h2] at e
      by_cases h3 : h.r.all wordB = true
      · refine ⟨h1, by simpa [placeB] using h2, fun i hi => ?_⟩
        rw [List.all_eq_true] at h3
        have := h3 (nth h.r i) (by rw [nth, List.getD_eq_getElem?_getD, List.getElem?_eq_getElem (by omega)]; exact List.getElem_mem _)
        simpa [wordB] using this
      · rw [if_neg h3] at e; exact absurd e (by decide)
    · rw [if_neg h2] at e; exact absurd e (by decide)
  · rw [if_neg h1] at e; exact absurd e (by decide)
theorem all_words {zs : List Int} (h : ∀ i, i < zs.length → wordB (nth zs i) = true) : zs.all wordB = true := by
  rw [List.all_eq_true]
  intro x hx
  obtain ⟨i, hi, rfl⟩ := List.mem_iff_getElem.1 hx
  have := h i hi
  rwa [nth, List.getD_eq_getElem?_getD, List.getElem?_eq_getElem hi] at this
theorem chkH_mk {h : Ht} (h1 : h.r.length = 8) (h2 : 0 ≤ h.pc ∧ h.pc < 512) (h3 : ∀ i, i < 8 → 0 ≤ nth h.r i ∧ nth h.r i ≤ 65535) : chkH h = 0 := by
  rw [chkH, if_pos h1, if_pos (by simpa [placeB] using h2), if_pos]
  exact all_words fun i hi => by have := h3 i (by omega); simpa [wordB] using this
theorem chkH_cases (h : Ht) : chkH h = 0 ∨ chkH h = 2 ∨ chkH h = 3 := by
  unfold chkH; split
  · split
    · split <;> simp
    · simp
  · simp
theorem stE_ok {zs : List Int} {h : Ht} {b : Br} (e : stE zs h b = 0) : chk zs = 0 ∧ chkH h = 0 ∧ chkB b = 0 ∧ h.done = false := by
  unfold stE at e
  by_cases h1 : chk zs = 0
  · rw [if_pos h1] at e
    by_cases h2 : chkH h = 0
    · rw [if_pos h2] at e
      by_cases h3 : chkB b = 0
      · rw [if_pos h3] at e
        by_cases h4 : h.done = true
        · rw [if_pos h4] at e; exact absurd e (by decide)
        · exact ⟨h1, h2, h3, by simpa using h4⟩
      · rw [if_neg h3] at e; exact absurd e h3
    · rw [if_neg h2] at e; exact absurd e h2
  · rw [if_neg h1] at e; exact absurd e h1
theorem stE_mk {zs : List Int} {h : Ht} {b : Br} (h1 : chk zs = 0) (h2 : chkH h = 0) (h3 : chkB b = 0) : stE zs h b = if h.done = true then 6 else 0 := by
  rw [stE, if_pos h1, if_pos h2, if_pos h3]

/-- Shifted by one, so many times. -/
def shl (v : Int) : Nat → Int
  | 0 => v
  | n + 1 => shl v n * 2 % 65536
theorem shl_pow {v : Int} (h : 0 ≤ v ∧ v ≤ 65535) : ∀ n, shl v n = v * 2 ^ n % 65536
  | 0 => by simp [shl]; omega
  | n + 1 => by
    rw [shl, shl_pow h n, Int.pow_succ]
    have : v * (2 ^ n * 2) = v * 2 ^ n * 2 := by rw [Int.mul_assoc]
    rw [this]
    omega
theorem shl_in {v : Int} (h : 0 ≤ v ∧ v ≤ 65535) : ∀ n, 0 ≤ shl v n ∧ shl v n ≤ 65535
  | 0 => h
  | n + 1 => by rw [shl]; omega
theorem shl_far {v : Int} {n : Nat} (hn : 16 ≤ n) : v * 2 ^ n % 65536 = 0 := by
  obtain ⟨m, rfl⟩ : ∃ m, n = 16 + m := ⟨n - 16, by omega⟩
  rw [Int.pow_add, show (2 : Int) ^ 16 = 65536 by decide, ← Int.mul_assoc, Int.mul_right_comm]
  exact Int.mul_emod_left _ _

theorem nth_set_eq {l : List Int} {i : Nat} (h : i < l.length) (z : Int) : nth (l.set i z) i = z := by simp [nth, h]
theorem nth_set_ne {l : List Int} {i j : Nat} (h : i ≠ j) (z : Int) : nth (l.set i z) j = nth l j := by
  simp [nth, List.getElem?_set_ne h]
theorem regs_set {h : Ht} (hk : chkH h = 0) {x v : Int} (hv : 0 ≤ v ∧ v ≤ 65535) {p : Int} (hp : 0 ≤ p ∧ p < 512) (d : Bool) : chkH ⟨p, h.r.set x.toNat v, d⟩ = 0 := by
  obtain ⟨h1, h2, h3⟩ := chkH_ok hk
  refine chkH_mk (by simpa using h1) hp fun i hi => ?_
  by_cases e : x.toNat = i
  · subst e
    rw [nth_set_eq (by rw [h1]; omega)]; exact hv
  · rw [nth_set_ne e]; exact h3 i hi
theorem regs_keep {h : Ht} (hk : chkH h = 0) {p : Int} (hp : 0 ≤ p ∧ p < 512) (d : Bool) : chkH ⟨p, h.r, d⟩ = 0 := by
  obtain ⟨h1, _, h3⟩ := chkH_ok hk
  exact chkH_mk h1 hp h3
theorem regB_in {b : Br} (h : chkB b = 0) (i : Int) : 0 ≤ regB b i ∧ regB b i ≤ 65535 := by
  obtain ⟨g1, g2, g3, _, g5, g6⟩ := chkB_ok h
  obtain ⟨r1, r2, r3⟩ := chkR_ok g5
  obtain ⟨s1, s2, s3⟩ := chkR_ok g6
  have r1 := pageR_in r1
  have r2 := stepR_in r2
  have r3 := stepR_in r3
  have s1 := pageR_in s1
  have s2 := stepR_in s2
  have s3 := stepR_in s3
  have hs : 0 ≤ stB b ∧ stB b ≤ 3 := by unfold stB; split <;> split <;> omega
  unfold regB
  obtain ⟨s, hs'⟩ : ∃ s, stB b = s := ⟨_, rfl⟩
  rw [hs'] at hs ⊢
  by_cases c0 : i = 0
  · rw [if_pos c0]; omega
  rw [if_neg c0]
  by_cases c1 : i = 1
  · rw [if_pos c1]; omega
  rw [if_neg c1]
  by_cases c2 : i = 2
  · rw [if_pos c2]; omega
  rw [if_neg c2]
  by_cases c3 : i = 3
  · rw [if_pos c3]; omega
  rw [if_neg c3]
  by_cases c4 : i = 4
  · rw [if_pos c4]; omega
  rw [if_neg c4]
  by_cases c5 : i = 5
  · rw [if_pos c5]; omega
  rw [if_neg c5]
  by_cases c6 : i = 6
  · rw [if_pos c6]; omega
  rw [if_neg c6]
  by_cases c7 : i = 7
  · rw [if_pos c7]; omega
  rw [if_neg c7]
  by_cases c8 : i = 8
  · rw [if_pos c8]; omega
  rw [if_neg c8]
  omega
theorem setB_same (b : Br) (i v : Int) : (setB b i v).cache = b.cache ∧ (setB b i v).fen = b.fen ∧ (setB b i v).oh = b.oh ∧ (setB b i v).ft = b.ft := by
  unfold setB; (repeat' split) <;> exact ⟨rfl, rfl, rfl, rfl⟩
theorem setB_good {b : Br} (h : chkB b = 0) {i v : Int} (hv : 0 ≤ v) (hm : v ≤ mostB i) : chkB (setB b i v) = 0 := by
  obtain ⟨g1, g2, g3, g4, g5, g6⟩ := chkB_ok h
  obtain ⟨r1, r2, r3⟩ := chkR_ok g5
  obtain ⟨s1, s2, s3⟩ := chkR_ok g6
  unfold mostB at hm
  unfold setB
  by_cases c0 : i = 0
  · rw [if_pos c0] at hm ⊢; exact chkB_mk ⟨hv, hm⟩ g2 g3 g4 g5 g6
  rw [if_neg c0] at hm ⊢
  by_cases c1 : i = 1
  · rw [if_pos (.inl c1)] at hm; rw [if_pos c1]; exact chkB_mk g1 ⟨hv, hm⟩ g3 g4 g5 g6
  rw [if_neg c1]
  by_cases c2 : i = 2
  · rw [if_pos (.inr (.inl c2))] at hm; rw [if_pos c2]; exact chkB_mk g1 g2 g3 g4 (chkR_mk (by simp [pageR]; omega) r2 r3) g6
  rw [if_neg c2]
  by_cases c3 : i = 3
  · rw [if_neg (by omega), if_pos (.inl c3)] at hm; rw [if_pos c3]; exact chkB_mk g1 g2 g3 g4 (chkR_mk r1 r2 (by simp [stepR]; omega)) g6
  rw [if_neg c3]
  by_cases c5 : i = 5
  · rw [if_pos (.inr (.inr c5))] at hm; rw [if_pos c5]; exact chkB_mk g1 g2 g3 g4 g5 (chkR_mk (by simp [pageR]; omega) s2 s3)
  rw [if_neg c5]
  by_cases c6 : i = 6
  · rw [if_neg (by omega), if_pos (.inr c6)] at hm; rw [if_pos c6]; exact chkB_mk g1 g2 g3 g4 g5 (chkR_mk s1 (by simp [stepR]; omega) s3)
  rw [if_neg c6]
  exact chkB_mk g1 g2 g3 g4 g5 g6

/-- The ways of a step: it stands, and nothing else changed; a register is set; a word of memory is set; it goes on, or jumps; the bridge is set. -/
theorem goS_ways {zs : List Int} {h : Ht} {b : Br} (e : stE zs h b = 0) :
    (goS zs h b = stand zs h b) ∨
    (∃ x v : Int, (0 ≤ x ∧ x ≤ 7) ∧ (0 ≤ v ∧ v ≤ 65535) ∧ goS zs h b = (zs, ⟨nextP h.pc, h.r.set x.toNat v, false⟩, b)) ∨
    (∃ q v : Int, (0 ≤ q ∧ q < 512) ∧ (0 ≤ v ∧ v ≤ 65535) ∧ goS zs h b = (zs.set q.toNat v, ⟨nextP h.pc, h.r, false⟩, b)) ∨
    (∃ p : Int, (p = nextP h.pc ∨ (0 ≤ p ∧ p ≤ 63)) ∧ goS zs h b = (zs, ⟨p, h.r, false⟩, b)) ∨
    (∃ i v : Int, (0 ≤ v ∧ v ≤ mostB i) ∧ goS zs h b = (zs, ⟨nextP h.pc, h.r, false⟩, setB b i v)) := by
  obtain ⟨hz, hh, hb, hd⟩ := stE_ok e
  obtain ⟨r1, r2, r3⟩ := chkH_ok hh
  obtain ⟨z1, z2⟩ := chk_ok hz
  unfold goS
  by_cases hr : riE (insW zs h) = 0
  · rw [if_pos hr]
    obtain ⟨⟨k, x, y, i⟩, hX⟩ : ∃ X, riX (insW zs h) = X := ⟨_, rfl⟩
    obtain ⟨hi, hw⟩ := i_read hr hX
    obtain ⟨i1, i2, i3, i4, _⟩ := iE_ok hi
    rw [hX]
    simp only
    have rx := r3 x.toNat (by omega)
    have ry := r3 y.toNat (by omega)
    unfold exeI
    rw [hd]
    by_cases c1 : k = 1
    · rw [if_pos c1]; exact .inr (.inl ⟨x, i, i2, by omega, rfl⟩)
    rw [if_neg c1]
    by_cases c2 : k = 2
    · rw [if_pos c2]; exact .inr (.inl ⟨x, _, i2, by omega, rfl⟩)
    rw [if_neg c2]
    by_cases c3 : k = 3
    · rw [if_pos c3]; exact .inr (.inl ⟨x, _, i2, by omega, rfl⟩)
    rw [if_neg c3]
    by_cases c4 : k = 4
    · rw [if_pos c4]
      by_cases q : nth h.r y.toNat + i ≤ 511
      · rw [if_pos q]
        have := z2 (nth h.r y.toNat + i).toNat (by omega)
        exact .inr (.inl ⟨x, _, i2, by simpa [wordB] using this, rfl⟩)
      · rw [if_neg q]; exact .inl rfl
    rw [if_neg c4]
    by_cases c5 : k = 5
    · rw [if_pos c5]
      by_cases q : nth h.r y.toNat + i ≤ 511
      · rw [if_pos q]
        exact .inr (.inr (.inl ⟨nth h.r y.toNat + i, _, by omega, rx, rfl⟩))
      · rw [if_neg q]; exact .inl rfl
    rw [if_neg c5]
    by_cases c6 : k = 6
    · rw [if_pos c6]
      refine .inr (.inr (.inr (.inl ⟨_, ?_, rfl⟩)))
      split
      · exact .inr i4
      · exact .inl rfl
    rw [if_neg c6]
    by_cases c7 : k = 7
    · rw [if_pos c7]
      by_cases q : nth h.r x.toNat ≤ mostB i
      · rw [if_pos q]
        exact .inr (.inr (.inr (.inr ⟨i, _, ⟨rx.1, q⟩, rfl⟩)))
      · rw [if_neg q]; exact .inl rfl
    rw [if_neg c7]
    by_cases c8 : k = 8
    · rw [if_pos c8]
      by_cases q : i ≤ 9
      · rw [if_pos q]
        exact .inr (.inl ⟨x, _, i2, regB_in hb i, rfl⟩)
      · rw [if_neg q]; exact .inl rfl
    rw [if_neg c8]
    exact .inl rfl
  · rw [if_neg hr]; exact .inl rfl
theorem nextP_in {p : Int} (_ : 0 ≤ p ∧ p < 512) : 0 ≤ nextP p ∧ nextP p < 512 := by unfold nextP; omega

/-- How many of the first words are unlike. -/
def difN (xs ys : List Int) : Nat → Nat
  | 0 => 0
  | k + 1 => difN xs ys k + (if nth xs k = nth ys k then 0 else 1)
theorem difN_self (xs : List Int) : ∀ k, difN xs xs k = 0
  | 0 => rfl
  | k + 1 => by rw [difN, difN_self xs k, if_pos rfl]
theorem difN_set (xs : List Int) (i : Nat) (z : Int) : ∀ k, difN (xs.set i z) xs k ≤ (if i < k then 1 else 0)
  | 0 => Nat.le_refl 0
  | k + 1 => by
    have := difN_set xs i z k
    rw [difN]
    by_cases e : i = k
    · subst e
      rw [if_neg (by omega)] at this
      rw [if_pos (show i < i + 1 by omega)]
      split <;> omega
    · rw [if_pos (nth_set_ne e z)]
      split at this <;> split <;> omega
theorem difN_in (xs ys : List Int) : ∀ k, difN xs ys k ≤ k
  | 0 => Nat.le_refl 0
  | k + 1 => by have := difN_in xs ys k; rw [difN]; split <;> omega

/-- What a step leaves is right; what it changes. -/
theorem goS_keeps {zs ns : List Int} {h g : Ht} {b c : Br} (e : stE zs h b = 0) (hg : goS zs h b = (ns, g, c)) :
    chk ns = 0 ∧ chkH g = 0 ∧ chkB c = 0 ∧ difN ns zs 512 + difN g.r h.r 8 ≤ 1 ∧ c.cache = b.cache ∧ c.fen = b.fen ∧ c.oh = b.oh ∧ c.ft = b.ft ∧
    (g.done = true → ns = zs ∧ g.r = h.r ∧ g.pc = h.pc ∧ c = b) ∧ (c = b ∨ (ns = zs ∧ g.r = h.r)) ∧
    (g.pc = nextP h.pc ∨ (g.done = true ∧ g.pc = h.pc) ∨ (g.done = false ∧ g.pc ≤ 63)) := by
  obtain ⟨hz, hh, hb, hd⟩ := stE_ok e
  obtain ⟨r1, r2, r3⟩ := chkH_ok hh
  obtain ⟨z1, z2⟩ := chk_ok hz
  have hn := nextP_in r2
  rcases goS_ways e with w | ⟨x, v, hx, hv, w⟩ | ⟨q, v, hq, hv, w⟩ | ⟨p, hp, w⟩ | ⟨i, v, hv, w⟩
  all_goals
    rw [hg] at w
    simp only [stand, Prod.mk.injEq] at w
    obtain ⟨rfl, rfl, rfl⟩ := w
  · exact ⟨hz, regs_keep hh r2 _, hb, by simp [difN_self], rfl, rfl, rfl, rfl, fun _ => ⟨rfl, rfl, rfl, rfl⟩, .inl rfl, .inr (.inl ⟨rfl, rfl⟩)⟩
  · refine ⟨hz, regs_set hh hv hn _, hb, ?_, rfl, rfl, rfl, rfl, fun q => absurd q (by simp), .inl rfl, .inl rfl⟩
    have := difN_set h.r x.toNat v 8
    simp only [difN_self]
    split at this <;> omega
  · refine ⟨chk_set hz (by simpa [wordB] using hv), regs_keep hh hn _, hb, ?_, rfl, rfl, rfl, rfl, fun q => absurd q (by simp), .inl rfl, .inl rfl⟩
    have := difN_set zs q.toNat v 512
    simp only [difN_self]
    split at this <;> omega
  · refine ⟨hz, regs_keep hh (by omega) _, hb, by simp [difN_self], rfl, rfl, rfl, rfl, fun q => absurd q (by simp), .inl rfl, ?_⟩
    rcases hp with hp | hp
    · exact .inl hp
    · exact .inr (.inr ⟨rfl, hp.2⟩)
  · obtain ⟨s1, s2, s3, s4⟩ := setB_same b i v
    exact ⟨hz, regs_keep hh hn _, setB_good hb hv.1 hv.2, by simp [difN_self], s1, s2, s3, s4, fun q => absurd q (by simp), .inr ⟨rfl, rfl⟩, .inl rfl⟩
end Go.Proofs.Ytfbmmiikhkmpfac
/-
  drawbridgeref's CheckHart, SameHart: what they answer; nothing that was there turns.
-/
namespace Go.Proofs.Ytfbmmiikhkmpfac
open Go.RowKit

theorem chkH_len {p : Int} {r : List Int} {d : Bool} (h : ¬ r.length = 8) : chkH ⟨p, r, d⟩ = 3 := if_neg h
theorem chkH_out {p : Int} {r : List Int} {d : Bool} (h : r.length = 8) (k : placeB p = false) : chkH ⟨p, r, d⟩ = 2 := by
  rw [chkH, if_pos h, if_neg (by rw [k]; decide)]
theorem chkH_bad {p : Int} {r : List Int} {d : Bool} (h : r.length = 8) (k : placeB p = true) {j : Nat} (hj : j < 8) (hw : wordB (nth r j) = false) : chkH ⟨p, r, d⟩ = 2 := by
  rw [chkH, if_pos h, if_pos k, if_neg]
  intro e
  rw [List.all_eq_true] at e
  have := e (nth r j) (by rw [nth, List.getD_eq_getElem?_getD, List.getElem?_eq_getElem (by omega)]; exact List.getElem_mem _)
  rw [hw] at this
  exact absurd this (by decide)
theorem chkH_all {p : Int} {r : List Int} {d : Bool} (h : r.length = 8) (k : placeB p = true) (hw : ∀ j, j < 8 → wordB (nth r j) = true) : chkH ⟨p, r, d⟩ = 0 := by
  rw [chkH, if_pos h, if_pos k, if_pos (all_words fun i hi => hw i (by omega))]
theorem between_place (z : Int) : betweenB 0 511 z = placeB z := by unfold betweenB placeB; congr 1; apply propext; omega

set_option maxHeartbeats 1000000 in
theorem checkHart_any (p : Int) (v : Value) (r : List Int) (d : Bool) (w : World) (h : Sl w v r) :
    Calls Try.prog 16 #[.agg #[.int .i64 p, v, .bool d]] w fun e w' => e = .returned (.int .i64 (chkH ⟨p, r, d⟩)) ∧ Below w.heap.size w w' := by
  obtain ⟨a, cap, rfl, hl, h⟩ := h
  unfold maxLen at hl
  by_cases hn : r.length = 8
  rotate_left
  · have hne : ((r.length : Int) != 8) = true := by simp; omega
    rw [chkH_len hn]
    clear hn h
    go_enter Try.func16, Try.ntmps16
    go_wp2
    go_ret
    exact ⟨rfl, bel_alloc (Below.refl _ _) _⟩
  rcases h with rfl | ⟨b, o, rfl, hb, hc⟩
  · simp at hn
  have HC : Hid (∀ i, i < 8 → w.cell? ⟨b, o + i, none⟩ = some (.int .i64 (nth r i))) := fun i hi => hc i (by omega)
  have HN : Hid (r.length = 8) := hn
  rw [hn]
  clear hc hl hn
  cases hp : placeB p
  · rw [chkH_out HN.out hp]
    rw [← between_place] at hp
    go_enter Try.func16, Try.ntmps16
    go_wp2_with (go_at_call 32; refine (in_any _ _ _ _).mono ?_; rintro e w' ⟨rfl, rfl⟩; rw [hp])
    go_ret
    exact ⟨rfl, bel_alloc (Below.refl _ _) _⟩
  have HP0 : Hid (placeB p = true) := hp
  rw [← between_place] at hp
  go_enter Try.func16, Try.ntmps16
  go_wp2_with (go_at_call 32; refine (in_any _ _ _ _).mono ?_; rintro e w' ⟨rfl, rfl⟩; rw [hp])
  go_loop [16] (fun i => ∃ k : Nat, k ≤ 8 ∧ i = .int .i64 k ∧ ∀ j, j < k → wordB (nth r j) = true) (fun i => 8 - (intOf i).toNat)
  case atStart => exact ⟨0, Nat.zero_le _, rfl, fun j hj => absurd hj (Nat.not_lt_zero _)⟩
  case round =>
    obtain ⟨k, hk, rfl, hpre⟩ := hrel
    have HP : Hid (∀ j, j < k → wordB (nth r j) = true) := hpre
    clear hpre
    by_cases hlt : k < 8
    · have g := HC.out k hlt
      have hlt1 : (k : Int) < 8 := by omega
      by_cases hq : wordB (nth r k) = true
      · go_wp2_with (go_at_call 32; refine (in_any _ _ _ _).mono ?_; rintro e w' ⟨rfl, rfl⟩; rw [between_word])
        refine ⟨⟨k + 1, by omega, by go_num, fun j hj => ?_⟩, by simp [intOf]; omega⟩
        by_cases e : j = k
        · rw [e]; exact hq
        · exact HP.out j (by omega)
      · have hq' : wordB (nth r k) = false := by simpa using hq
        have HD : Hid (chkH ⟨p, r, d⟩ = 2) := chkH_bad HN.out HP0.out hlt hq'
        clear hq
        go_wp2_with (go_at_call 32; refine (in_any _ _ _ _).mono ?_; rintro e w' ⟨rfl, rfl⟩; rw [between_word])
        go_ret
        exact ⟨ret_int HD.out.symm, bel_alloc (Below.refl _ _) _⟩
    · have HD : Hid (chkH ⟨p, r, d⟩ = 0) := chkH_all HN.out HP0.out fun j hj => HP.out j (by omega)
      have hge : ¬ (k : Int) < 8 := by omega
      go_wp2
      go_ret
      exact ⟨ret_int HD.out.symm, bel_alloc (Below.refl _ _) _⟩

set_option maxHeartbeats 1000000 in
theorem sameHart_any (p : Int) (v : Value) (r : List Int) (d : Bool) (p1 : Int) (v1 : Value) (r1 : List Int) (d1 : Bool) (w : World) (h : Sl w v r) (h1 : Sl w v1 r1) :
    Calls Try.prog 21 #[.agg #[.int .i64 p, v, .bool d], .agg #[.int .i64 p1, v1, .bool d1]] w fun e w' => e = .returned (.bool (sameH ⟨p, r, d⟩ ⟨p1, r1, d1⟩)) ∧ Below w.heap.size w w' := by
  have ho : sameH ⟨p, r, d⟩ ⟨p1, r1, d1⟩ = (decide (p = p1) && decide (d = d1) && decide (r = r1)) := rfl
  rw [ho]
  clear ho
  have H1 : Hid (Sl w v r) := h
  have H2 : Hid (Sl w v1 r1) := h1
  obtain ⟨a, c, rfl, -⟩ := h
  obtain ⟨a1, c1, rfl, -⟩ := h1
  by_cases e1 : p = p1
  rotate_left
  · have q1 : (p == p1) = false := by simpa using e1
    have d1 : Hid (decide (p = p1) = false) := decide_eq_false e1
    clear e1
    go_enter Try.func21, Try.ntmps21
    go_wp2
    go_ret
    exact ⟨ret_bool (by rw [d1.out]; rfl), bel_alloc (bel_alloc (Below.refl _ _) _) _⟩
  subst e1
  by_cases e2 : d = d1
  rotate_left
  · have q2 : (d == d1) = false := by simpa using e2
    have d2 : Hid (decide (d = d1) = false) := decide_eq_false e2
    clear e2
    go_enter Try.func21, Try.ntmps21
    go_wp2
    go_ret
    exact ⟨ret_bool (by rw [d2.out]; simp), bel_alloc (bel_alloc (Below.refl _ _) _) _⟩
  subst e2
  have B2 : ∀ A B : Obj, Below w.heap.size w ((w.alloc A).alloc B) := fun A B => bel_alloc (bel_alloc (Below.refl _ _) A) B
  go_enter Try.func21, Try.ntmps21
  go_wp2_with fail
  refine (equal_any _ _ r r1 _ (H1.out.keep (B2 _ _)) (H2.out.keep (B2 _ _))).mono ?_
  rintro e w1 ⟨rfl, n, rfl⟩
  go_wp2
  go_ret
  exact ⟨ret_bool (by simp), bel_drewN (bel_alloc (bel_alloc (Below.refl _ _) _) _) _⟩
end Go.Proofs.Ytfbmmiikhkmpfac
/-
  A variable of twelve cells (a bridge): its cells and marks in one line; stores into it.
-/
namespace Go.Proofs.Ytfbmmiikhkmpfac
open Go.RowKit

theorem Box.twelve {w : World} {n : Nat} {t : TypeId} {a0 a1 a2 a3 a4 a5 a6 a7 a8 a9 a10 a11 : Value} (h : Box w n t #[a0, a1, a2, a3, a4, a5, a6, a7, a8, a9, a10, a11]) :
    (w.cell? ⟨n, 0, none⟩ = some a0 ∧ w.cell? ⟨n, 1, none⟩ = some a1 ∧ w.cell? ⟨n, 2, none⟩ = some a2 ∧ w.cell? ⟨n, 3, none⟩ = some a3 ∧ w.cell? ⟨n, 4, none⟩ = some a4 ∧ w.cell? ⟨n, 5, none⟩ = some a5 ∧ w.cell? ⟨n, 6, none⟩ = some a6 ∧ w.cell? ⟨n, 7, none⟩ = some a7 ∧ w.cell? ⟨n, 8, none⟩ = some a8 ∧ w.cell? ⟨n, 9, none⟩ = some a9 ∧ w.cell? ⟨n, 10, none⟩ = some a10 ∧ w.cell? ⟨n, 11, none⟩ = some a11) ∧ n < w.heap.size :=
  ⟨⟨h.cell 0, h.cell 1, h.cell 2, h.cell 3, h.cell 4, h.cell 5, h.cell 6, h.cell 7, h.cell 8, h.cell 9, h.cell 10, h.cell 11⟩, h.lt⟩
theorem Box.marks {w : World} {n : Nat} {t : TypeId} {a0 a1 a2 a3 a4 a5 a6 a7 a8 a9 a10 a11 : Value} (h : Box w n t #[a0, a1, a2, a3, a4, a5, a6, a7, a8, a9, a10, a11]) :
    w.frozen? ⟨n, 0, none⟩ = false ∧ w.frozen? ⟨n, 1, none⟩ = false ∧ w.frozen? ⟨n, 2, none⟩ = false ∧ w.frozen? ⟨n, 3, none⟩ = false ∧ w.frozen? ⟨n, 4, none⟩ = false ∧ w.frozen? ⟨n, 5, none⟩ = false ∧ w.frozen? ⟨n, 6, none⟩ = false ∧ w.frozen? ⟨n, 7, none⟩ = false ∧ w.frozen? ⟨n, 8, none⟩ = false ∧ w.frozen? ⟨n, 9, none⟩ = false ∧ w.frozen? ⟨n, 10, none⟩ = false ∧ w.frozen? ⟨n, 11, none⟩ = false :=
  ⟨h.frozen 0, h.frozen 1, h.frozen 2, h.frozen 3, h.frozen 4, h.frozen 5, h.frozen 6, h.frozen 7, h.frozen 8, h.frozen 9, h.frozen 10, h.frozen 11⟩
theorem Box.set12 {w : World} {n : Nat} {t : TypeId} {a0 a1 a2 a3 a4 a5 a6 a7 a8 a9 a10 a11 : Value} (h : Box w n t #[a0, a1, a2, a3, a4, a5, a6, a7, a8, a9, a10, a11]) (u0 u1 u2 u3 u4 u5 u6 u7 u8 u9 u10 u11 : Value) :
    Box ((((((((((((w.setCell ⟨n, 0, none⟩ u0).setCell ⟨n, 1, none⟩ u1).setCell ⟨n, 2, none⟩ u2).setCell ⟨n, 3, none⟩ u3).setCell ⟨n, 4, none⟩ u4).setCell ⟨n, 5, none⟩ u5).setCell ⟨n, 6, none⟩ u6).setCell ⟨n, 7, none⟩ u7).setCell ⟨n, 8, none⟩ u8).setCell ⟨n, 9, none⟩ u9).setCell ⟨n, 10, none⟩ u10).setCell ⟨n, 11, none⟩ u11) n t #[u0, u1, u2, u3, u4, u5, u6, u7, u8, u9, u10, u11] := by
  have h0 : Box _ n t #[u0, a1, a2, a3, a4, a5, a6, a7, a8, a9, a10, a11] := h.set 0 u0
  have h1 : Box _ n t #[u0, u1, a2, a3, a4, a5, a6, a7, a8, a9, a10, a11] := h0.set 1 u1
  have h2 : Box _ n t #[u0, u1, u2, a3, a4, a5, a6, a7, a8, a9, a10, a11] := h1.set 2 u2
  have h3 : Box _ n t #[u0, u1, u2, u3, a4, a5, a6, a7, a8, a9, a10, a11] := h2.set 3 u3
  have h4 : Box _ n t #[u0, u1, u2, u3, u4, a5, a6, a7, a8, a9, a10, a11] := h3.set 4 u4
  have h5 : Box _ n t #[u0, u1, u2, u3, u4, u5, a6, a7, a8, a9, a10, a11] := h4.set 5 u5
  have h6 : Box _ n t #[u0, u1, u2, u3, u4, u5, u6, a7, a8, a9, a10, a11] := h5.set 6 u6
  have h7 : Box _ n t #[u0, u1, u2, u3, u4, u5, u6, u7, a8, a9, a10, a11] := h6.set 7 u7
  have h8 : Box _ n t #[u0, u1, u2, u3, u4, u5, u6, u7, u8, a9, a10, a11] := h7.set 8 u8
  have h9 : Box _ n t #[u0, u1, u2, u3, u4, u5, u6, u7, u8, u9, a10, a11] := h8.set 9 u9
  have h10 : Box _ n t #[u0, u1, u2, u3, u4, u5, u6, u7, u8, u9, u10, a11] := h9.set 10 u10
  have h11 : Box _ n t #[u0, u1, u2, u3, u4, u5, u6, u7, u8, u9, u10, u11] := h10.set 11 u11
  exact h11
theorem Box.other12 {w : World} {n m : Nat} {t : TypeId} {cs : Array Value} (h : Box w n t cs) (hp : n ≠ m) (u0 u1 u2 u3 u4 u5 u6 u7 u8 u9 u10 u11 : Value) :
    Box ((((((((((((w.setCell ⟨m, 0, none⟩ u0).setCell ⟨m, 1, none⟩ u1).setCell ⟨m, 2, none⟩ u2).setCell ⟨m, 3, none⟩ u3).setCell ⟨m, 4, none⟩ u4).setCell ⟨m, 5, none⟩ u5).setCell ⟨m, 6, none⟩ u6).setCell ⟨m, 7, none⟩ u7).setCell ⟨m, 8, none⟩ u8).setCell ⟨m, 9, none⟩ u9).setCell ⟨m, 10, none⟩ u10).setCell ⟨m, 11, none⟩ u11) n t cs :=
  (((((((((((h.other (p := ⟨m, 0, none⟩) hp u0).other (p := ⟨m, 1, none⟩) hp u1).other (p := ⟨m, 2, none⟩) hp u2).other (p := ⟨m, 3, none⟩) hp u3).other (p := ⟨m, 4, none⟩) hp u4).other (p := ⟨m, 5, none⟩) hp u5).other (p := ⟨m, 6, none⟩) hp u6).other (p := ⟨m, 7, none⟩) hp u7).other (p := ⟨m, 8, none⟩) hp u8).other (p := ⟨m, 9, none⟩) hp u9).other (p := ⟨m, 10, none⟩) hp u10).other (p := ⟨m, 11, none⟩) hp u11
theorem bel_set12 {a w : World} {m : Nat} (hp : a.heap.size ≤ m) (h : Below a.heap.size a w) (u0 u1 u2 u3 u4 u5 u6 u7 u8 u9 u10 u11 : Value) :
    Below a.heap.size a ((((((((((((w.setCell ⟨m, 0, none⟩ u0).setCell ⟨m, 1, none⟩ u1).setCell ⟨m, 2, none⟩ u2).setCell ⟨m, 3, none⟩ u3).setCell ⟨m, 4, none⟩ u4).setCell ⟨m, 5, none⟩ u5).setCell ⟨m, 6, none⟩ u6).setCell ⟨m, 7, none⟩ u7).setCell ⟨m, 8, none⟩ u8).setCell ⟨m, 9, none⟩ u9).setCell ⟨m, 10, none⟩ u10).setCell ⟨m, 11, none⟩ u11) :=
  (((((((((((h.setCell (p := ⟨m, 0, none⟩) hp u0).setCell (p := ⟨m, 1, none⟩) hp u1).setCell (p := ⟨m, 2, none⟩) hp u2).setCell (p := ⟨m, 3, none⟩) hp u3).setCell (p := ⟨m, 4, none⟩) hp u4).setCell (p := ⟨m, 5, none⟩) hp u5).setCell (p := ⟨m, 6, none⟩) hp u6).setCell (p := ⟨m, 7, none⟩) hp u7).setCell (p := ⟨m, 8, none⟩) hp u8).setCell (p := ⟨m, 9, none⟩) hp u9).setCell (p := ⟨m, 10, none⟩) hp u10).setCell (p := ⟨m, 11, none⟩) hp u11
end Go.Proofs.Ytfbmmiikhkmpfac
/-
  A map of the call's own, as what stands at each number: for map[int]bool (Seen), and for any map keyed by int (OwnM).
-/
namespace Go.Proofs.Ytfbmmiikhkmpfac
open Go.RowKit

/-- A map's element is read as it stands. -/
def Rv (v : Value) : Option (DataW Value × List MemPlace) := some (.held v, [])
theorem law_int : Maps.Keyed Try.prog 3 := Maps.int_keyed Try.underlying3
theorem key_int {z : Int} (h0 : 0 ≤ z) (h1 : z < 1000) : keyOf Try.prog 3 (.int .i64 z) = some (.int .i64 z) := Maps.keyOf_int_mk Try.underlying3 (WalkArith.wf_i64 (by omega))
theorem key_all {z : Int} (h0 : -9223372036854775808 ≤ z) (h1 : z ≤ 9223372036854775807) : keyOf Try.prog 3 (.int .i64 z) = some (.int .i64 z) := Maps.keyOf_int_mk Try.underlying3 (WalkArith.wf_i64 (by omega))
theorem zero_bool (w : World) : (zeroValue 4).run Try.prog w = .ok (.bool false) w := by kernel_rfl

theorem grown_none {w w' : World} (h : Below w.heap.size w w') : w.grownBy w' none := ⟨h.os, h.tape, h.output, h.size, fun k hk _ => h.block k hk⟩

/-- Block b is a map[int]bool that holds true at these numbers and no others. -/
def Seen (w : World) (b n : Nat) (ks : List Int) : Prop :=
  ∃ D, w.ownsMap Try.prog 3 Rv b n D ∧ ∀ z, D.atKey (.int .i64 z) (.held (.bool false)) = .held (.bool (decide (z ∈ ks)))

theorem Seen.new (w : World) : Seen (w.alloc (.map #[] 0)) w.heap.size 0 [] := ⟨_, World.ownsMap_made _ _ _ _, fun z => by simp [DataW.atKey]⟩
theorem Seen.keep {w w' : World} {b n : Nat} {ks : List Int} (h : Seen w b n ks) (hb : Below w.heap.size w w') : Seen w' b n ks := by
  obtain ⟨D, h1, h2⟩ := h
  exact ⟨D, h1.kept (grown_none hb) (by simp), h2⟩
theorem Seen.lt {w : World} {b n : Nat} {ks : List Int} (h : Seen w b n ks) : b < w.heap.size := by obtain ⟨D, h1, _⟩ := h; exact h1.lt

theorem wpList_seen {w : World} {ops : Array Oper} {rest : List Oper} {o : Oper} {a : Act} {Q : Exit → Act → World → Prop} (hg : o.guard = none) (m x : Operand) (hop : o.op = Op.lookup 79 m x false) (b n : Nat) (ks : List Int)
    (hm : a.eval m = .map (some b)) (h : Seen w b n ks) (z : Int) (hx : a.eval x = .int .i64 z) (h0 : 0 ≤ z) (h1 : z < 1000)
    (hK : wpList Try.prog ops Q rest (a.put o.dst (.bool (decide (z ∈ ks)))) w) : wpList Try.prog ops Q (o :: rest) a w := by
  refine wpList_plain hg fun K' hK' => ?_
  obtain ⟨D, hown, hD⟩ := h
  obtain ⟨v, ps, hrun, hv⟩ := hown.lookup law_int Try.underlying79 (zero_bool w) (zd := .held (.bool false)) (zp := []) rfl (key_int h0 h1)
  rw [hD z] at hv
  simp only [Rv, Option.some.injEq, Prod.mk.injEq, DataW.held.injEq] at hv
  unfold Oper.wp
  simp [execOp, hop, hm, hx, hrun, Result.andThen]
  rw [hv.1]
  exact hK' _ _ hK

theorem wpList_see {w : World} {ops : Array Oper} {rest : List Oper} {o : Oper} {a : Act} {Q : Exit → Act → World → Prop} (hg : o.guard = none) (m x v : Operand) (hop : o.op = Op.mapUpdate 79 m x v) (b n : Nat) (ks : List Int)
    (hm : a.eval m = .map (some b)) (h : Seen w b n ks) (z : Int) (hx : a.eval x = .int .i64 z) (hv : a.eval v = .bool true) (h0 : 0 ≤ z) (h1 : z < 1000) (hn : n < 1000)
    (hK : ∀ w', Seen w' b (n + 1) (z :: ks) → w.grownBy w' (some b) → wpList Try.prog ops Q rest (a.put o.dst undef) w') : wpList Try.prog ops Q (o :: rest) a w := by
  obtain ⟨D, hown, hD⟩ := h
  refine wpList_mapUpdate_own w hg m x v 79 hop 3 4 law_int Try.underlying79 Rv b n D hm hown (by unfold maxLen; omega) _ _ _ hx hv (key_int h0 h1) (.held (.bool true)) [] rfl ?_
  intro w' hown' hgr
  refine hK w' ⟨_, hown', fun y => ?_⟩ hgr
  by_cases e : y = z
  · subst e
    rw [Maps.atKey_put_same hown.isMap (law_int.key (key_int h0 h1))]
    simp
  · rw [Maps.atKey_put_other (by simpa using e), hD y]
    simp [e]
end Go.Proofs.Ytfbmmiikhkmpfac
/-
  Package cache: questions and its closures: at each kind of order stands what is asked of a line; nothing that was there turns.
-/
namespace Go.Proofs.Ytfbmmiikhkmpfac
open Go.RowKit

/-- Block b is a map keyed by int whose elements are read as they stand. -/
abbrev OwnM (w : World) (b n : Nat) (D : DataW Value) : Prop := w.ownsMap Try.prog 3 Rv b n D

theorem grown_cell {w w' : World} {b n o : Nat} {x : Option Value} (h : w.cell? ⟨n, o, none⟩ = x) (hg : w.grownBy w' (some b)) (hne : ¬ n = b) (hl : n < w.heap.size) : w'.cell? ⟨n, o, none⟩ = x := by
  rw [← h]
  exact World.cell?_of_block (a := ⟨n, o, none⟩) (hg.block n hl (by simpa using hne))

theorem Blk.grown {w w' : World} {n b : Nat} {cs : Array Value} (h : Blk w n cs) (hg : w.grownBy w' (some b)) (hne : ¬ n = b) : Blk w' n cs := by
  have hl := h.lt
  obtain ⟨t, fr, h⟩ := h
  exact ⟨t, fr, by rw [hg.block n hl (by simpa using hne)]; exact h⟩

theorem zero_func (w : World) : (zeroValue 85).run Try.prog w = .ok .nilFunc w := by kernel_rfl
theorem isKey_int (z : Int) : WideAt.IsKeyLit (.int .i64 z) := trivial
end Go.Proofs.Ytfbmmiikhkmpfac
/-
  cache.Drop: lines without those that an order makes the bridge forget; nothing that was there turns.
-/
namespace Go.Proofs.Ytfbmmiikhkmpfac
open Go.RowKit

/-- What is left of the first so many lines. -/
def kpt (l : List Ln) (k d p : Int) (j : Nat) : List Ln := (l.take j).filter (fun x => !goesB k d p x)
theorem kpt_zero (l : List Ln) (k d p : Int) : kpt l k d p 0 = [] := by simp [kpt]
theorem kpt_gone {l : List Ln} {k d p : Int} {j : Nat} (hj : j < l.length) (h : goesB k d p (lth l j) = true) : kpt l k d p (j + 1) = kpt l k d p j := by
  rw [lth_get hj] at h
  unfold kpt
  rw [List.take_succ_eq_append_getElem hj, List.filter_append]
  simp [h]
theorem kpt_kept {l : List Ln} {k d p : Int} {j : Nat} (hj : j < l.length) (h : goesB k d p (lth l j) = false) : kpt l k d p (j + 1) = kpt l k d p j ++ [lth l j] := by
  rw [lth_get hj] at h ⊢
  unfold kpt
  rw [List.take_succ_eq_append_getElem hj, List.filter_append]
  simp [h]
theorem kpt_all (l : List Ln) (k d p : Int) : kpt l k d p l.length = l.filter (fun x => !goesB k d p x) := by simp [kpt]
theorem kpt_len (l : List Ln) (k d p : Int) (j : Nat) : (kpt l k d p j).length ≤ l.length := by
  unfold kpt
  exact Nat.le_trans (List.length_filter_le _ _) (by simp; omega)
theorem goes0 (d p : Int) (x : Ln) : goesB 0 d p x = false := by simp [goesB]
theorem goes1 (d p : Int) (x : Ln) : goesB 1 d p x = true := by simp [goesB]
theorem goes2 (d p : Int) (x : Ln) : goesB 2 d p x = decide (x.1 = d) := by simp [goesB]
theorem goes3 (d p : Int) (x : Ln) : goesB 3 d p x = hasB d p x := by simp [goesB, hasB]
theorem drC_ok {l : List Ln} {k d p : Int} (hc : chkC l = 0) (h : 0 ≤ k ∧ k ≤ 3) : drE l k = 0 ∧ drC l k d p = kpt l k d p l.length := by
  have he : drE l k = 0 := by unfold drE; rw [if_pos hc, if_pos h]
  exact ⟨he, by rw [drC, if_pos he, kpt_all]⟩
/-- Three cells that are read, and nothing that has turned. -/
theorem keep3 {W w' : World} {n : Nat} {u0 u1 u2 : Value} (h0 : W.cell? ⟨n, 0, none⟩ = some u0) (h1 : W.cell? ⟨n, 1, none⟩ = some u1) (h2 : W.cell? ⟨n, 2, none⟩ = some u2) (hn : n < W.heap.size) (hb : Below W.heap.size W w') :
    w'.cell? ⟨n, 0, none⟩ = some u0 ∧ w'.cell? ⟨n, 1, none⟩ = some u1 ∧ w'.cell? ⟨n, 2, none⟩ = some u2 ∧ Below W.heap.size W w' :=
  ⟨((bcell hb).1 n 0 hn).trans h0, ((bcell hb).1 n 1 hn).trans h1, ((bcell hb).1 n 2 hn).trans h2, hb⟩
theorem limb3 {A B C D : Prop} (h : A ∧ B ∧ C ∧ D) : D := h.2.2.2

end Go.Proofs.Ytfbmmiikhkmpfac
/-
  The closed fact kept holds; Fill, Filled, Drop, Dropped where their answers are known.
-/
namespace Go.Proofs.Ytfbmmiikhkmpfac
open Go.RowKit

theorem Ls.shape {w : World} {v : Value} {l : List Ln} (h : Ls w v l) : ∃ a cap, v = .slice a l.length cap ∧ Ls w (.slice a l.length cap) l := by
  have h' := h
  obtain ⟨a, cap, rfl, _⟩ := h
  exact ⟨a, cap, rfl, h'⟩
def lA : Ln := (1, 2, 3, true, false)
def lB : Ln := (4, 2, 9, true, false)
theorem kA1 : flE [] (1, 2, 3, true, false) = 0 ∧ flC [] (1, 2, 3, true, false) = [lA] := by decide
theorem kA2 : flE [lA] (4, 2, 9, true, false) = 0 ∧ flC [lA] (4, 2, 9, true, false) = [lA, lB] := by decide
theorem kA3 : drE [lA, lB] 2 = 0 ∧ drC [lA, lB] 2 1 0 = [lB] := by decide
theorem kA4 : flE [lA, lB] (1, 2, 5, true, false) = 5 ∧ flC [lA, lB] (1, 2, 5, true, false) = [] := by decide
theorem kA5 : fndC [lA, lB] 4 2 = 1 ∧ fndC [lB] 4 2 = 0 ∧ chkC [lA, lB] = 0 := by decide

end Go.Proofs.Ytfbmmiikhkmpfac
/-
  Package bridge: what isDev, isPage, isFences, Check, checkBoth, byLine answer; none turns memory that was there.
-/
namespace Go.Proofs.Ytfbmmiikhkmpfac
open Go.RowKit

def fenR (z : Int) : Bool := decide (0 ≤ z ∧ z < 1000)
theorem fenR_in {z : Int} (h : fenR z = true) : 0 ≤ z ∧ z < 1000 := by simpa [fenR] using h

theorem isPageB_any (z : Int) (w : World) : Calls Try.prog 44 #[.int .i64 z] w fun e w' => e = .returned (.bool (pageR z)) ∧ w' = w := by
  by_cases h1 : 0 ≤ z
  · by_cases h2 : z < 64
    · have : pageR z = true := by simp [pageR, h1, h2]
      rw [this]
      go_enter Try.func44, Try.ntmps44
      go_wp2
      go_ret
      exact ⟨rfl, rfl⟩
    · have : pageR z = false := by simp [pageR, h2]
      rw [this]
      go_enter Try.func44, Try.ntmps44
      go_wp2
      go_ret
      exact ⟨rfl, rfl⟩
  · have : pageR z = false := by simp [pageR, h1]
    rw [this]
    go_enter Try.func44, Try.ntmps44
    go_wp2
    go_ret
    exact ⟨rfl, rfl⟩
theorem isFences_any (z : Int) (w : World) : Calls Try.prog 45 #[.int .i64 z] w fun e w' => e = .returned (.bool (fenR z)) ∧ w' = w := by
  by_cases h1 : 0 ≤ z
  · by_cases h2 : z < 1000
    · have : fenR z = true := by simp [fenR, h1, h2]
      rw [this]
      go_enter Try.func45, Try.ntmps45
      go_wp2
      go_ret
      exact ⟨rfl, rfl⟩
    · have : fenR z = false := by simp [fenR, h2]
      rw [this]
      go_enter Try.func45, Try.ntmps45
      go_wp2
      go_ret
      exact ⟨rfl, rfl⟩
  · have : fenR z = false := by simp [fenR, h1]
    rw [this]
    go_enter Try.func45, Try.ntmps45
    go_wp2
    go_ret
    exact ⟨rfl, rfl⟩

/-- The four ways in which the numbers of a bridge are wrong. -/
theorem rngBr_ways {b : Br} : (rngBr b = true ∧ ¬ b.mode < 0 ∧ ¬ 2 < b.mode ∧ pageR b.base = true ∧ fenR b.fen = true) ∨
    (rngBr b = false ∧ (b.mode < 0 ∨ (¬ b.mode < 0 ∧ 2 < b.mode) ∨ (¬ b.mode < 0 ∧ ¬ 2 < b.mode ∧ pageR b.base = false) ∨ (¬ b.mode < 0 ∧ ¬ 2 < b.mode ∧ pageR b.base = true ∧ fenR b.fen = false))) := by
  simp only [rngBr, pageR, fenR]
  by_cases h1 : b.mode < 0
  · exact .inr ⟨by simp; omega, .inl h1⟩
  by_cases h2 : 2 < b.mode
  · exact .inr ⟨by simp; omega, .inr (.inl ⟨h1, h2⟩)⟩
  by_cases h3 : 0 ≤ b.base ∧ b.base < 64
  · by_cases h4 : 0 ≤ b.fen ∧ b.fen < 1000
    · exact .inl ⟨by simp; omega, h1, h2, by simp [h3], by simp [h4]⟩
    · exact .inr ⟨by simp; omega, .inr (.inr (.inr ⟨h1, h2, by simp [h3], by simpa using h4⟩))⟩
  · exact .inr ⟨by simp; omega, .inr (.inr (.inl ⟨h1, h2, by simpa using h3⟩))⟩

set_option maxHeartbeats 2000000 in
theorem bCheck_any (mo ba op oh ot fe fp fh ft : Int) (st lo : Bool) (vc : Value) (l : List Ln) (w : World) (h : Ls w vc l) :
    Calls Try.prog 26 #[.agg #[.int .i64 mo, .int .i64 ba, vc, .int .i64 op, .int .i64 oh, .int .i64 ot, .bool st, .int .i64 fe, .int .i64 fp, .int .i64 fh, .int .i64 ft, .bool lo]] w fun e w' => e = .returned (.int .i64 (chkB ⟨mo, ba, l, op, oh, ot, st, fe, fp, fh, ft, lo⟩)) ∧ Below w.heap.size w w' := by
  have HS : Hid (Ls w vc l) := h
  obtain ⟨va, vk, rfl, -⟩ := h.shape
  clear h
  rcases rngBr_ways (b := ⟨mo, ba, l, op, oh, ot, st, fe, fp, fh, ft, lo⟩) with ⟨hr, h1, h2, h3, h4⟩ | ⟨hr, hw⟩
  rotate_left
  · have HE : Hid (chkB ⟨mo, ba, l, op, oh, ot, st, fe, fp, fh, ft, lo⟩ = 2) := by show _ = _; rw [chkB, hr]; rfl
    clear hr
    dsimp only at hw
    rcases hw with h1 | ⟨h1, h2⟩ | ⟨h1, h2, h3⟩ | ⟨h1, h2, h3, h4⟩
    all_goals
      go_enter Try.func26, Try.ntmps26
      go_wp2_with (first | (go_at_call 44; refine (isPageB_any _ _).mono ?_; rintro e w' ⟨rfl, rfl⟩) | (go_at_call 45; refine (isFences_any _ _).mono ?_; rintro e w' ⟨rfl, rfl⟩))
      go_ret
      exact ⟨ret_int HE.out.symm, bel_alloc (Below.refl _ _) _⟩
  dsimp only at h1 h2 h3 h4
  have HR : Hid (rngBr ⟨mo, ba, l, op, oh, ot, st, fe, fp, fh, ft, lo⟩ = true) := hr
  clear hr
  go_enter Try.func26, Try.ntmps26
  go_wp2_with (first | (go_at_call 44; refine (isPageB_any _ _).mono ?_; rintro e w' ⟨rfl, rfl⟩) | (go_at_call 45; refine (isFences_any _ _).mono ?_; rintro e w' ⟨rfl, rfl⟩))
  refine (cCheck_any _ l _ (HS.out.alloc _)).mono ?_
  rintro e w1 ⟨rfl, b1⟩
  have X0 := (Box.newAt (n := w.heap.size) rfl 40 #[.int .i64 mo, .int .i64 ba, .slice va l.length vk, .int .i64 op, .int .i64 oh, .int .i64 ot, .bool st, .int .i64 fe, .int .i64 fp, .int .i64 fh, .int .i64 ft, .bool lo]).keep b1
  have B1 : Hid (Below w.heap.size w w1) := bel_trans (bel_alloc (Below.refl _ _) _) b1
  clear b1
  obtain ⟨⟨q0, q1, q2, q3, q4, q5, q6, q7, q8, q9, q10, q11⟩, s0⟩ := X0.twelve
  by_cases hc : chkC l = 0
  rotate_left
  · have HE : Hid (chkB ⟨mo, ba, l, op, oh, ot, st, fe, fp, fh, ft, lo⟩ = chkC l) := by show _ = _; rw [chkB, if_pos HR.out, if_neg hc]
    have hq : (chkC l != 0) = true := by simpa using hc
    go_wp2
    go_ret
    exact ⟨ret_int HE.out.symm, B1.out⟩
  rw [hc]
  go_wp2_with fail
  refine (rCheck_any _ _ _ _).mono ?_
  rintro e w2 ⟨rfl, rfl⟩
  by_cases hk : chkR op oh ot = 0
  rotate_left
  · have HE : Hid (chkB ⟨mo, ba, l, op, oh, ot, st, fe, fp, fh, ft, lo⟩ = chkR op oh ot) := by show _ = _; rw [chkB, if_pos HR.out, if_pos hc, if_neg hk]
    have hq : (chkR op oh ot != 0) = true := by simpa using hk
    go_wp2
    go_ret
    exact ⟨ret_int HE.out.symm, bel_alloc B1.out _⟩
  have HE : Hid (chkB ⟨mo, ba, l, op, oh, ot, st, fe, fp, fh, ft, lo⟩ = chkR fp fh ft) := by show _ = _; rw [chkB, if_pos HR.out, if_pos hc, if_pos hk]
  rw [hk]
  go_wp2_with fail
  refine (rCheck_any _ _ _ _).mono ?_
  rintro e w2 ⟨rfl, rfl⟩
  go_wp2
  go_ret
  exact ⟨ret_int HE.out.symm, bel_alloc (bel_alloc B1.out _) _⟩

end Go.Proofs.Ytfbmmiikhkmpfac
/-
  Package hart: Check, Same, New, checkAll: what they answer; nothing that was there turns.
-/
namespace Go.Proofs.Ytfbmmiikhkmpfac
open Go.RowKit

set_option maxHeartbeats 1000000 in
theorem hCheck_any (p : Int) (v : Value) (r : List Int) (d : Bool) (w : World) (h : Sl w v r) :
    Calls Try.prog 19 #[.agg #[.int .i64 p, v, .bool d]] w fun e w' => e = .returned (.int .i64 (chkH ⟨p, r, d⟩)) ∧ Below w.heap.size w w' := by
  obtain ⟨a, cap, rfl, hl, h⟩ := h
  unfold maxLen at hl
  by_cases hn : r.length = 8
  rotate_left
  · have hne : ((r.length : Int) != 8) = true := by simp; omega
    rw [chkH_len hn]
    clear hn h
    go_enter Try.func19, Try.ntmps19
    go_wp2
    go_ret
    exact ⟨rfl, bel_alloc (Below.refl _ _) _⟩
  rcases h with rfl | ⟨b, o, rfl, hb, hc⟩
  · simp at hn
  have HC : Hid (∀ i, i < 8 → w.cell? ⟨b, o + i, none⟩ = some (.int .i64 (nth r i))) := fun i hi => hc i (by omega)
  have HN : Hid (r.length = 8) := hn
  rw [hn]
  clear hc hl hn
  cases hp : placeB p
  · rw [chkH_out HN.out hp]
    have ho : p < 0 ∨ (0 ≤ p ∧ 512 ≤ p) := by simp [placeB] at hp; omega
    clear hp
    rcases ho with ho | ⟨ho, ho2⟩
    · go_enter Try.func19, Try.ntmps19
      go_wp2
      go_ret
      exact ⟨rfl, bel_alloc (Below.refl _ _) _⟩
    · have ho3 : ¬ p < 0 := by omega
      go_enter Try.func19, Try.ntmps19
      go_wp2
      go_ret
      exact ⟨rfl, bel_alloc (Below.refl _ _) _⟩
  have HP0 : Hid (placeB p = true) := hp
  have hpp : ¬ p < 0 ∧ ¬ 512 ≤ p := by simp [placeB] at hp; omega
  obtain ⟨hp1, hp2⟩ := hpp
  clear hp
  go_enter Try.func19, Try.ntmps19
  go_wp2
  go_loop [20] (fun i => ∃ k : Nat, k ≤ 8 ∧ i = .int .i64 k ∧ ∀ j, j < k → wordB (nth r j) = true) (fun i => 8 - (intOf i).toNat)
  case atStart => exact ⟨0, Nat.zero_le _, rfl, fun j hj => absurd hj (Nat.not_lt_zero _)⟩
  case round =>
    obtain ⟨k, hk, rfl, hpre⟩ := hrel
    have HP : Hid (∀ j, j < k → wordB (nth r j) = true) := hpre
    clear hpre
    by_cases hlt : k < 8
    · have g := HC.out k hlt
      have hlt1 : (k : Int) < 8 := by omega
      obtain ⟨z, hz⟩ : ∃ z, nth r k = z := ⟨_, rfl⟩
      rw [hz] at g
      have HZ : Hid (nth r k = z) := hz
      clear hz
      by_cases hq : wordB z = true
      · have hq2 : ¬ z < 0 ∧ ¬ 65535 < z := by simp [wordB] at hq; omega
        obtain ⟨q1, q2⟩ := hq2
        have HQ : Hid (wordB z = true) := hq
        clear hq
        go_wp2
        refine ⟨⟨k + 1, by omega, by go_num, fun j hj => ?_⟩, by simp [intOf]; omega⟩
        by_cases e : j = k
        · rw [e, HZ.out]; exact HQ.out
        · exact HP.out j (by omega)
      · have hq' : wordB z = false := by simpa using hq
        have HD : Hid (chkH ⟨p, r, d⟩ = 2) := chkH_bad HN.out HP0.out hlt (by rw [HZ.out]; exact hq')
        have hq2 : z < 0 ∨ (¬ z < 0 ∧ 65535 < z) := by simp [wordB] at hq'; omega
        clear hq hq'
        rcases hq2 with q1 | ⟨q1, q2⟩
        all_goals
          go_wp2
          go_ret
          exact ⟨ret_int HD.out.symm, bel_alloc (Below.refl _ _) _⟩
    · have HD : Hid (chkH ⟨p, r, d⟩ = 0) := chkH_all HN.out HP0.out fun j hj => HP.out j (by omega)
      have hge : ¬ (k : Int) < 8 := by omega
      go_wp2
      go_ret
      exact ⟨ret_int HD.out.symm, bel_alloc (Below.refl _ _) _⟩

set_option maxHeartbeats 1000000 in
theorem hSame_any (p : Int) (v : Value) (r : List Int) (d : Bool) (p1 : Int) (v1 : Value) (r1 : List Int) (d1 : Bool) (w : World) (h : Sl w v r) (h1 : Sl w v1 r1) :
    Calls Try.prog 20 #[.agg #[.int .i64 p, v, .bool d], .agg #[.int .i64 p1, v1, .bool d1]] w fun e w' => e = .returned (.bool (sameH ⟨p, r, d⟩ ⟨p1, r1, d1⟩)) ∧ Below w.heap.size w w' := by
  have ho : sameH ⟨p, r, d⟩ ⟨p1, r1, d1⟩ = (decide (p = p1) && decide (d = d1) && decide (r = r1)) := rfl
  rw [ho]
  clear ho
  have H1 : Hid (Sl w v r) := h
  have H2 : Hid (Sl w v1 r1) := h1
  obtain ⟨a, c, rfl, -⟩ := h
  obtain ⟨a1, c1, rfl, -⟩ := h1
  by_cases e1 : p = p1
  rotate_left
  · have q1 : (p == p1) = false := by simpa using e1
    have d1 : Hid (decide (p = p1) = false) := decide_eq_false e1
    clear e1
    go_enter Try.func20, Try.ntmps20
    go_wp2
    go_ret
    exact ⟨ret_bool (by rw [d1.out]; rfl), bel_alloc (bel_alloc (Below.refl _ _) _) _⟩
  subst e1
  have B2 : ∀ A B : Obj, Below w.heap.size w ((w.alloc A).alloc B) := fun A B => bel_alloc (bel_alloc (Below.refl _ _) A) B
  obtain ⟨rr, hrr⟩ : ∃ rr, decide (r = r1) = rr := ⟨_, rfl⟩
  have HR : Hid (decide (r = r1) = rr) := hrr
  clear hrr
  go_enter Try.func20, Try.ntmps20
  go_wp2_with fail
  refine (equal_any _ _ r r1 _ (H1.out.keep (B2 _ _)) (H2.out.keep (B2 _ _))).mono ?_
  rintro e w1 ⟨rfl, n, rfl⟩
  rw [HR.out]
  cases rr
  · go_wp2
    go_ret
    exact ⟨ret_bool (by rw [HR.out]; simp), bel_drewN (bel_alloc (bel_alloc (Below.refl _ _) _) _) _⟩
  · go_wp2
    go_ret
    exact ⟨ret_bool (by rw [HR.out]; cases d <;> cases d1 <;> rfl), bel_drewN (bel_alloc (bel_alloc (Below.refl _ _) _) _) _⟩

/-- make of eight registers. -/
def zeroRegs : Array Value := madeCells #[.int .i64 0] 8
def zero8 : List Int := List.replicate 8 0
theorem zeroRegs_list : zeroRegs.toList = zero8.map (fun z => Value.int .i64 z) := by
  unfold zeroRegs zero8
  rw [toList_madeCells_one, List.map_replicate]
theorem make8 (w : World) : (Instr.makeSlice 31 (.int .i64 8) (.int .i64 8)).run Try.prog w = .ok (.slice (some ⟨w.heap.size, 0, none⟩) 8 8) (w.alloc (.cells zeroRegs 3)) := by
  obtain ⟨i, hi, hz, hs, hb⟩ := infoInt
  have h := run_make (P := Try.prog) w 31 3 i _ Try.underlying31 hi hz .i64 .i64 8 8 (by decide) (by decide) (by rw [hb]; decide) (by decide)
  rw [hs] at h
  exact h
theorem sl_zero8 {w : World} {g : Nat} (h : g = w.heap.size) : Sl (w.alloc (.cells zeroRegs 3)) (.slice (some ⟨g, 0, none⟩) 8 8) zero8 :=
  sl_block (heap_at h) zeroRegs_list rfl (by simp [zero8, maxLen])
theorem chkH_new (k : Int) : chkH ⟨k, zero8, false⟩ = newE k := by
  unfold newE
  rw [chkH]
  have h1 : zero8.length = 8 := rfl
  rw [if_pos h1]
  by_cases h : placeB k = true
  · rw [if_pos h, if_pos h, if_pos (show zero8.all wordB = true by decide)]
  · rw [if_neg h, if_neg h]

set_option maxHeartbeats 1000000 in
theorem hNew_any (k : Int) (w : World) :
    Calls Try.prog 13 #[.int .i64 k] w fun e w' => ∃ p v r, e = .returned (.tuple #[.agg #[.int .i64 p, v, .bool false], .int .i64 (newE k)]) ∧ Sl w' v r ∧ newH k = ⟨p, r, false⟩ ∧ Below w.heap.size w w' := by
  have hm := make8
  go_enter Try.func13, Try.ntmps13
  go_wp2_with fail
  have SR := sl_zero8 (w := w.alloc (.cells #[.int .i64 0, .slice none 0 0, .bool false] 35)) (g := w.heap.size + 1) (by simp)
  have HS : Hid _ := SR
  refine (hCheck_any k _ zero8 false _ (SR.keep (bel_alloc (Below.refl _ _) _))).mono ?_
  rintro e w1 ⟨rfl, b1⟩
  rw [chkH_new]
  have X0 := (((Box.newAt (w := w) (n := w.heap.size) rfl 35 #[.int .i64 0, .slice none 0 0, .bool false]).past (.cells zeroRegs 3)).past _).keep b1
  have X1 := (Box.newAt (w := (w.alloc (.cells #[.int .i64 0, .slice none 0 0, .bool false] 35)).alloc (.cells zeroRegs 3)) (n := w.heap.size + 1 + 1) (by simp) 35 #[.int .i64 k, .slice (some ⟨w.heap.size + 1, 0, none⟩) 8 8, .bool false]).keep b1
  have HB : Hid (Below w.heap.size w w1) := bel_trans (bel_alloc (bel_alloc (bel_alloc (Below.refl _ _) _) _) _) b1
  have HS1 : Hid (Box w1 (w.heap.size + 1) 3 zeroRegs) := ((Box.newAt (w := w.alloc (.cells #[.int .i64 0, .slice none 0 0, .bool false] 35)) (n := w.heap.size + 1) (by simp) 3 zeroRegs).past _).keep b1
  clear b1 SR HS
  obtain ⟨a0, a1, a2, f0, f1, f2, s0⟩ := X0.three
  obtain ⟨c0, c1, c2, -, -, -, s1⟩ := X1.three
  by_cases hp : placeB k = true
  · have hE : newE k = 0 := if_pos hp
    have hH : Hid (newH k = ⟨k, zero8, false⟩) := if_pos hp
    have HE : Hid _ := hE
    rw [hE]
    clear hp hE
    go_wp2_with fail
    refine bodyPost_ret (v := .tuple #[.agg #[.int .i64 k, .slice (some ⟨w.heap.size + 1, 0, none⟩) 8 8, .bool false], .int .i64 0]) (by simp [results, Try.results13, go_sem, *]) rfl ⟨_, .slice (some ⟨w.heap.size + 1, 0, none⟩) 8 8, _, by rw [HE.out], sl_block (HS1.out.other3 ?_ _ _ _) zeroRegs_list rfl (by simp [zero8, maxLen]), hH.out, ?_⟩
    · omega
    · exact bel_set3 (by omega) HB.out _ _ _
  · have hE : newE k = 2 := if_neg hp
    have hH : Hid (newH k = ⟨0, [], false⟩) := if_neg hp
    have HE : Hid _ := hE
    rw [hE]
    clear hp hE
    go_wp2_with fail
    refine bodyPost_ret (v := .tuple #[.agg #[.int .i64 0, .slice none 0 0, .bool false], .int .i64 2]) (by simp [results, Try.results13, go_sem, *]) rfl ⟨_, .slice none 0 0, _, by rw [HE.out], Sl.nil _ _ _, hH.out, ?_⟩
    · exact bel_set3 (by omega) HB.out _ _ _

/-- What checkAll says. -/
def allE (zs : List Int) (h : Ht) (b : Br) : Int := if chk zs = 0 then (if chkH h = 0 then chkB b else chkH h) else chk zs

set_option maxHeartbeats 2000000 in
theorem hCheckAll_any (v : Value) (zs : List Int) (p : Int) (u : Value) (r : List Int) (d : Bool) (mo ba op oh ot fe fp fh ft : Int) (st lo : Bool) (vc : Value) (l : List Ln) (w : World) (hs : Sl w v zs) (hr : Sl w u r) (h : Ls w vc l) :
    Calls Try.prog 34 #[.agg #[v], .agg #[.int .i64 p, u, .bool d], .agg #[.int .i64 mo, .int .i64 ba, vc, .int .i64 op, .int .i64 oh, .int .i64 ot, .bool st, .int .i64 fe, .int .i64 fp, .int .i64 fh, .int .i64 ft, .bool lo]] w fun e w' => e = .returned (.int .i64 (allE zs ⟨p, r, d⟩ ⟨mo, ba, l, op, oh, ot, st, fe, fp, fh, ft, lo⟩)) ∧ Below w.heap.size w w' := by
  have HM : Hid (Sl w v zs) := hs
  have HR : Hid (Sl w u r) := hr
  have HL : Hid (Ls w vc l) := h
  obtain ⟨a1, n1, c1, rfl⟩ : ∃ a k c, v = .slice a k c := let ⟨a, c, e, _⟩ := hs; ⟨a, _, c, e⟩
  obtain ⟨a2, n2, c2, rfl⟩ : ∃ a k c, u = .slice a k c := let ⟨a, c, e, _⟩ := hr; ⟨a, _, c, e⟩
  obtain ⟨va, vk, rfl, -⟩ := h.shape
  obtain ⟨N, hN⟩ : ∃ N, N = l.length := ⟨_, rfl⟩
  rw [← hN] at HL ⊢
  clear hs hr h hN
  have HT : Hid (allE zs ⟨p, r, d⟩ ⟨mo, ba, l, op, oh, ot, st, fe, fp, fh, ft, lo⟩ = if chk zs = 0 then (if chkH ⟨p, r, d⟩ = 0 then chkB ⟨mo, ba, l, op, oh, ot, st, fe, fp, fh, ft, lo⟩ else chkH ⟨p, r, d⟩) else chk zs) := rfl
  have B3 : Hid (∀ A B C : Obj, Below w.heap.size w (((w.alloc A).alloc B).alloc C)) := fun A B C => bel_alloc (bel_alloc (bel_alloc (Below.refl _ _) A) B) C
  go_enter Try.func34, Try.ntmps34
  go_wp2_with fail
  refine (check_any _ zs _ (HM.out.keep (B3.out _ _ _))).mono ?_
  rintro e w1 ⟨rfl, b1⟩
  have X1 := ((Box.newAt (w := w.alloc (.cells #[.slice a1 n1 c1] 33)) (n := w.heap.size + 1) (by simp) 35 #[.int .i64 p, .slice a2 n2 c2, .bool d]).past _).keep b1
  have X2 := (Box.newAt (w := (w.alloc (.cells #[.slice a1 n1 c1] 33)).alloc (.cells #[.int .i64 p, .slice a2 n2 c2, .bool d] 35)) (n := w.heap.size + 1 + 1) (by simp) 40 #[.int .i64 mo, .int .i64 ba, .slice va N vk, .int .i64 op, .int .i64 oh, .int .i64 ot, .bool st, .int .i64 fe, .int .i64 fp, .int .i64 fh, .int .i64 ft, .bool lo]).keep b1
  have BB : Hid (Below w.heap.size w w1) := bel_trans (B3.out _ _ _) b1
  clear b1
  by_cases e1 : chk zs = 0
  rotate_left
  · obtain ⟨c, hc⟩ : ∃ c, chk zs = c := ⟨_, rfl⟩
    have HC : Hid (allE zs ⟨p, r, d⟩ ⟨mo, ba, l, op, oh, ot, st, fe, fp, fh, ft, lo⟩ = c) := by rw [hc] at e1; show _ = _; rw [HT.out, hc, if_neg e1]
    rw [hc] at e1 ⊢
    have q1 : (c != 0) = true := by simpa using e1
    clear e1 hc HT X1 X2
    go_wp2_with fail
    go_ret
    exact ⟨ret_int HC.out.symm, BB.out⟩
  rw [e1]
  have HT : Hid (allE zs ⟨p, r, d⟩ ⟨mo, ba, l, op, oh, ot, st, fe, fp, fh, ft, lo⟩ = if chkH ⟨p, r, d⟩ = 0 then chkB ⟨mo, ba, l, op, oh, ot, st, fe, fp, fh, ft, lo⟩ else chkH ⟨p, r, d⟩) := by show _ = _; rw [HT.out, if_pos e1]
  clear e1
  obtain ⟨i0, i1, i2, -, -, -, s1⟩ := X1.three
  go_wp2_with fail
  refine (hCheck_any p _ r d _ (HR.out.keep BB.out)).mono ?_
  rintro e w2 ⟨rfl, b2⟩
  have X2 := X2.keep b2
  have BC : Hid (Below w.heap.size w w2) := bel_trans BB.out b2
  clear b2 i0 i1 i2 s1 X1 BB
  by_cases e2 : chkH ⟨p, r, d⟩ = 0
  rotate_left
  · obtain ⟨c, hc⟩ : ∃ c, chkH ⟨p, r, d⟩ = c := ⟨_, rfl⟩
    have HC : Hid (allE zs ⟨p, r, d⟩ ⟨mo, ba, l, op, oh, ot, st, fe, fp, fh, ft, lo⟩ = c) := by rw [hc] at e2; show _ = _; rw [HT.out, hc, if_neg e2]
    rw [hc] at e2 ⊢
    have q1 : (c != 0) = true := by simpa using e2
    clear e2 hc HT X2
    go_wp2_with fail
    go_ret
    exact ⟨ret_int HC.out.symm, BC.out⟩
  rw [e2]
  have HT : Hid (allE zs ⟨p, r, d⟩ ⟨mo, ba, l, op, oh, ot, st, fe, fp, fh, ft, lo⟩ = chkB ⟨mo, ba, l, op, oh, ot, st, fe, fp, fh, ft, lo⟩) := by show _ = _; rw [HT.out, if_pos e2]
  clear e2
  obtain ⟨⟨d0, d1, d2, d3, d4, d5, d6, d7, d8, d9, d10, d11⟩, s2⟩ := X2.twelve
  go_wp2_with fail
  refine (bCheck_any mo ba op oh ot fe fp fh ft st lo _ l _ (HL.out.keep BC.out)).mono ?_
  rintro e w3 ⟨rfl, b3⟩
  go_wp2_with fail
  go_ret
  exact ⟨ret_int HT.out.symm, bel_trans BC.out b3⟩
end Go.Proofs.Ytfbmmiikhkmpfac
