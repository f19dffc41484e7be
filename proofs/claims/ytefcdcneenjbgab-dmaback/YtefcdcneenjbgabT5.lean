/-
  Laid together: BridgeMath, TellMath, DmaMath, Box12, MapB, Quest.
-/
import Derived.Test.YtefcdcneenjbgabT4
import Derived.Maps.OwnOps
import Derived.Maps.OwnSet
/-
  The bridge, as data alone: what Check, Through, Plain, Tell, Obey answer, and what holds of it.
-/
namespace Go.Proofs.Ytefcdcneenjbgab
open Go.RowKit

/-- A bridge. -/
structure Br where
  mode : Int
  base : Int
  cache : List Ln
  op : Int
  oh : Int
  ot : Int
  stop : Bool
  fen : Int
  fp : Int
  fh : Int
  ft : Int
  lost : Bool
def B0 : Br := ⟨0, 0, [], 0, 0, 0, false, 0, 0, 0, 0, false⟩
/-- The same with other lines. -/
def Br.with (b : Br) (l : List Ln) : Br := { b with cache := l }
/-- What Check says. -/
def rngBr (b : Br) : Bool := decide (0 ≤ b.mode ∧ b.mode ≤ 2) && decide (0 ≤ b.base ∧ b.base ≤ 63) && decide (0 ≤ b.fen ∧ b.fen ≤ 999)
def chkB (b : Br) : Int := if rngBr b = true then (if chkC b.cache = 0 then (if chkR b.op b.oh b.ot = 0 then chkR b.fp b.fh b.ft else chkR b.op b.oh b.ot) else chkC b.cache) else 2
/-- What is wrong with a memory, or a bridge beside it. -/
def bothB (zs : List Int) (b : Br) : Int := if chk zs = 0 then chkB b else chk zs
def whoB (d p : Int) : Bool := decide ((0 ≤ d ∧ d ≤ 7) ∧ (0 ≤ p ∧ p ≤ 63))
def thE (zs : List Int) (b : Br) (d p : Int) : Int := if bothB zs b = 0 then (if whoB d p = true then 0 else 4) else bothB zs b

/-- The word of a device's context. -/
def ctxW (zs : List Int) (b : Br) (d : Int) : Int := nth zs (8 * b.base + d).toNat
/-- Through by the tables: the bridge, the page, the fault. -/
def byT (zs : List Int) (b : Br) (d p : Int) (wr : Bool) : Br × Int × Int :=
  if vC (ctxW zs b d) = true then
    (if aC (ctxW zs b d) = true then (b, p, 0)
    else if (wkd zs (pC (ctxW zs b d)) p wr).2.1 = 0 then (b.with (flC b.cache (d, p, (wkd zs (pC (ctxW zs b d)) p wr).1.2.2.2.2, true, (wkd zs (pC (ctxW zs b d)) p wr).1.2.2.1)), (wkd zs (pC (ctxW zs b d)) p wr).1.2.2.2.2, 0)
    else (b, 0, (wkd zs (pC (ctxW zs b d)) p wr).2.1))
  else (b, 0, 2)
/-- The line that is found. -/
def lineC (l : List Ln) (d p : Int) : Ln := lth l (fndC l d p).toNat
/-- Through, of right memory and bridge. -/
def goT (zs : List Int) (b : Br) (d p : Int) (wr : Bool) : Br × Int × Int :=
  if b.mode = 0 then (b, 0, 1)
  else if b.mode = 1 then (b, p, 0)
  else if 0 ≤ fndC b.cache d p then (if (wr && !(lineC b.cache d p).2.2.2.2) = true then (b, 0, 5) else (b, (lineC b.cache d p).2.2.1, 0))
  else byT zs b d p wr
def thR (zs : List Int) (b : Br) (d p : Int) (wr : Bool) : Br × Int × Int := if thE zs b d p = 0 then goT zs b d p wr else (B0, 0, 0)

theorem chkB_ok {b : Br} (h : chkB b = 0) : (0 ≤ b.mode ∧ b.mode ≤ 2) ∧ (0 ≤ b.base ∧ b.base ≤ 63) ∧ (0 ≤ b.fen ∧ b.fen ≤ 999) ∧ chkC b.cache = 0 ∧ chkR b.op b.oh b.ot = 0 ∧ chkR b.fp b.fh b.ft = 0 := by
  unfold chkB at h
  by_cases h1 : rngBr b = true
  · rw [if_pos h1] at h
    by_cases h2 : chkC b.cache = 0
    · rw [if_pos h2] at h
      by_cases h3 : chkR b.op b.oh b.ot = 0
      · rw [if_pos h3] at h
        simp only [rngBr, Bool.and_eq_true, decide_eq_true_eq] at h1
        exact ⟨h1.1.1, h1.1.2, h1.2, h2, h3, h⟩
      · rw [if_neg h3] at h; exact absurd h h3
    · rw [if_neg h2] at h; exact absurd h h2
  · rw [if_neg h1] at h; exact absurd h (by decide)
theorem chkB_mk {b : Br} (h1 : 0 ≤ b.mode ∧ b.mode ≤ 2) (h2 : 0 ≤ b.base ∧ b.base ≤ 63) (h3 : 0 ≤ b.fen ∧ b.fen ≤ 999) (h4 : chkC b.cache = 0) (h5 : chkR b.op b.oh b.ot = 0) (h6 : chkR b.fp b.fh b.ft = 0) : chkB b = 0 := by
  have : rngBr b = true := by simp [rngBr, h1, h2, h3]
  rw [chkB, if_pos this, if_pos h4, if_pos h5, h6]
theorem chkB_with {b : Br} (h : chkB b = 0) {l : List Ln} (hl : chkC l = 0) : chkB (b.with l) = 0 := by
  obtain ⟨h1, h2, h3, _, h5, h6⟩ := chkB_ok h
  exact chkB_mk h1 h2 h3 hl h5 h6
theorem chkC_nil : chkC [] = 0 := by decide
theorem bothB_ok {zs : List Int} {b : Br} (h : bothB zs b = 0) : chk zs = 0 ∧ chkB b = 0 := by
  unfold bothB at h
  by_cases hk : chk zs = 0
  · rw [if_pos hk] at h; exact ⟨hk, h⟩
  · rw [if_neg hk] at h; exact absurd h hk
theorem bothB_mk {zs : List Int} {b : Br} (h : chk zs = 0) (k : chkB b = 0) : bothB zs b = 0 := by rw [bothB, if_pos h, k]
theorem thE_ok {zs : List Int} {b : Br} {d p : Int} (h : thE zs b d p = 0) : chk zs = 0 ∧ chkB b = 0 ∧ (0 ≤ d ∧ d ≤ 7) ∧ (0 ≤ p ∧ p ≤ 63) := by
  unfold thE at h
  by_cases hb : bothB zs b = 0
  · rw [if_pos hb] at h
    by_cases hw : whoB d p = true
    · obtain ⟨a, c⟩ := bothB_ok hb
      simp only [whoB, decide_eq_true_eq] at hw
      exact ⟨a, c, hw.1, hw.2⟩
    · rw [if_neg hw] at h; exact absurd h (by decide)
  · rw [if_neg hb] at h; exact absurd h hb
theorem thE_mk {zs : List Int} {b : Br} {d p : Int} (h : chk zs = 0) (k : chkB b = 0) (hd : 0 ≤ d ∧ d ≤ 7) (hp : 0 ≤ p ∧ p ≤ 63) : thE zs b d p = 0 := by
  rw [thE, if_pos (bothB_mk h k), if_pos (by simp [whoB, hd, hp])]
theorem thE_with {zs : List Int} {b : Br} {d p : Int} (h : thE zs b d p = 0) {l : List Ln} (hl : chkC l = 0) : thE zs (b.with l) d p = 0 := by
  obtain ⟨h1, h2, h3, h4⟩ := thE_ok h
  exact thE_mk h1 (chkB_with h2 hl) h3 h4

/-- The page that find tells is one. -/
theorem fnd_page {zs : List Int} {root page : Int} {b r x l : Bool} {p : Int} (h : fnd zs root page = ((b, r, x, l, p), 0)) : 0 ≤ p ∧ p ≤ 63 := by
  unfold fnd at h
  by_cases h1 : fltR (one zs root page) = 0
  · rw [if_pos h1] at h
    by_cases h2 : lE (one zs root page) = true
    · rw [if_pos h2] at h
      by_cases h3 : pE (one zs root page) % 8 = 0
      · rw [if_pos h3] at h
        simp only [Prod.mk.injEq] at h
        have := pE_in (one zs root page)
        omega
      · rw [if_neg h3] at h
        simp only [Prod.mk.injEq] at h
        omega
    · rw [if_neg h2] at h
      by_cases h3 : fltR (two zs root page) = 0
      · rw [if_pos h3] at h
        by_cases h4 : lE (two zs root page) = true
        · rw [if_pos h4, entE] at h
          simp only [Prod.mk.injEq] at h
          have := pE_in (two zs root page)
          omega
        · rw [if_neg h4] at h
          simp only [Prod.mk.injEq] at h
          omega
      · rw [if_neg h3] at h
        simp only [Prod.mk.injEq] at h
        exact absurd h.2 h3
  · rw [if_neg h1] at h
    simp only [Prod.mk.injEq] at h
    exact absurd h.2 h1
theorem fltR_cases (z : Int) : fltR z = 0 ∨ fltR z = 3 ∨ fltR z = 4 := by
  unfold fltR; split
  · split <;> simp
  · simp
theorem fnd_fault (zs : List Int) (root page : Int) : (fnd zs root page).2 = 0 ∨ (fnd zs root page).2 = 3 ∨ (fnd zs root page).2 = 4 := by
  unfold fnd
  by_cases h1 : fltR (one zs root page) = 0
  · rw [if_pos h1]
    by_cases h2 : lE (one zs root page) = true
    · rw [if_pos h2]
      by_cases h3 : pE (one zs root page) % 8 = 0
      · rw [if_pos h3]; simp
      · rw [if_neg h3]; simp
    · rw [if_neg h2]
      by_cases h3 : fltR (two zs root page) = 0
      · rw [if_pos h3]
        by_cases h4 : lE (two zs root page) = true
        · rw [if_pos h4]; simp
        · rw [if_neg h4]; simp
      · rw [if_neg h3]; exact fltR_cases _
  · rw [if_neg h1]; exact fltR_cases _
/-- Walk of right memory and pages: a fault and nothing else; or a leaf that may be used so. -/
theorem wkd_two {zs : List Int} {root page : Int} {wr : Bool} (hk : chk zs = 0) (hr : pageB root = true) (hp : pageB page = true) :
    (∃ f, (3 ≤ f ∧ f ≤ 5) ∧ wkd zs root page wr = ((false, false, false, false, 0), f, 0)) ∨
    (∃ x p, (0 ≤ p ∧ p ≤ 63) ∧ (wr = true → x = true) ∧ wkd zs root page wr = ((true, true, x, true, p), 0, 0)) := by
  obtain ⟨⟨⟨b, r, x, l, p⟩, f⟩, hF⟩ : ∃ F, fnd zs root page = F := ⟨_, rfl⟩
  have hff := fnd_fault zs root page
  rw [hF] at hff
  rw [wkd, if_pos hk, if_pos ⟨hr, hp⟩, wkF, hF]
  by_cases h : f = 0
  · subst h
    obtain ⟨rfl, rfl⟩ := fnd_good hF
    simp only [if_true]
    by_cases hq : (r && (x || !wr)) = true
    · rw [if_pos hq]
      simp only [Bool.and_eq_true, Bool.or_eq_true, Bool.not_eq_true'] at hq
      obtain ⟨rfl, hx⟩ := hq
      refine .inr ⟨x, p, fnd_page hF, fun e => ?_, rfl⟩
      rcases hx with hx | hx
      · exact hx
      · rw [e] at hx; exact absurd hx (by decide)
    · rw [if_neg hq]
      exact .inl ⟨5, by omega, rfl⟩
  · simp only [h, if_false]
    have hff : f = 0 ∨ f = 3 ∨ f = 4 := hff
    exact .inl ⟨f, by omega, rfl⟩

theorem pC_page (z : Int) : pageB (pC z) = true := by
  unfold pC pageB; split <;> simp <;> omega
theorem page_of {p : Int} (h : 0 ≤ p ∧ p ≤ 63) : pageB p = true := by simp [pageB]; omega

/-- By the tables: no way; memory as it is; a fault of the tables; a page, which is remembered. -/
theorem byT_ways {zs : List Int} {b : Br} {d p : Int} {wr : Bool} (hk : chk zs = 0) (hp : 0 ≤ p ∧ p ≤ 63) :
    (∃ f, (2 ≤ f ∧ f ≤ 5) ∧ ∀ l, byT zs (b.with l) d p wr = (b.with l, 0, f)) ∨
    (∀ l, byT zs (b.with l) d p wr = (b.with l, p, 0)) ∨
    (∃ a x, (0 ≤ a ∧ a ≤ 63) ∧ (wr = true → x = true) ∧ ∀ l, byT zs (b.with l) d p wr = (b.with (flC l (d, p, a, true, x)), a, 0)) := by
  have hc : ∀ l, ctxW zs (b.with l) d = ctxW zs b d := fun l => rfl
  unfold byT
  by_cases h1 : vC (ctxW zs b d) = true
  · by_cases h2 : aC (ctxW zs b d) = true
    · exact .inr (.inl fun l => by rw [hc, if_pos h1, if_pos h2])
    · rcases wkd_two (wr := wr) hk (pC_page (ctxW zs b d)) (page_of hp) with ⟨f, hf, e⟩ | ⟨x, a, ha, hx, e⟩
      · refine .inl ⟨f, by omega, fun l => ?_⟩
        rw [hc, if_pos h1, if_neg h2, e]
        exact if_neg (show ¬ f = 0 by omega)
      · refine .inr (.inr ⟨a, x, ha, hx, fun l => ?_⟩)
        rw [hc, if_pos h1, if_neg h2, e]
        exact if_pos rfl
  · exact .inl ⟨2, by omega, fun l => by rw [hc, if_neg h1]⟩
theorem with_self (b : Br) : b.with b.cache = b := rfl

theorem fnd_line {l : List Ln} {d p : Int} (h : 0 ≤ fndC l d p) : (fndC l d p).toNat < l.length ∧ hasB d p (lineC l d p) = true ∧ lineC l d p ∈ l := by
  unfold lineC
  unfold fndC at h ⊢
  cases e : l.findIdx? (hasB d p) with
  | none => rw [e] at h; exact absurd h (by decide)
  | some i =>
    rw [List.findIdx?_eq_some_iff_getElem] at e
    obtain ⟨hi, h1, _⟩ := e
    have hn : ((i : Int)).toNat = i := by simp
    simp only [hn]
    exact ⟨hi, by rw [lth_get hi]; exact h1, by rw [lth_get hi]; exact List.getElem_mem hi⟩
theorem line_at {l : List Ln} (h : chkC l = 0) {x : Ln} (hx : x ∈ l) : (0 ≤ x.2.2.1 ∧ x.2.2.1 ≤ 63) ∧ x.2.2.2.1 = true := by
  obtain ⟨g1, g2, _⟩ := chkC_zero.1 h
  obtain ⟨a, b⟩ := g2 x hx
  simp only [rngB, Bool.and_eq_true, decide_eq_true_eq] at a
  exact ⟨by omega, b⟩
/-- A line that is filled in: there is none of that key, so it goes well. -/
theorem fl_ok {l : List Ln} {d p a : Int} {x : Bool} (hl : chkC l = 0) (hd : 0 ≤ d ∧ d ≤ 7) (hp : 0 ≤ p ∧ p ≤ 63) (ha : 0 ≤ a ∧ a ≤ 63) (hn : ¬ 0 ≤ fndC l d p) : flE l (d, p, a, true, x) = 0 := by
  have h1 : chkC [((d, p, a, true, x) : Ln)] = 0 := chkC_zero.2 ⟨by simp, fun y hy => by
    obtain rfl := List.mem_singleton.1 hy
    exact ⟨by simp [rngB]; omega, rfl⟩, List.pairwise_singleton _ _⟩
  rw [flE, if_pos hl, if_pos h1, if_neg hn]

/-- Through, of right things: the ways. -/
theorem goT_ways {zs : List Int} {b : Br} {d p : Int} {wr : Bool} (h : thE zs b d p = 0) :
    (∃ f, (1 ≤ f ∧ f ≤ 5) ∧ goT zs b d p wr = (b, 0, f)) ∨
    (∃ k, (0 ≤ k ∧ k ≤ 63) ∧ goT zs b d p wr = (b, k, 0) ∧ (b.mode = 2 → 0 ≤ fndC b.cache d p → (lineC b.cache d p).2.2.1 = k ∧ (wr && !(lineC b.cache d p).2.2.2.2) = false)) ∨
    (∃ a x, b.mode = 2 ∧ ¬ 0 ≤ fndC b.cache d p ∧ (0 ≤ a ∧ a ≤ 63) ∧ (wr = true → x = true) ∧ flE b.cache (d, p, a, true, x) = 0 ∧ goT zs b d p wr = (b.with (flC b.cache (d, p, a, true, x)), a, 0)) := by
  obtain ⟨hk, hb, hd, hp⟩ := thE_ok h
  obtain ⟨m1, _, _, hc, _, _⟩ := chkB_ok hb
  unfold goT
  by_cases h0 : b.mode = 0
  · rw [if_pos h0]; exact .inl ⟨1, by omega, rfl⟩
  rw [if_neg h0]
  by_cases h1 : b.mode = 1
  · rw [if_pos h1]; exact .inr (.inl ⟨p, hp, rfl, fun e => by omega⟩)
  rw [if_neg h1]
  by_cases hf : 0 ≤ fndC b.cache d p
  · rw [if_pos hf]
    by_cases hq : (wr && !(lineC b.cache d p).2.2.2.2) = true
    · rw [if_pos hq]; exact .inl ⟨5, by omega, rfl⟩
    · rw [if_neg hq]
      exact .inr (.inl ⟨_, (line_at hc (fnd_line hf).2.2).1, rfl, fun _ _ => ⟨rfl, by simpa using hq⟩⟩)
  · rw [if_neg hf]
    rcases byT_ways (b := b) (d := d) (wr := wr) hk hp with ⟨f, hff, e⟩ | e | ⟨a, x, ha, hx, e⟩
    · exact .inl ⟨f, by omega, e b.cache⟩
    · exact .inr (.inl ⟨p, hp, e b.cache, fun _ g => absurd g hf⟩)
    · exact .inr (.inr ⟨a, x, by omega, hf, ha, hx, fl_ok hc hd hp ha hf, e b.cache⟩)
theorem goT_good {zs : List Int} {b c : Br} {d p k f : Int} {wr : Bool} (h : thE zs b d p = 0) (hg : goT zs b d p wr = (c, k, f)) :
    chkB c = 0 ∧ (¬ f = 0 → c = b) ∧ (0 ≤ k ∧ k ≤ 63) ∧ (0 ≤ f ∧ f ≤ 5) ∧ ∃ l, c = b.with l := by
  obtain ⟨hk, hb, hd, hp⟩ := thE_ok h
  rcases goT_ways (wr := wr) h with ⟨f', hf, e⟩ | ⟨k', hk', e, _⟩ | ⟨a, x, hm, hn, ha, hx, hl, e⟩
  all_goals
    rw [e] at hg
    simp only [Prod.mk.injEq] at hg
    obtain ⟨rfl, rfl, rfl⟩ := hg
  · exact ⟨hb, fun _ => rfl, by omega, by omega, _, (with_self b).symm⟩
  · exact ⟨hb, fun _ => rfl, hk', by omega, _, (with_self b).symm⟩
  · exact ⟨chkB_with hb (fill_good hl).1, fun g => absurd rfl g, ha, by omega, _, rfl⟩
/-- Who was let through is let through again, to the same page, whatever memory says. -/
theorem goT_again {zs ns : List Int} {b c : Br} {d p k : Int} {wr : Bool} (h : thE zs b d p = 0) (hg : goT zs b d p wr = (c, k, 0)) (hm : b.mode = 2) (hf : 0 ≤ fndC c.cache d p) : goT ns c d p wr = (c, k, 0) := by
  obtain ⟨hk, hb, hd, hp⟩ := thE_ok h
  rcases goT_ways (wr := wr) h with ⟨f', hf', e⟩ | ⟨k', hk', e, hl⟩ | ⟨a, x, _, hn, ha, hx, hl, e⟩
  all_goals
    rw [e] at hg
    simp only [Prod.mk.injEq] at hg
  · omega
  · obtain ⟨rfl, rfl, -⟩ := hg
    obtain ⟨l1, l2⟩ := hl hm hf
    unfold goT
    rw [if_neg (by omega), if_neg (by omega), if_pos hf, l2, l1]
    rfl
  · obtain ⟨rfl, rfl, -⟩ := hg
    have hfi := (fill_good hl).2.1
    have hli : lineC (flC b.cache (d, p, a, true, x)) d p = (d, p, a, true, x) := by
      unfold lineC
      rw [show fndC (flC b.cache (d, p, a, true, x)) d p = ((oldC b.cache).length : Int) from hfi, flC_ok hl]
      rw [Int.toNat_natCast, lth_get (by simp)]
      simp
    have hcache : (b.with (flC b.cache (d, p, a, true, x))).cache = flC b.cache (d, p, a, true, x) := rfl
    have hmode : (b.with (flC b.cache (d, p, a, true, x))).mode = 2 := hm
    unfold goT
    rw [if_neg (by omega), if_neg (by omega), if_pos hf, hcache, hli]
    have hq : (wr && !x) = false := by
      cases wr
      · rfl
      · rw [hx rfl]; rfl
    rw [hq]
    rfl
theorem drop_none {l : List Ln} {d p : Int} (h : chkC l = 0) : ¬ 0 ≤ fndC (drC l 3 d p) d p := by
  have he : drE l 3 = 0 := by rw [drE, if_pos h, if_pos (by omega)]
  have : fndC (drC l 3 d p) d p < 0 := by
    rw [fndC_neg]
    intro x hx
    rw [drC, if_pos he] at hx
    have := (List.mem_filter.1 hx).2
    simp only [goesB] at this
    cases hq : hasB d p x
    · rfl
    · simp only [hasB, Bool.and_eq_true, decide_eq_true_eq] at hq
      simp [hq.1, hq.2] at this
  omega
/-- Once it is dropped all is as memory says. -/
theorem goT_plain {ns : List Int} {b : Br} {l : List Ln} {d p : Int} {wr : Bool} (hk : chk ns = 0) (hp : 0 ≤ p ∧ p ≤ 63) (hn : ¬ 0 ≤ fndC l d p) : (goT ns (b.with l) d p wr).2 = (goT ns (b.with []) d p wr).2 := by
  unfold goT
  have hm : ∀ l, (b.with l).mode = b.mode := fun l => rfl
  have hc : ∀ l, (b.with l).cache = l := fun l => rfl
  rw [hm, hm, hc, hc]
  by_cases h0 : b.mode = 0
  · rw [if_pos h0, if_pos h0]
  rw [if_neg h0, if_neg h0]
  by_cases h1 : b.mode = 1
  · rw [if_pos h1, if_pos h1]
  rw [if_neg h1, if_neg h1, if_neg hn, if_neg (show ¬ 0 ≤ fndC [] d p by simp [fndC])]
  rcases byT_ways (b := b) (d := d) (wr := wr) hk hp with ⟨f, _, e⟩ | e | ⟨a, x, _, _, e⟩
  all_goals rw [e, e]
end Go.Proofs.Ytefcdcneenjbgab
/-
  The bridge, as data alone: what Tell, Obey answer; faults in their ring; orders one by one.
-/
namespace Go.Proofs.Ytefcdcneenjbgab
open Go.RowKit

/-- What Tell answers: the error, the words, the bridge. -/
def tlE (zs : List Int) (b : Br) (c d p : Int) : Int := if bothB zs b = 0 then fE c d p else bothB zs b
def fullB (b : Br) : Bool := b.lost || decide (lenR b.fh b.ft = 7)
def tlM (zs : List Int) (b : Br) (c d p : Int) (x : Bool) : List Int :=
  if tlE zs b c d p = 0 then (if fullB b = true then zs else zs.set (b.fp * 8 + b.ft).toNat (fW c d p x)) else []
def tlB (zs : List Int) (b : Br) (c d p : Int) : Br :=
  if tlE zs b c d p = 0 then (if fullB b = true then { b with lost := true } else { b with ft := (b.ft + 1) % 8 }) else B0

/-- What Obey answers: the error, the bridge. -/
def obE (zs : List Int) (b : Br) : Int := if bothB zs b = 0 then (if b.stop = true then 6 else if b.oh = b.ot then 6 else 0) else bothB zs b
def ordW (zs : List Int) (b : Br) : Int := nth zs (b.op * 8 + b.oh).toNat
def obB (zs : List Int) (b : Br) : Br :=
  if obE zs b = 0 then
    (if roE (ordW zs b) = 0 then { b with oh := (b.oh + 1) % 8, cache := drC b.cache (roO (ordW zs b)).1 (roO (ordW zs b)).2.1 (roO (ordW zs b)).2.2, fen := if (roO (ordW zs b)).1 = 0 then (b.fen + 1) % 1000 else b.fen }
    else { b with stop := true })
  else B0

theorem tlE_ok {zs : List Int} {b : Br} {c d p : Int} (h : tlE zs b c d p = 0) : chk zs = 0 ∧ chkB b = 0 ∧ fE c d p = 0 := by
  unfold tlE at h
  by_cases hb : bothB zs b = 0
  · rw [if_pos hb] at h
    exact ⟨(bothB_ok hb).1, (bothB_ok hb).2, h⟩
  · rw [if_neg hb] at h; exact absurd h hb
theorem fW_word {c d p : Int} (x : Bool) (h : fE c d p = 0) : wordB (fW c d p x) = true := by
  have := (rfE_ok (f_back (x := x) h).1).1
  simp [wordB]; omega
theorem tl_push {zs : List Int} {b : Br} {c d p : Int} (x : Bool) (h : tlE zs b c d p = 0) : psE zs b.fp b.fh b.ft (fW c d p x) = if lenR b.fh b.ft = 7 then 1 else 0 := by
  obtain ⟨h1, h2, h3⟩ := tlE_ok h
  obtain ⟨_, _, _, _, _, h6⟩ := chkB_ok h2
  rw [psE, if_pos (bothR_mk h1 h6), if_pos (fW_word x h3)]
theorem tl_good {zs : List Int} {b : Br} {c d p : Int} (x : Bool) (h : tlE zs b c d p = 0) : chk (tlM zs b c d p x) = 0 ∧ chkB (tlB zs b c d p) = 0 ∧ (tlB zs b c d p).lost = fullB b := by
  obtain ⟨h1, h2, h3⟩ := tlE_ok h
  obtain ⟨g1, g2, g3, g4, g5, g6⟩ := chkB_ok h2
  rw [tlM, if_pos h, tlB, if_pos h]
  by_cases hf : fullB b = true
  · rw [if_pos hf, if_pos hf]
    exact ⟨h1, chkB_mk g1 g2 g3 g4 g5 g6, hf.symm⟩
  · rw [if_neg hf, if_neg hf]
    obtain ⟨r1, r2, r3⟩ := chkR_ok g6
    have hl : b.lost = false := by
      simp only [fullB, Bool.or_eq_true, not_or] at hf
      simpa using hf.1
    refine ⟨chk_set h1 (fW_word x h3), chkB_mk g1 g2 g3 g4 g5 (chkR_mk r1 r2 ?_), ?_⟩
    · simp [stepR]; omega
    · have : fullB b = false := by simpa using hf
      rw [this]; exact hl

theorem obE_ok {zs : List Int} {b : Br} (h : obE zs b = 0) : chk zs = 0 ∧ chkB b = 0 ∧ b.stop = false ∧ ¬ b.oh = b.ot := by
  unfold obE at h
  by_cases hb : bothB zs b = 0
  · rw [if_pos hb] at h
    by_cases hs : b.stop = true
    · rw [if_pos hs] at h; exact absurd h (by decide)
    · rw [if_neg hs] at h
      by_cases he : b.oh = b.ot
      · rw [if_pos he] at h; exact absurd h (by decide)
      · exact ⟨(bothB_ok hb).1, (bothB_ok hb).2, by simpa using hs, he⟩
  · rw [if_neg hb] at h; exact absurd h hb
theorem obE_late {zs : List Int} {b : Br} (h1 : chk zs = 0) (h2 : chkB b = 0) (h : ¬ obE zs b = 0) : obE zs b = 6 ∧ (b.stop = true ∨ b.oh = b.ot) := by
  unfold obE at h ⊢
  rw [if_pos (bothB_mk h1 h2)] at h ⊢
  by_cases hs : b.stop = true
  · rw [if_pos hs]; exact ⟨rfl, .inl hs⟩
  · rw [if_neg hs] at h ⊢
    by_cases he : b.oh = b.ot
    · rw [if_pos he]; exact ⟨rfl, .inr he⟩
    · rw [if_neg he] at h; exact absurd rfl h
theorem ob_pop {zs : List Int} {b : Br} (h : obE zs b = 0) : ppE zs b.op b.oh b.ot = 0 ∧ ppV zs b.op b.oh b.ot = ordW zs b ∧ ppR zs b.op b.oh b.ot = (b.op, (b.oh + 1) % 8, b.ot) := by
  obtain ⟨h1, h2, _, h4⟩ := obE_ok h
  obtain ⟨_, _, _, _, g5, _⟩ := chkB_ok h2
  have e : ppE zs b.op b.oh b.ot = 0 := by rw [ppE, if_pos (bothR_mk h1 g5), if_neg h4]
  exact ⟨e, by rw [ppV, if_pos e]; rfl, by rw [ppR, if_pos e]⟩
/-- A bad order stops all, and nothing else. -/
theorem ob_bad {zs : List Int} {b : Br} (h : obE zs b = 0) (hr : ¬ roE (ordW zs b) = 0) : obB zs b = { b with stop := true } ∧ chkB (obB zs b) = 0 := by
  obtain ⟨_, h2, _, _⟩ := obE_ok h
  obtain ⟨g1, g2, g3, g4, g5, g6⟩ := chkB_ok h2
  have e : obB zs b = { b with stop := true } := by rw [obB, if_pos h, if_neg hr]
  rw [e]
  exact ⟨rfl, chkB_mk g1 g2 g3 g4 g5 g6⟩
/-- A right one is obeyed. -/
theorem ob_right {zs : List Int} {b : Br} {k d p : Int} (h : obE zs b = 0) (hr : roE (ordW zs b) = 0) (ho : roO (ordW zs b) = (k, d, p)) :
    obB zs b = { b with oh := (b.oh + 1) % 8, cache := drC b.cache k d p, fen := if k = 0 then (b.fen + 1) % 1000 else b.fen } ∧ chkB (obB zs b) = 0 ∧ drE b.cache k = 0 ∧ (0 ≤ k ∧ k ≤ 3) ∧ lenR ((b.oh + 1) % 8) b.ot = lenR b.oh b.ot - 1 := by
  obtain ⟨_, h2, _, h4⟩ := obE_ok h
  obtain ⟨g1, g2, g3, g4, g5, g6⟩ := chkB_ok h2
  obtain ⟨r1, r2, r3⟩ := chkR_ok g5
  have hk : 0 ≤ k ∧ k ≤ 3 := by
    have := (oE_ok (o_read hr ho).1).1
    omega
  have hd : drE b.cache k = 0 := by rw [drE, if_pos g4, if_pos hk]
  have e : obB zs b = { b with oh := (b.oh + 1) % 8, cache := drC b.cache k d p, fen := if k = 0 then (b.fen + 1) % 1000 else b.fen } := by
    rw [obB, if_pos h, if_pos hr, ho]
  refine ⟨e, ?_, hd, hk, ?_⟩
  · rw [e]
    refine chkB_mk g1 g2 ?_ (drop_good hd) (chkR_mk r1 ?_ r3) g6
    · show 0 ≤ (if k = 0 then (b.fen + 1) % 1000 else b.fen) ∧ (if k = 0 then (b.fen + 1) % 1000 else b.fen) ≤ 999
      split <;> omega
    · simp [stepR]; omega
  · have a := stepR_in r2
    have c := stepR_in r3
    unfold lenR; omega
theorem ob_fence (n : Int) : ¬ (n + 1) % 1000 = n := by omega
/-- What is left of the lines: nothing new; behind a DropAll nothing, behind a Fence all. -/
theorem left_in {l : List Ln} {k d p : Int} {x : Ln} (h : x ∈ drC l k d p) : x ∈ l ∧ ¬ k = 1 := by
  unfold drC at h
  by_cases he : drE l k = 0
  · rw [if_pos he] at h
    obtain ⟨h1, h2⟩ := List.mem_filter.1 h
    refine ⟨h1, fun e => ?_⟩
    subst e
    simp [goesB] at h2
  · rw [if_neg he] at h; exact absurd h (by simp)
theorem left_all {l : List Ln} {d p : Int} (h : chkC l = 0) : drC l 0 d p = l := by
  have he : drE l 0 = 0 := by rw [drE, if_pos h, if_pos (by omega)]
  rw [drC, if_pos he, List.filter_eq_self]
  intro x _
  simp [goesB]
end Go.Proofs.Ytefcdcneenjbgab
/-
  Package dma, as data alone: what Check, Do answer; a burst word by word, page by page.
-/
namespace Go.Proofs.Ytefcdcneenjbgab
open Go.RowKit

/-- A touch. -/
abbrev Tc := Int × Int × Int × Bool × Int
def tth (l : List Tc) (i : Nat) : Tc := l.getD i (0, 0, 0, false, 0)
theorem tth_get {l : List Tc} {i : Nat} (h : i < l.length) : tth l i = l[i] := by simp [tth, h]

/-- What Check says of an ask. -/
def needA (wr : Bool) (n : Int) : Int := if wr = true then n else 0
def hasW (a n : Int) : Bool := decide (0 ≤ a ∧ a ≤ 512 - n)
def ckA (d a n : Int) (wr : Bool) (ds : List Int) : Int :=
  if 1 ≤ n ∧ n ≤ 20 then (if (0 ≤ d ∧ d ≤ 7) ∧ hasW a n = true then (if (ds.length : Int) = needA wr n then (if ds.all wordB = true then 0 else 2) else 3) else 4) else 1
def doE (zs : List Int) (b : Br) (d a n : Int) (wr : Bool) (ds : List Int) : Int := if bothB zs b = 0 then ckA d a n wr ds else bothB zs b

theorem ckA_ok {d a n : Int} {wr : Bool} {ds : List Int} (h : ckA d a n wr ds = 0) : (1 ≤ n ∧ n ≤ 20) ∧ (0 ≤ d ∧ d ≤ 7) ∧ (0 ≤ a ∧ a ≤ 512 - n) ∧ (ds.length : Int) = needA wr n ∧ ds.all wordB = true := by
  unfold ckA at h
  by_cases h1 : 1 ≤ n ∧ n ≤ 20
  · rw [if_pos h1] at h
    by_cases h2 : (0 ≤ d ∧ d ≤ 7) ∧ hasW a n = true
    · rw [if_pos h2] at h
      by_cases h3 : (ds.length : Int) = needA wr n
      · rw [if_pos h3] at h
        by_cases h4 : ds.all wordB = true
        · exact ⟨h1, h2.1, by simpa [hasW] using h2.2, h3, h4⟩
        · rw [if_neg h4] at h; exact absurd h (by decide)
      · rw [if_neg h3] at h; exact absurd h (by decide)
    · rw [if_neg h2] at h; exact absurd h (by decide)
  · rw [if_neg h1] at h; exact absurd h (by decide)
theorem ckA_mk {d a n : Int} {wr : Bool} {ds : List Int} (h1 : 1 ≤ n ∧ n ≤ 20) (h2 : 0 ≤ d ∧ d ≤ 7) (h3 : 0 ≤ a ∧ a ≤ 512 - n) (h4 : (ds.length : Int) = needA wr n) (h5 : ds.all wordB = true) : ckA d a n wr ds = 0 := by
  rw [ckA, if_pos h1, if_pos ⟨h2, by simpa [hasW] using h3⟩, if_pos h4, if_pos h5]
theorem doE_ok {zs : List Int} {b : Br} {d a n : Int} {wr : Bool} {ds : List Int} (h : doE zs b d a n wr ds = 0) : chk zs = 0 ∧ chkB b = 0 ∧ ckA d a n wr ds = 0 := by
  unfold doE at h
  by_cases hb : bothB zs b = 0
  · rw [if_pos hb] at h; exact ⟨(bothB_ok hb).1, (bothB_ok hb).2, h⟩
  · rw [if_neg hb] at h; exact absurd h hb
theorem doE_mk {zs : List Int} {b : Br} {d a n : Int} {wr : Bool} {ds : List Int} (h1 : chk zs = 0) (h2 : chkB b = 0) (h3 : ckA d a n wr ds = 0) : doE zs b d a n wr ds = 0 := by
  rw [doE, if_pos (bothB_mk h1 h2), h3]

/-- Memory, bridge, what is told so far. -/
structure St where
  zs : List Int
  b : Br
  dat : List Int
  tch : List Tc
/-- The word of memory to which a word that is seen comes. -/
def plc (k : Int) (x : Nat) : Int := k * 8 + ((x % 8 : Nat) : Int)
theorem plc_in {k : Int} (x : Nat) (h : 0 ≤ k ∧ k ≤ 63) : 0 ≤ plc k x ∧ plc k x < 512 := by unfold plc; omega
def wdM (wr : Bool) (ds : List Int) (o : Nat) (k : Int) (x : Nat) (zs : List Int) : List Int := if wr = true then zs.set (plc k x).toNat (nth ds (x - o)) else zs
/-- One word is touched. -/
def wd (d : Int) (wr : Bool) (ds : List Int) (o : Nat) (k : Int) (x : Nat) (s : St) : St :=
  ⟨wdM wr ds o k x s.zs, s.b, if wr = true then s.dat else s.dat ++ [nth s.zs (plc k x).toNat], s.tch ++ [(d, (x : Int), plc k x, wr, nth (wdM wr ds o k x s.zs) (plc k x).toNat)]⟩
/-- Some words of one page. -/
def wds (d : Int) (wr : Bool) (ds : List Int) (o : Nat) (k : Int) : Nat → Nat → St → St
  | 0, _, s => s
  | m + 1, x, s => wds d wr ds o k m (x + 1) (wd d wr ds o k x s)
/-- A burst, word by word. -/
def runW (d : Int) (wr : Bool) (ds : List Int) (o : Nat) : Nat → Nat → Int → St → St × Int
  | 0, _, _, s => (s, 0)
  | m + 1, x, k, s =>
    if x = o ∨ x % 8 = 0 then
      (if (goT s.zs s.b d ((x / 8 : Nat) : Int) wr).2.2 = 0 then runW d wr ds o m (x + 1) (goT s.zs s.b d ((x / 8 : Nat) : Int) wr).2.1 (wd d wr ds o (goT s.zs s.b d ((x / 8 : Nat) : Int) wr).2.1 x ⟨s.zs, (goT s.zs s.b d ((x / 8 : Nat) : Int) wr).1, s.dat, s.tch⟩)
      else (⟨tlM s.zs (goT s.zs s.b d ((x / 8 : Nat) : Int) wr).1 (goT s.zs s.b d ((x / 8 : Nat) : Int) wr).2.2 d ((x / 8 : Nat) : Int) wr, tlB s.zs (goT s.zs s.b d ((x / 8 : Nat) : Int) wr).1 (goT s.zs s.b d ((x / 8 : Nat) : Int) wr).2.2 d ((x / 8 : Nat) : Int), s.dat, s.tch⟩, (goT s.zs s.b d ((x / 8 : Nat) : Int) wr).2.2))
    else runW d wr ds o m (x + 1) k (wd d wr ds o k x s)
/-- What Do answers. -/
def doR (zs : List Int) (b : Br) (d a n : Int) (wr : Bool) (ds : List Int) : St × Int :=
  if doE zs b d a n wr ds = 0 then runW d wr ds a.toNat n.toNat a.toNat 0 ⟨zs, b, [], []⟩ else (⟨[], B0, [], []⟩, 0)

theorem runW_zero (d : Int) (wr : Bool) (ds : List Int) (o x : Nat) (k : Int) (s : St) : runW d wr ds o 0 x k s = (s, 0) := rfl
theorem runW_page {d : Int} {wr : Bool} {ds : List Int} {o m x : Nat} {k k' : Int} {s : St} {c : Br} (hx : x = o ∨ x % 8 = 0) (hg : goT s.zs s.b d ((x / 8 : Nat) : Int) wr = (c, k', 0)) :
    runW d wr ds o (m + 1) x k s = runW d wr ds o m (x + 1) k' (wd d wr ds o k' x ⟨s.zs, c, s.dat, s.tch⟩) := by
  rw [runW, if_pos hx, hg, if_pos rfl]
theorem runW_fault {d : Int} {wr : Bool} {ds : List Int} {o m x : Nat} {k k' f : Int} {s : St} {c : Br} (hx : x = o ∨ x % 8 = 0) (hg : goT s.zs s.b d ((x / 8 : Nat) : Int) wr = (c, k', f)) (hf : ¬ f = 0) :
    runW d wr ds o (m + 1) x k s = (⟨tlM s.zs c f d ((x / 8 : Nat) : Int) wr, tlB s.zs c f d ((x / 8 : Nat) : Int), s.dat, s.tch⟩, f) := by
  rw [runW, if_pos hx, hg, if_neg hf]
theorem runW_word {d : Int} {wr : Bool} {ds : List Int} {o m x : Nat} {k : Int} {s : St} (hx : ¬ (x = o ∨ x % 8 = 0)) :
    runW d wr ds o (m + 1) x k s = runW d wr ds o m (x + 1) k (wd d wr ds o k x s) := by
  rw [runW, if_neg hx]
theorem runW_words {d : Int} {wr : Bool} {ds : List Int} {o : Nat} {k : Int} : ∀ (j m x : Nat) (s : St), (∀ i, i < j → ¬ (x + i = o ∨ (x + i) % 8 = 0)) →
    runW d wr ds o (j + m) x k s = runW d wr ds o m (x + j) k (wds d wr ds o k j x s)
  | 0, m, x, s, _ => by rw [Nat.zero_add, Nat.add_zero]; rfl
  | j + 1, m, x, s, h => by
    rw [show j + 1 + m = (j + m) + 1 by omega, runW_word (by simpa using h 0 (by omega)), runW_words j m (x + 1) _ (fun i hi => by have := h (i + 1) (by omega); rw [show x + 1 + i = x + (i + 1) by omega]; exact this), show x + 1 + j = x + (j + 1) by omega]
    rfl
/-- A page that is let through. -/
theorem page_run {d : Int} {wr : Bool} {ds : List Int} {o m x : Nat} {k k' : Int} {s : St} {c : Br} (hm : 0 < m) (ho : o ≤ x) (hx : x = o ∨ x % 8 = 0) (hg : goT s.zs s.b d ((x / 8 : Nat) : Int) wr = (c, k', 0)) :
    runW d wr ds o m x k s = runW d wr ds o (m - min m (8 - x % 8)) (x + min m (8 - x % 8)) k' (wds d wr ds o k' (min m (8 - x % 8)) x ⟨s.zs, c, s.dat, s.tch⟩) := by
  obtain ⟨j, hj⟩ : ∃ j, min m (8 - x % 8) = j + 1 := ⟨min m (8 - x % 8) - 1, by omega⟩
  obtain ⟨r, hr⟩ : ∃ r, m = j + r + 1 := ⟨m - (j + 1), by omega⟩
  rw [hj]
  subst hr
  rw [runW_page hx hg, runW_words j r (x + 1) _ (fun i hi => by omega), show j + r + 1 - (j + 1) = r by omega, show x + 1 + j = x + (j + 1) by omega]
  rfl
/-- At a page's first word it is all one where the last page lay. -/
theorem runW_at {d : Int} {wr : Bool} {ds : List Int} {o m x : Nat} {s : St} (h : m = 0 ∨ x = o ∨ x % 8 = 0) (k k2 : Int) : runW d wr ds o m x k s = runW d wr ds o m x k2 s := by
  cases m with
  | zero => rfl
  | succ m =>
    have hx : x = o ∨ x % 8 = 0 := by rcases h with h | h; omega; exact h
    rw [runW, runW, if_pos hx, if_pos hx]

/-- Right memory, a right bridge. -/
def GoodS (s : St) : Prop := chk s.zs = 0 ∧ chkB s.b = 0
theorem wdM_good {zs ds : List Int} {wr : Bool} {o x : Nat} {k : Int} (h : chk zs = 0) (hw : wr = true → wordB (nth ds (x - o)) = true) : chk (wdM wr ds o k x zs) = 0 := by
  unfold wdM
  cases wr
  · exact h
  · rw [if_pos rfl]; exact chk_set h (hw rfl)
theorem wd_good {d : Int} {wr : Bool} {ds : List Int} {o x : Nat} {k : Int} {s : St} (h : GoodS s) (hw : wr = true → wordB (nth ds (x - o)) = true) : GoodS (wd d wr ds o k x s) := ⟨wdM_good h.1 hw, h.2⟩
theorem all_nth {ds : List Int} (h : ds.all wordB = true) {i : Nat} (hi : i < ds.length) : wordB (nth ds i) = true := by
  rw [List.all_eq_true] at h
  rw [nth, List.getD_eq_getElem?_getD, List.getElem?_eq_getElem hi]
  exact h _ (List.getElem_mem hi)
theorem wds_good {d : Int} {wr : Bool} {ds : List Int} {o : Nat} {k : Int} : ∀ (j x : Nat) (s : St), GoodS s → (∀ i, i < j → wr = true → wordB (nth ds (x + i - o)) = true) → GoodS (wds d wr ds o k j x s)
  | 0, _, _, h, _ => h
  | j + 1, x, s, h, hw => wds_good j (x + 1) _ (wd_good h (hw 0 (by omega))) (fun i hi => by have := hw (i + 1) (by omega); rw [show x + 1 + i - o = x + (i + 1) - o by omega]; exact this)
theorem wds_snoc {d : Int} {wr : Bool} {ds : List Int} {o : Nat} {k : Int} : ∀ (j x : Nat) (s : St), wds d wr ds o k (j + 1) x s = wd d wr ds o k (x + j) (wds d wr ds o k j x s)
  | 0, _, _ => rfl
  | j + 1, x, s => by
    rw [wds, wds_snoc j (x + 1), show x + 1 + j = x + (j + 1) by omega]
    rfl
theorem wds_b {d : Int} {wr : Bool} {ds : List Int} {o : Nat} {k : Int} : ∀ (j x : Nat) (s : St), (wds d wr ds o k j x s).b = s.b
  | 0, _, _ => rfl
  | j + 1, x, s => by rw [wds, wds_b j]; rfl
theorem wds_len {d : Int} {wr : Bool} {ds : List Int} {o : Nat} {k : Int} : ∀ (j x : Nat) (s : St), (wds d wr ds o k j x s).tch.length = s.tch.length + j
  | 0, _, _ => rfl
  | j + 1, x, s => by rw [wds, wds_len j]; simp [wd]; omega
theorem wds_zlen {d : Int} {wr : Bool} {ds : List Int} {o : Nat} {k : Int} : ∀ (j x : Nat) (s : St), (wds d wr ds o k j x s).zs.length = s.zs.length
  | 0, _, _ => rfl
  | j + 1, x, s => by rw [wds, wds_zlen j]; simp only [wd, wdM]; split <;> simp
theorem wds_dlen {d : Int} {wr : Bool} {ds : List Int} {o : Nat} {k : Int} : ∀ (j x : Nat) (s : St), (wds d wr ds o k j x s).dat.length = s.dat.length + (if wr = true then 0 else j)
  | 0, _, _ => by simp [wds]
  | j + 1, x, s => by rw [wds, wds_dlen j]; cases wr <;> simp [wd]; omega
end Go.Proofs.Ytefcdcneenjbgab
/-
  A variable of twelve cells (a bridge): its cells and marks in one line; stores into it.
-/
namespace Go.Proofs.Ytefcdcneenjbgab
open Go.RowKit

theorem Box.twelve {w : World} {n : Nat} {t : TypeId} {a0 a1 a2 a3 a4 a5 a6 a7 a8 a9 a10 a11 : Value} (h : Box w n t #[a0, a1, a2, a3, a4, a5, a6, a7, a8, a9, a10, a11]) :
    (w.cell? ⟨n, 0, none⟩ = some a0 ∧ w.cell? ⟨n, 1, none⟩ = some a1 ∧ w.cell? ⟨n, 2, none⟩ = some a2 ∧ w.cell? ⟨n, 3, none⟩ = some a3 ∧ w.cell? ⟨n, 4, none⟩ = some a4 ∧ w.cell? ⟨n, 5, none⟩ = some a5 ∧ w.cell? ⟨n, 6, none⟩ = some a6 ∧ w.cell? ⟨n, 7, none⟩ = some a7 ∧ w.cell? ⟨n, 8, none⟩ = some a8 ∧ w.cell? ⟨n, 9, none⟩ = some a9 ∧ w.cell? ⟨n, 10, none⟩ = some a10 ∧ w.cell? ⟨n, 11, none⟩ = some a11) ∧ n < w.heap.size :=
  ⟨⟨h.cell 0, h.cell 1, h.cell 2, h.cell 3, h.cell 4, h.cell 5, h.cell 6, h.cell 7, h.cell 8, h.cell 9, h.cell 10, h.cell 11⟩, h.lt⟩
theorem Box.marks {w : World} {n : Nat} {t : TypeId} {a0 a1 a2 a3 a4 a5 a6 a7 a8 a9 a10 a11 : Value} (h : Box w n t #[a0, a1, a2, a3, a4, a5, a6, a7, a8, a9, a10, a11]) :
    w.frozen? ⟨n, 0, none⟩ = false ∧ w.frozen? ⟨n, 1, none⟩ = false ∧ w.frozen? ⟨n, 2, none⟩ = false ∧ w.frozen? ⟨n, 3, none⟩ = false ∧ w.frozen? ⟨n, 4, none⟩ = false ∧ w.frozen? ⟨n, 5, none⟩ = false ∧ w.frozen? ⟨n, 6, none⟩ = false ∧ w.frozen? ⟨n, 7, none⟩ = false ∧ w.frozen? ⟨n, 8, none⟩ = false ∧ w.frozen? ⟨n, 9, none⟩ = false ∧ w.frozen? ⟨n, 10, none⟩ = false ∧ w.frozen? ⟨n, 11, none⟩ = false :=
  ⟨h.frozen 0, h.frozen 1, h.frozen 2, h.frozen 3, h.frozen 4, h.frozen 5, h.frozen 6, h.frozen 7, h.frozen 8, h.frozen 9, h.frozen 10, h.frozen 11⟩
theorem Box.set12 {w : World} {n : Nat} {t : TypeId} {a0 a1 a2 a3 a4 a5 a6 a7 a8 a9 a10 a11 : Value} (h : Box w n t #[a0, a1, a2, a3, a4, a5, a6, a7, a8, a9, a10, a11]) (u0 u1 u2 u3 u4 u5 u6 u7 u8 u9 u10 u11 : Value) :
    Box ((((((((((((w.setCell ⟨n, 0, none⟩ u0).setCell ⟨n, 1, none⟩ u1).setCell ⟨n, 2, none⟩ u2).setCell ⟨n, 3, none⟩ u3).setCell ⟨n, 4, none⟩ u4).setCell ⟨n, 5, none⟩ u5).setCell ⟨n, 6, none⟩ u6).setCell ⟨n, 7, none⟩ u7).setCell ⟨n, 8, none⟩ u8).setCell ⟨n, 9, none⟩ u9).setCell ⟨n, 10, none⟩ u10).setCell ⟨n, 11, none⟩ u11) n t #[u0, u1, u2, u3, u4, u5, u6, u7, u8, u9, u10, u11] := by
  have h0 : Box _ n t #[u0, a1, a2, a3, a4, a5, a6, a7, a8, a9, a10, a11] := h.set 0 u0
  have h1 : Box _ n t #[u0, u1, a2, a3, a4, a5, a6, a7, a8, a9, a10, a11] := h0.set 1 u1
  have h2 : Box _ n t #[u0, u1, u2, a3, a4, a5, a6, a7, a8, a9, a10, a11] := h1.set 2 u2
  have h3 : Box _ n t #[u0, u1, u2, u3, a4, a5, a6, a7, a8, a9, a10, a11] := h2.set 3 u3
  have h4 : Box _ n t #[u0, u1, u2, u3, u4, a5, a6, a7, a8, a9, a10, a11] := h3.set 4 u4
  have h5 : Box _ n t #[u0, u1, u2, u3, u4, u5, a6, a7, a8, a9, a10, a11] := h4.set 5 u5
  have h6 : Box _ n t #[u0, u1, u2, u3, u4, u5, u6, a7, a8, a9, a10, a11] := h5.set 6 u6
  have h7 : Box _ n t #[u0, u1, u2, u3, u4, u5, u6, u7, a8, a9, a10, a11] := h6.set 7 u7
  have h8 : Box _ n t #[u0, u1, u2, u3, u4, u5, u6, u7, u8, a9, a10, a11] := h7.set 8 u8
  have h9 : Box _ n t #[u0, u1, u2, u3, u4, u5, u6, u7, u8, u9, a10, a11] := h8.set 9 u9
  have h10 : Box _ n t #[u0, u1, u2, u3, u4, u5, u6, u7, u8, u9, u10, a11] := h9.set 10 u10
  have h11 : Box _ n t #[u0, u1, u2, u3, u4, u5, u6, u7, u8, u9, u10, u11] := h10.set 11 u11
  exact h11
theorem Box.other12 {w : World} {n m : Nat} {t : TypeId} {cs : Array Value} (h : Box w n t cs) (hp : n ≠ m) (u0 u1 u2 u3 u4 u5 u6 u7 u8 u9 u10 u11 : Value) :
    Box ((((((((((((w.setCell ⟨m, 0, none⟩ u0).setCell ⟨m, 1, none⟩ u1).setCell ⟨m, 2, none⟩ u2).setCell ⟨m, 3, none⟩ u3).setCell ⟨m, 4, none⟩ u4).setCell ⟨m, 5, none⟩ u5).setCell ⟨m, 6, none⟩ u6).setCell ⟨m, 7, none⟩ u7).setCell ⟨m, 8, none⟩ u8).setCell ⟨m, 9, none⟩ u9).setCell ⟨m, 10, none⟩ u10).setCell ⟨m, 11, none⟩ u11) n t cs :=
  (((((((((((h.other (p := ⟨m, 0, none⟩) hp u0).other (p := ⟨m, 1, none⟩) hp u1).other (p := ⟨m, 2, none⟩) hp u2).other (p := ⟨m, 3, none⟩) hp u3).other (p := ⟨m, 4, none⟩) hp u4).other (p := ⟨m, 5, none⟩) hp u5).other (p := ⟨m, 6, none⟩) hp u6).other (p := ⟨m, 7, none⟩) hp u7).other (p := ⟨m, 8, none⟩) hp u8).other (p := ⟨m, 9, none⟩) hp u9).other (p := ⟨m, 10, none⟩) hp u10).other (p := ⟨m, 11, none⟩) hp u11
theorem bel_set12 {a w : World} {m : Nat} (hp : a.heap.size ≤ m) (h : Below a.heap.size a w) (u0 u1 u2 u3 u4 u5 u6 u7 u8 u9 u10 u11 : Value) :
    Below a.heap.size a ((((((((((((w.setCell ⟨m, 0, none⟩ u0).setCell ⟨m, 1, none⟩ u1).setCell ⟨m, 2, none⟩ u2).setCell ⟨m, 3, none⟩ u3).setCell ⟨m, 4, none⟩ u4).setCell ⟨m, 5, none⟩ u5).setCell ⟨m, 6, none⟩ u6).setCell ⟨m, 7, none⟩ u7).setCell ⟨m, 8, none⟩ u8).setCell ⟨m, 9, none⟩ u9).setCell ⟨m, 10, none⟩ u10).setCell ⟨m, 11, none⟩ u11) :=
  (((((((((((h.setCell (p := ⟨m, 0, none⟩) hp u0).setCell (p := ⟨m, 1, none⟩) hp u1).setCell (p := ⟨m, 2, none⟩) hp u2).setCell (p := ⟨m, 3, none⟩) hp u3).setCell (p := ⟨m, 4, none⟩) hp u4).setCell (p := ⟨m, 5, none⟩) hp u5).setCell (p := ⟨m, 6, none⟩) hp u6).setCell (p := ⟨m, 7, none⟩) hp u7).setCell (p := ⟨m, 8, none⟩) hp u8).setCell (p := ⟨m, 9, none⟩) hp u9).setCell (p := ⟨m, 10, none⟩) hp u10).setCell (p := ⟨m, 11, none⟩) hp u11
end Go.Proofs.Ytefcdcneenjbgab
/-
  A map of the call's own, as what stands at each number: for map[int]bool (Seen), and for any map keyed by int (OwnM).
-/
namespace Go.Proofs.Ytefcdcneenjbgab
open Go.RowKit

/-- A map's element is read as it stands. -/
def Rv (v : Value) : Option (DataW Value × List MemPlace) := some (.held v, [])
theorem law_int : Maps.Keyed Try.prog 3 := Maps.int_keyed Try.underlying3
theorem key_int {z : Int} (h0 : 0 ≤ z) (h1 : z < 1000) : keyOf Try.prog 3 (.int .i64 z) = some (.int .i64 z) := Maps.keyOf_int_mk Try.underlying3 (WalkArith.wf_i64 (by omega))
theorem key_all {z : Int} (h0 : -9223372036854775808 ≤ z) (h1 : z ≤ 9223372036854775807) : keyOf Try.prog 3 (.int .i64 z) = some (.int .i64 z) := Maps.keyOf_int_mk Try.underlying3 (WalkArith.wf_i64 (by omega))
theorem zero_bool (w : World) : (zeroValue 4).run Try.prog w = .ok (.bool false) w := by kernel_rfl

theorem grown_none {w w' : World} (h : Below w.heap.size w w') : w.grownBy w' none := ⟨h.os, h.tape, h.output, h.size, fun k hk _ => h.block k hk⟩

/-- Block b is a map[int]bool that holds true at these numbers and no others. -/
def Seen (w : World) (b n : Nat) (ks : List Int) : Prop :=
  ∃ D, w.ownsMap Try.prog 3 Rv b n D ∧ ∀ z, D.atKey (.int .i64 z) (.held (.bool false)) = .held (.bool (decide (z ∈ ks)))

theorem Seen.new (w : World) : Seen (w.alloc (.map #[] 0)) w.heap.size 0 [] := ⟨_, World.ownsMap_made _ _ _ _, fun z => by simp [DataW.atKey]⟩
theorem Seen.keep {w w' : World} {b n : Nat} {ks : List Int} (h : Seen w b n ks) (hb : Below w.heap.size w w') : Seen w' b n ks := by
  obtain ⟨D, h1, h2⟩ := h
  exact ⟨D, h1.kept (grown_none hb) (by simp), h2⟩
theorem Seen.lt {w : World} {b n : Nat} {ks : List Int} (h : Seen w b n ks) : b < w.heap.size := by obtain ⟨D, h1, _⟩ := h; exact h1.lt

theorem wpList_seen {w : World} {ops : Array Oper} {rest : List Oper} {o : Oper} {a : Act} {Q : Exit → Act → World → Prop} (hg : o.guard = none) (m x : Operand) (hop : o.op = Op.lookup 93 m x false) (b n : Nat) (ks : List Int)
    (hm : a.eval m = .map (some b)) (h : Seen w b n ks) (z : Int) (hx : a.eval x = .int .i64 z) (h0 : 0 ≤ z) (h1 : z < 1000)
    (hK : wpList Try.prog ops Q rest (a.put o.dst (.bool (decide (z ∈ ks)))) w) : wpList Try.prog ops Q (o :: rest) a w := by
  refine wpList_plain hg fun K' hK' => ?_
  obtain ⟨D, hown, hD⟩ := h
  obtain ⟨v, ps, hrun, hv⟩ := hown.lookup law_int Try.underlying93 (zero_bool w) (zd := .held (.bool false)) (zp := []) rfl (key_int h0 h1)
  rw [hD z] at hv
  simp only [Rv, Option.some.injEq, Prod.mk.injEq, DataW.held.injEq] at hv
  unfold Oper.wp
  simp [execOp, hop, hm, hx, hrun, Result.andThen]
  rw [hv.1]
  exact hK' _ _ hK

theorem wpList_see {w : World} {ops : Array Oper} {rest : List Oper} {o : Oper} {a : Act} {Q : Exit → Act → World → Prop} (hg : o.guard = none) (m x v : Operand) (hop : o.op = Op.mapUpdate 93 m x v) (b n : Nat) (ks : List Int)
    (hm : a.eval m = .map (some b)) (h : Seen w b n ks) (z : Int) (hx : a.eval x = .int .i64 z) (hv : a.eval v = .bool true) (h0 : 0 ≤ z) (h1 : z < 1000) (hn : n < 1000)
    (hK : ∀ w', Seen w' b (n + 1) (z :: ks) → w.grownBy w' (some b) → wpList Try.prog ops Q rest (a.put o.dst undef) w') : wpList Try.prog ops Q (o :: rest) a w := by
  obtain ⟨D, hown, hD⟩ := h
  refine wpList_mapUpdate_own w hg m x v 93 hop 3 4 law_int Try.underlying93 Rv b n D hm hown (by unfold maxLen; omega) _ _ _ hx hv (key_int h0 h1) (.held (.bool true)) [] rfl ?_
  intro w' hown' hgr
  refine hK w' ⟨_, hown', fun y => ?_⟩ hgr
  by_cases e : y = z
  · subst e
    rw [Maps.atKey_put_same hown.isMap (law_int.key (key_int h0 h1))]
    simp
  · rw [Maps.atKey_put_other (by simpa using e), hD y]
    simp [e]
end Go.Proofs.Ytefcdcneenjbgab
/-
  Package cache: questions and its closures: at each kind of order stands what is asked of a line; nothing that was there turns.
-/
namespace Go.Proofs.Ytefcdcneenjbgab
open Go.RowKit

theorem q0_any (d1 p1 a : Int) (r x : Bool) (w : World) :
    Calls Try.prog 110 #[.agg #[.int .i64 d1, .int .i64 p1, .int .i64 a, .bool r, .bool x]] w fun e w' => e = .returned (.bool false) ∧ ∃ o, w' = w.alloc o := by
  go_enter Try.func110, Try.ntmps110
  go_wp2
  go_ret
  exact ⟨rfl, _, rfl⟩
theorem q1_any (d1 p1 a : Int) (r x : Bool) (w : World) :
    Calls Try.prog 111 #[.agg #[.int .i64 d1, .int .i64 p1, .int .i64 a, .bool r, .bool x]] w fun e w' => e = .returned (.bool true) ∧ ∃ o, w' = w.alloc o := by
  go_enter Try.func111, Try.ntmps111
  go_wp2
  go_ret
  exact ⟨rfl, _, rfl⟩
theorem q2_any (n : Nat) (d d1 p1 a : Int) (r x : Bool) (w : World) (h1 : w.cell? ⟨n, 1, none⟩ = some (.int .i64 d)) (l1 : n < w.heap.size) :
    Calls Try.prog 112 #[.agg #[.int .i64 d1, .int .i64 p1, .int .i64 a, .bool r, .bool x], .pointer (some ⟨n, 0, none⟩)] w fun e w' => e = .returned (.bool (decide (d1 = d))) ∧ ∃ o, w' = w.alloc o := by
  by_cases e1 : d1 = d
  · have q1 : (d1 == d) = true := by simpa using e1
    rw [decide_eq_true e1]
    clear e1
    go_enter Try.func112, Try.ntmps112
    go_wp2
    go_ret
    exact ⟨by simp, _, rfl⟩
  · have q1 : (d1 == d) = false := by simpa using e1
    rw [decide_eq_false e1]
    clear e1
    go_enter Try.func112, Try.ntmps112
    go_wp2
    go_ret
    exact ⟨by simp, _, rfl⟩

/-- Block b is a map keyed by int whose elements are read as they stand. -/
abbrev OwnM (w : World) (b n : Nat) (D : DataW Value) : Prop := w.ownsMap Try.prog 3 Rv b n D

theorem wpList_insert_M {w : World} {ops : Array Oper} {rest : List Oper} {o : Oper} {a : Act} {Q : Exit → Act → World → Prop} (hg : o.guard = none) (m x v : Operand) (hop : o.op = Op.insert 119 m x v) (b n : Nat) (D : DataW Value)
    (hm : a.eval m = .map (some b)) (hown : OwnM w b n D) (z : Int) (val : Value) (hx : a.eval x = .int .i64 z) (hv : a.eval v = val) (h0 : 0 ≤ z) (h1 : z < 1000) (hn : n < 1000)
    (hK : ∀ w', OwnM w' b (n + 1) (D.put (.int .i64 z) (.held val)) → w.grownBy w' (some b) → wpList Try.prog ops Q rest (a.put o.dst undef) w') : wpList Try.prog ops Q (o :: rest) a w := by
  refine wpList_plain hg fun K' hK' => ?_
  obtain ⟨w', hrun, r1, r2⟩ := hown.update law_int Try.underlying119 (by unfold maxLen; omega) (key_int h0 h1) (val := val) (d := .held val) (ps := []) rfl
  unfold Oper.wp
  simp [execOp, hop, hm, hx, hv, hrun, Result.andThen]
  exact hK' _ _ (hK w' r1 r2)

/-- What questions lays. -/
def qsD (n u v : Nat) : DataW Value :=
  ((((DataW.map []).put (.int .i64 0) (.held (.func (.func 110) #[] #[]))).put (.int .i64 1) (.held (.func (.func 111) #[] #[]))).put (.int .i64 2) (.held (.func (.func 112) #[] #[.pointer (some ⟨n, 0, none⟩)]))).put (.int .i64 3) (.held (.func (.func 109) #[] #[.pointer (some ⟨u, 0, none⟩), .pointer (some ⟨v, 0, none⟩)]))
/-- Block b holds the questions of this order. -/
def Asks (w : World) (b : Nat) (d p : Int) : Prop :=
  ∃ n u v, OwnM w b 4 (qsD n u v) ∧ (w.cell? ⟨n, 1, none⟩ = some (.int .i64 d) ∧ n < w.heap.size) ∧ (w.cell? ⟨u, 0, none⟩ = some (.int .i64 d) ∧ u < w.heap.size) ∧ (w.cell? ⟨v, 0, none⟩ = some (.int .i64 p) ∧ v < w.heap.size)

theorem grown_cell {w w' : World} {b n o : Nat} {x : Option Value} (h : w.cell? ⟨n, o, none⟩ = x) (hg : w.grownBy w' (some b)) (hne : ¬ n = b) (hl : n < w.heap.size) : w'.cell? ⟨n, o, none⟩ = x := by
  rw [← h]
  exact World.cell?_of_block (a := ⟨n, o, none⟩) (hg.block n hl (by simpa using hne))

theorem Blk.grown {w w' : World} {n b : Nat} {cs : Array Value} (h : Blk w n cs) (hg : w.grownBy w' (some b)) (hne : ¬ n = b) : Blk w' n cs := by
  have hl := h.lt
  obtain ⟨t, fr, h⟩ := h
  exact ⟨t, fr, by rw [hg.block n hl (by simpa using hne)]; exact h⟩

set_option maxHeartbeats 1000000 in
theorem questions_any (k d p : Int) (w : World) :
    Calls Try.prog 81 #[.agg #[.int .i64 k, .int .i64 d, .int .i64 p]] w fun e w' => (∃ b, e = .returned (.map (some b)) ∧ Asks w' b d p) ∧ Below w.heap.size w w' := by
  have hmm := @run_makeMap Try.prog
  have hmf : ∀ (fn : Fn) (first cap : Array Value) (w : World), (Instr.makeFunc fn first cap).run Try.prog w = .ok (.func fn first cap) w := fun _ _ _ _ => rfl
  go_enter Try.func81, Try.ntmps81
  go_wp2_with (first | (refine wpList_insert_M rfl (.tmp 3) _ _ rfl (w.heap.size + 1) 0 (DataW.map []) rfl (by have := World.ownsMap_made (w.alloc (.cells #[.int .i64 k, .int .i64 d, .int .i64 p] 23)) Try.prog 3 Rv; simpa using this) 0 _ rfl rfl (by omega) (by omega) (by omega) ?_))
  intro w1 o1 g1
  have b1 : Hid (Below w.heap.size w w1) := (bel_alloc (bel_alloc (Below.refl _ _) _) _).grown g1 (by simp; omega) (fun j hj => by cases hj; omega)
  have s1 : Hid (w.heap.size + 1 + 1 ≤ w1.heap.size) := by show _ ≤ _; have := g1.size; simpa using this
  have k1 := ((Blk.new w #[.int .i64 k, .int .i64 d, .int .i64 p] 23 (0, 0)).past (.map #[] 0)).grown g1 (by omega)
  clear g1
  go_wp2_with (first | (refine wpList_insert_M rfl (.tmp 3) _ _ rfl (w.heap.size + 1) 1 _ rfl o1 1 _ rfl rfl (by omega) (by omega) (by omega) ?_))
  intro w2 o2 g2
  have b2 : Hid (Below w.heap.size w w2) := b1.out.grown g2 b1.out.size (fun j hj => by cases hj; omega)
  have s2 : Hid (w.heap.size + 1 + 1 ≤ w2.heap.size) := Nat.le_trans s1.out g2.size
  have k2 := k1.grown g2 (by omega)
  clear g2 b1 s1 k1 o1
  go_wp2_with (first | (refine wpList_insert_M rfl (.tmp 3) _ _ rfl (w.heap.size + 1) 2 _ rfl o2 2 _ rfl rfl (by omega) (by omega) (by omega) ?_))
  intro w3 o3 g3
  have b3 : Hid (Below w.heap.size w w3) := b2.out.grown g3 b2.out.size (fun j hj => by cases hj; omega)
  have s3 : Hid (w.heap.size + 1 + 1 ≤ w3.heap.size) := Nat.le_trans s2.out g3.size
  have k3 := k2.grown g3 (by omega)
  clear g3 b2 s2 k2 o2
  obtain ⟨c0, c1, c2⟩ := k3.three
  have l3 := k3.lt
  go_wp2_with (first | (go_at_call 80; refine (isOf_any d p w3).mono ?_; rintro e wq ⟨rfl, rfl⟩) | (refine wpList_insert_M rfl (.tmp 3) _ _ rfl (w.heap.size + 1) 3 _ rfl ((o3.alloc _).alloc _) 3 _ rfl rfl (by omega) (by omega) (by omega) ?_))
  intro w4 o4 g4
  have b4 : Hid (Below w.heap.size w w4) := (bel_alloc (bel_alloc b3.out _) _).grown g4 (by have := s3.out; simp; omega) (fun j hj => by cases hj; omega)
  have e3 := s3.out
  have hu : w4.cell? ⟨w3.heap.size, 0, none⟩ = some (.int .i64 d) := grown_cell (by simp [go_sem]) g4 (by omega) (by simp; omega)
  have hv : w4.cell? ⟨w3.heap.size + 1, 0, none⟩ = some (.int .i64 p) := grown_cell (by simp [go_sem]) g4 (by omega) (by simp)
  have z4 : w3.heap.size + 1 + 1 ≤ w4.heap.size := by have := g4.size; simpa using this
  have HA : Hid (Asks w4 (w.heap.size + 1) d p) := ⟨w.heap.size, w3.heap.size, w3.heap.size + 1, o4, ⟨(((k3.past _).past _).grown g4 (by omega)).three.2.1, by omega⟩, ⟨hu, by omega⟩, ⟨hv, by omega⟩⟩
  clear o4 g4 hu hv k3 o3
  go_wp2
  go_ret
  exact ⟨⟨_, rfl, HA.out⟩, b4.out⟩

theorem zero_func (w : World) : (zeroValue 116).run Try.prog w = .ok .nilFunc w := by kernel_rfl
theorem isKey_int (z : Int) : WideAt.IsKeyLit (.int .i64 z) := trivial
theorem qs_is (n u v : Nat) : Maps.IsMap (qsD n u v) := (((Maps.isMap_empty.put _ _).put _ _).put _ _).put _ _
theorem qs_0 (n u v : Nat) (x : DataW Value) : (qsD n u v).atKey (.int .i64 0) x = .held (.func (.func 110) #[] #[]) ∧ Maps.has (qsD n u v) (.int .i64 0) = true := ⟨rfl, rfl⟩
theorem qs_1 (n u v : Nat) (x : DataW Value) : (qsD n u v).atKey (.int .i64 1) x = .held (.func (.func 111) #[] #[]) ∧ Maps.has (qsD n u v) (.int .i64 1) = true := ⟨rfl, rfl⟩
theorem qs_2 (n u v : Nat) (x : DataW Value) : (qsD n u v).atKey (.int .i64 2) x = .held (.func (.func 112) #[] #[.pointer (some ⟨n, 0, none⟩)]) ∧ Maps.has (qsD n u v) (.int .i64 2) = true := ⟨rfl, rfl⟩
theorem qs_3 (n u v : Nat) (x : DataW Value) : (qsD n u v).atKey (.int .i64 3) x = .held (.func (.func 109) #[] #[.pointer (some ⟨u, 0, none⟩), .pointer (some ⟨v, 0, none⟩)]) ∧ Maps.has (qsD n u v) (.int .i64 3) = true := ⟨rfl, rfl⟩
theorem qs_no (n u v : Nat) (x : DataW Value) {z : Int} (h : ¬ (0 ≤ z ∧ z ≤ 3)) : (qsD n u v).atKey (.int .i64 z) x = x ∧ Maps.has (qsD n u v) (.int .i64 z) = false := by
  have hh : Maps.has (qsD n u v) (.int .i64 z) = false := by
    unfold qsD
    rw [Maps.has_put_other (by simp; omega), Maps.has_put_other (by simp; omega), Maps.has_put_other (by simp; omega), Maps.has_put_other (by simp; omega)]
    rfl
  exact ⟨Maps.atKey_of_not_has hh x, hh⟩

theorem look_ok {w : World} {b : Nat} {D : DataW Value} (h : OwnM w b 4 D) {z : Int} (h0 : -9223372036854775808 ≤ z) (h1 : z ≤ 9223372036854775807) {f : Value} {t : Bool} (hD : D.atKey (.int .i64 z) (.held .nilFunc) = .held f ∧ Maps.has D (.int .i64 z) = t) :
    (Instr.lookup 119 (.map (some b)) (.int .i64 z) true).run Try.prog w = .ok (.tuple #[f, .bool t]) w := by
  obtain ⟨v, ps, hrun, hv⟩ := h.look_ok law_int Try.underlying119 (zero_func w) (zd := .held .nilFunc) (zp := []) rfl (key_all h0 h1)
  rw [hD.1] at hv
  rw [hD.2] at hrun
  simp only [Rv, Option.some.injEq, Prod.mk.injEq, DataW.held.injEq] at hv
  rw [hrun, hv.1]
theorem Asks.at0 {w : World} {b : Nat} {d p : Int} (h : Asks w b d p) : (Instr.lookup 119 (.map (some b)) (.int .i64 0) true).run Try.prog w = .ok (.tuple #[.func (.func 110) #[] #[], .bool true]) w := by
  obtain ⟨n, u, v, h, _⟩ := h; exact look_ok h (by decide) (by decide) (qs_0 n u v _)
theorem Asks.at1 {w : World} {b : Nat} {d p : Int} (h : Asks w b d p) : (Instr.lookup 119 (.map (some b)) (.int .i64 1) true).run Try.prog w = .ok (.tuple #[.func (.func 111) #[] #[], .bool true]) w := by
  obtain ⟨n, u, v, h, _⟩ := h; exact look_ok h (by decide) (by decide) (qs_1 n u v _)
theorem Asks.at2 {w : World} {b : Nat} {d p : Int} (h : Asks w b d p) : ∃ n, (Instr.lookup 119 (.map (some b)) (.int .i64 2) true).run Try.prog w = .ok (.tuple #[.func (.func 112) #[] #[.pointer (some ⟨n, 0, none⟩)], .bool true]) w ∧ w.cell? ⟨n, 1, none⟩ = some (.int .i64 d) ∧ n < w.heap.size := by
  obtain ⟨n, u, v, h, hn, _⟩ := h; exact ⟨n, look_ok h (by decide) (by decide) (qs_2 n u v _), hn⟩
theorem Asks.at3 {w : World} {b : Nat} {d p : Int} (h : Asks w b d p) : ∃ u v, (Instr.lookup 119 (.map (some b)) (.int .i64 3) true).run Try.prog w = .ok (.tuple #[.func (.func 109) #[] #[.pointer (some ⟨u, 0, none⟩), .pointer (some ⟨v, 0, none⟩)], .bool true]) w ∧ (w.cell? ⟨u, 0, none⟩ = some (.int .i64 d) ∧ u < w.heap.size) ∧ (w.cell? ⟨v, 0, none⟩ = some (.int .i64 p) ∧ v < w.heap.size) := by
  obtain ⟨n, u, v, h, _, hu, hv⟩ := h; exact ⟨u, v, look_ok h (by decide) (by decide) (qs_3 n u v _), hu, hv⟩
theorem Asks.no {w : World} {b : Nat} {d p : Int} (h : Asks w b d p) {z : Int} (h0 : -9223372036854775808 ≤ z) (h1 : z ≤ 9223372036854775807) (hz : ¬ (0 ≤ z ∧ z ≤ 3)) : (Instr.lookup 119 (.map (some b)) (.int .i64 z) true).run Try.prog w = .ok (.tuple #[.nilFunc, .bool false]) w := by
  obtain ⟨n, u, v, h, _⟩ := h; exact look_ok h h0 h1 (qs_no n u v _ hz)
end Go.Proofs.Ytefcdcneenjbgab
