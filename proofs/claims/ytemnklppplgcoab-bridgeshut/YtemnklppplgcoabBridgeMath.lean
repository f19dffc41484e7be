/-
  The bridge, as data alone: what Check, Through, Plain, Tell, Obey answer, and what holds of it.
-/
import Derived.Test.YtemnklppplgcoabWalkMath
import Derived.Test.YtemnklppplgcoabFillC
import Derived.Test.YtemnklppplgcoabOrderMath
import Derived.Test.YtemnklppplgcoabWordMath
namespace Go.Proofs.Ytemnklppplgcoab
open Go.RowKit

/-- A bridge. -/
structure Br where
  mode : Int
  base : Int
  cache : List Ln
  op : Int
  oh : Int
  ot : Int
  stop : Bool
  fen : Int
  fp : Int
  fh : Int
  ft : Int
  lost : Bool
def B0 : Br := ⟨0, 0, [], 0, 0, 0, false, 0, 0, 0, 0, false⟩
/-- The same with other lines. -/
def Br.with (b : Br) (l : List Ln) : Br := { b with cache := l }
/-- What Check says. -/
def rngBr (b : Br) : Bool := decide (0 ≤ b.mode ∧ b.mode ≤ 2) && decide (0 ≤ b.base ∧ b.base ≤ 63) && decide (0 ≤ b.fen ∧ b.fen ≤ 999)
def chkB (b : Br) : Int := if rngBr b = true then (if chkC b.cache = 0 then (if chkR b.op b.oh b.ot = 0 then chkR b.fp b.fh b.ft else chkR b.op b.oh b.ot) else chkC b.cache) else 2
/-- What is wrong with a memory, or a bridge beside it. -/
def bothB (zs : List Int) (b : Br) : Int := if chk zs = 0 then chkB b else chk zs
def whoB (d p : Int) : Bool := decide ((0 ≤ d ∧ d ≤ 7) ∧ (0 ≤ p ∧ p ≤ 63))
def thE (zs : List Int) (b : Br) (d p : Int) : Int := if bothB zs b = 0 then (if whoB d p = true then 0 else 4) else bothB zs b

/-- The word of a device's context. -/
def ctxW (zs : List Int) (b : Br) (d : Int) : Int := nth zs (8 * b.base + d).toNat
/-- Through by the tables: the bridge, the page, the fault. -/
def byT (zs : List Int) (b : Br) (d p : Int) (wr : Bool) : Br × Int × Int :=
  if vC (ctxW zs b d) = true then
    (if aC (ctxW zs b d) = true then (b, p, 0)
    else if (wkd zs (pC (ctxW zs b d)) p wr).2.1 = 0 then (b.with (flC b.cache (d, p, (wkd zs (pC (ctxW zs b d)) p wr).1.2.2.2.2, true, (wkd zs (pC (ctxW zs b d)) p wr).1.2.2.1)), (wkd zs (pC (ctxW zs b d)) p wr).1.2.2.2.2, 0)
    else (b, 0, (wkd zs (pC (ctxW zs b d)) p wr).2.1))
  else (b, 0, 2)
/-- The line that is found. -/
def lineC (l : List Ln) (d p : Int) : Ln := lth l (fndC l d p).toNat
/-- Through, of right memory and bridge. -/
def goT (zs : List Int) (b : Br) (d p : Int) (wr : Bool) : Br × Int × Int :=
  if b.mode = 0 then (b, 0, 1)
  else if b.mode = 1 then (b, p, 0)
  else if 0 ≤ fndC b.cache d p then (if (wr && !(lineC b.cache d p).2.2.2.2) = true then (b, 0, 5) else (b, (lineC b.cache d p).2.2.1, 0))
  else byT zs b d p wr
def thR (zs : List Int) (b : Br) (d p : Int) (wr : Bool) : Br × Int × Int := if thE zs b d p = 0 then goT zs b d p wr else (B0, 0, 0)

theorem chkB_ok {b : Br} (h : chkB b = 0) : (0 ≤ b.mode ∧ b.mode ≤ 2) ∧ (0 ≤ b.base ∧ b.base ≤ 63) ∧ (0 ≤ b.fen ∧ b.fen ≤ 999) ∧ chkC b.cache = 0 ∧ chkR b.op b.oh b.ot = 0 ∧ chkR b.fp b.fh b.ft = 0 := by
  unfold chkB at h
  by_cases h1 : rngBr b = true
  · rw [if_pos h1] at h
    by_cases h2 : chkC b.cache = 0
    · rw [if_pos h2] at h
      by_cases h3 : chkR b.op b.oh b.ot = 0
      · rw [if_pos h3] at h
        simp only [rngBr, Bool.and_eq_true, decide_eq_true_eq] at h1
        exact ⟨h1.1.1, h1.1.2, h1.2, h2, h3, h⟩
      · rw [if_neg h3] at h; exact absurd h h3
    · rw [if_neg h2] at h; exact absurd h h2
  · rw [if_neg h1] at h; exact absurd h (by decide)
theorem chkB_mk {b : Br} (h1 : 0 ≤ b.mode ∧ b.mode ≤ 2) (h2 : 0 ≤ b.base ∧ b.base ≤ 63) (h3 : 0 ≤ b.fen ∧ b.fen ≤ 999) (h4 : chkC b.cache = 0) (h5 : chkR b.op b.oh b.ot = 0) (h6 : chkR b.fp b.fh b.ft = 0) : chkB b = 0 := by
  have : rngBr b = true := by simp [rngBr, h1, h2, h3]
  rw [chkB, if_pos this, if_pos h4, if_pos h5, h6]
theorem chkB_with {b : Br} (h : chkB b = 0) {l : List Ln} (hl : chkC l = 0) : chkB (b.with l) = 0 := by
  obtain ⟨h1, h2, h3, _, h5, h6⟩ := chkB_ok h
  exact chkB_mk h1 h2 h3 hl h5 h6
theorem chkC_nil : chkC [] = 0 := by decide
theorem bothB_ok {zs : List Int} {b : Br} (h : bothB zs b = 0) : chk zs = 0 ∧ chkB b = 0 := by
  unfold bothB at h
  by_cases hk : chk zs = 0
  · rw [if_pos hk] at h; exact ⟨hk, h⟩
  · rw [if_neg hk] at h; exact absurd h hk
theorem bothB_mk {zs : List Int} {b : Br} (h : chk zs = 0) (k : chkB b = 0) : bothB zs b = 0 := by rw [bothB, if_pos h, k]
theorem thE_ok {zs : List Int} {b : Br} {d p : Int} (h : thE zs b d p = 0) : chk zs = 0 ∧ chkB b = 0 ∧ (0 ≤ d ∧ d ≤ 7) ∧ (0 ≤ p ∧ p ≤ 63) := by
  unfold thE at h
  by_cases hb : bothB zs b = 0
  · rw [if_pos hb] at h
    by_cases hw : whoB d p = true
    · obtain ⟨a, c⟩ := bothB_ok hb
      simp only [whoB, decide_eq_true_eq] at hw
      exact ⟨a, c, hw.1, hw.2⟩
    · rw [if_neg hw] at h; exact absurd h (by decide)
  · rw [if_neg hb] at h; exact absurd h hb
theorem thE_mk {zs : List Int} {b : Br} {d p : Int} (h : chk zs = 0) (k : chkB b = 0) (hd : 0 ≤ d ∧ d ≤ 7) (hp : 0 ≤ p ∧ p ≤ 63) : thE zs b d p = 0 := by
  rw [thE, if_pos (bothB_mk h k), if_pos (by simp [whoB, hd, hp])]
theorem thE_with {zs : List Int} {b : Br} {d p : Int} (h : thE zs b d p = 0) {l : List Ln} (hl : chkC l = 0) : thE zs (b.with l) d p = 0 := by
  obtain ⟨h1, h2, h3, h4⟩ := thE_ok h
  exact thE_mk h1 (chkB_with h2 hl) h3 h4

/-- The page that find tells is one. -/
theorem fnd_page {zs : List Int} {root page : Int} {b r x l : Bool} {p : Int} (h : fnd zs root page = ((b, r, x, l, p), 0)) : 0 ≤ p ∧ p ≤ 63 := by
  unfold fnd at h
  by_cases h1 : fltR (one zs root page) = 0
  · rw [if_pos h1] at h
    by_cases h2 : lE (one zs root page) = true
    · rw [if_pos h2] at h
      by_cases h3 : pE (one zs root page) % 8 = 0
      · rw [if_pos h3] at h
        simp only [Prod.mk.injEq] at h
        have := pE_in (one zs root page)
        omega
      · rw [if_neg h3] at h
        simp only [Prod.mk.injEq] at h
        omega
    · rw [if_neg h2] at h
      by_cases h3 : fltR (two zs root page) = 0
      · rw [if_pos h3] at h
        by_cases h4 : lE (two zs root page) = true
        · rw [if_pos h4, entE] at h
          simp only [Prod.mk.injEq] at h
          have := pE_in (two zs root page)
          omega
        · rw [if_neg h4] at h
          simp only [Prod.mk.injEq] at h
          omega
      · rw [if_neg h3] at h
        simp only [Prod.mk.injEq] at h
        exact absurd h.2 h3
  · rw [if_neg h1] at h
    simp only [Prod.mk.injEq] at h
    exact absurd h.2 h1
theorem fltR_cases (z : Int) : fltR z = 0 ∨ fltR z = 3 ∨ fltR z = 4 := by
  unfold fltR; split
  · split <;> simp
  · simp
theorem fnd_fault (zs : List Int) (root page : Int) : (fnd zs root page).2 = 0 ∨ (fnd zs root page).2 = 3 ∨ (fnd zs root page).2 = 4 := by
  unfold fnd
  by_cases h1 : fltR (one zs root page) = 0
  · rw [if_pos h1]
    by_cases h2 : lE (one zs root page) = true
    · rw [if_pos h2]
      by_cases h3 : pE (one zs root page) % 8 = 0
      · rw [if_pos h3]; simp
      · rw [if_neg h3]; simp
    · rw [if_neg h2]
      by_cases h3 : fltR (two zs root page) = 0
      · rw [if_pos h3]
        by_cases h4 : lE (two zs root page) = true
        · rw [if_pos h4]; simp
        · rw [if_neg h4]; simp
      · rw [if_neg h3]; exact fltR_cases _
  · rw [if_neg h1]; exact fltR_cases _
/-- Walk of right memory and pages: a fault and nothing else; or a leaf that may be used so. -/
theorem wkd_two {zs : List Int} {root page : Int} {wr : Bool} (hk : chk zs = 0) (hr : pageB root = true) (hp : pageB page = true) :
    (∃ f, (3 ≤ f ∧ f ≤ 5) ∧ wkd zs root page wr = ((false, false, false, false, 0), f, 0)) ∨
    (∃ x p, (0 ≤ p ∧ p ≤ 63) ∧ (wr = true → x = true) ∧ wkd zs root page wr = ((true, true, x, true, p), 0, 0)) := by
  obtain ⟨⟨⟨b, r, x, l, p⟩, f⟩, hF⟩ : ∃ F, fnd zs root page = F := ⟨_, rfl⟩
  have hff := fnd_fault zs root page
  rw [hF] at hff
  rw [wkd, if_pos hk, if_pos ⟨hr, hp⟩, wkF, hF]
  by_cases h : f = 0
  · subst h
    obtain ⟨rfl, rfl⟩ := fnd_good hF
    simp only [if_true]
    by_cases hq : (r && (x || !wr)) = true
    · rw [if_pos hq]
      simp only [Bool.and_eq_true, Bool.or_eq_true, Bool.not_eq_true'] at hq
      obtain ⟨rfl, hx⟩ := hq
      refine .inr ⟨x, p, fnd_page hF, fun e => ?_, rfl⟩
      rcases hx with hx | hx
      · exact hx
      · rw [e] at hx; exact absurd hx (by decide)
    · rw [if_neg hq]
      exact .inl ⟨5, by omega, rfl⟩
  · simp only [h, if_false]
    have hff : f = 0 ∨ f = 3 ∨ f = 4 := hff
    exact .inl ⟨f, by omega, rfl⟩

theorem pC_page (z : Int) : pageB (pC z) = true := by
  unfold pC pageB; split <;> simp <;> omega
theorem page_of {p : Int} (h : 0 ≤ p ∧ p ≤ 63) : pageB p = true := by simp [pageB]; omega

/-- By the tables: no way; memory as it is; a fault of the tables; a page, which is remembered. -/
theorem byT_ways {zs : List Int} {b : Br} {d p : Int} {wr : Bool} (hk : chk zs = 0) (hp : 0 ≤ p ∧ p ≤ 63) :
    (∃ f, (2 ≤ f ∧ f ≤ 5) ∧ ∀ l, byT zs (b.with l) d p wr = (b.with l, 0, f)) ∨
    (∀ l, byT zs (b.with l) d p wr = (b.with l, p, 0)) ∨
    (∃ a x, (0 ≤ a ∧ a ≤ 63) ∧ (wr = true → x = true) ∧ ∀ l, byT zs (b.with l) d p wr = (b.with (flC l (d, p, a, true, x)), a, 0)) := by
  have hc : ∀ l, ctxW zs (b.with l) d = ctxW zs b d := fun l => rfl
  unfold byT
  by_cases h1 : vC (ctxW zs b d) = true
  · by_cases h2 : aC (ctxW zs b d) = true
    · exact .inr (.inl fun l => by rw [hc, if_pos h1, if_pos h2])
    · rcases wkd_two (wr := wr) hk (pC_page (ctxW zs b d)) (page_of hp) with ⟨f, hf, e⟩ | ⟨x, a, ha, hx, e⟩
      · refine .inl ⟨f, by omega, fun l => ?_⟩
        rw [hc, if_pos h1, if_neg h2, e]
        exact if_neg (show ¬ f = 0 by omega)
      · refine .inr (.inr ⟨a, x, ha, hx, fun l => ?_⟩)
        rw [hc, if_pos h1, if_neg h2, e]
        exact if_pos rfl
  · exact .inl ⟨2, by omega, fun l => by rw [hc, if_neg h1]⟩
theorem with_self (b : Br) : b.with b.cache = b := rfl

theorem fnd_line {l : List Ln} {d p : Int} (h : 0 ≤ fndC l d p) : (fndC l d p).toNat < l.length ∧ hasB d p (lineC l d p) = true ∧ lineC l d p ∈ l := by
  unfold lineC
  unfold fndC at h ⊢
  cases e : l.findIdx? (hasB d p) with
  | none => rw [e] at h; exact absurd h (by decide)
  | some i =>
    rw [List.findIdx?_eq_some_iff_getElem] at e
    obtain ⟨hi, h1, _⟩ := e
    have hn : ((i : Int)).toNat = i := by simp
    simp only [hn]
    exact ⟨hi, by rw [lth_get hi]; exact h1, by rw [lth_get hi]; exact List.getElem_mem hi⟩
theorem line_at {l : List Ln} (h : chkC l = 0) {x : Ln} (hx : x ∈ l) : (0 ≤ x.2.2.1 ∧ x.2.2.1 ≤ 63) ∧ x.2.2.2.1 = true := by
  obtain ⟨g1, g2, _⟩ := chkC_zero.1 h
  obtain ⟨a, b⟩ := g2 x hx
  simp only [rngB, Bool.and_eq_true, decide_eq_true_eq] at a
  exact ⟨by omega, b⟩
/-- A line that is filled in: there is none of that key, so it goes well. -/
theorem fl_ok {l : List Ln} {d p a : Int} {x : Bool} (hl : chkC l = 0) (hd : 0 ≤ d ∧ d ≤ 7) (hp : 0 ≤ p ∧ p ≤ 63) (ha : 0 ≤ a ∧ a ≤ 63) (hn : ¬ 0 ≤ fndC l d p) : flE l (d, p, a, true, x) = 0 := by
  have h1 : chkC [((d, p, a, true, x) : Ln)] = 0 := chkC_zero.2 ⟨by simp, fun y hy => by
    obtain rfl := List.mem_singleton.1 hy
    exact ⟨by simp [rngB]; omega, rfl⟩, List.pairwise_singleton _ _⟩
  rw [flE, if_pos hl, if_pos h1, if_neg hn]

/-- Through, of right things: the ways. -/
theorem goT_ways {zs : List Int} {b : Br} {d p : Int} {wr : Bool} (h : thE zs b d p = 0) :
    (∃ f, (1 ≤ f ∧ f ≤ 5) ∧ goT zs b d p wr = (b, 0, f)) ∨
    (∃ k, (0 ≤ k ∧ k ≤ 63) ∧ goT zs b d p wr = (b, k, 0) ∧ (b.mode = 2 → 0 ≤ fndC b.cache d p → (lineC b.cache d p).2.2.1 = k ∧ (wr && !(lineC b.cache d p).2.2.2.2) = false)) ∨
    (∃ a x, b.mode = 2 ∧ ¬ 0 ≤ fndC b.cache d p ∧ (0 ≤ a ∧ a ≤ 63) ∧ (wr = true → x = true) ∧ flE b.cache (d, p, a, true, x) = 0 ∧ goT zs b d p wr = (b.with (flC b.cache (d, p, a, true, x)), a, 0)) := by
  obtain ⟨hk, hb, hd, hp⟩ := thE_ok h
  obtain ⟨m1, _, _, hc, _, _⟩ := chkB_ok hb
  unfold goT
  by_cases h0 : b.mode = 0
  · rw [if_pos h0]; exact .inl ⟨1, by omega, rfl⟩
  rw [if_neg h0]
  by_cases h1 : b.mode = 1
  · rw [if_pos h1]; exact .inr (.inl ⟨p, hp, rfl, fun e => by omega⟩)
  rw [if_neg h1]
  by_cases hf : 0 ≤ fndC b.cache d p
  · rw [if_pos hf]
    by_cases hq : (wr && !(lineC b.cache d p).2.2.2.2) = true
    · rw [if_pos hq]; exact .inl ⟨5, by omega, rfl⟩
    · rw [if_neg hq]
      exact .inr (.inl ⟨_, (line_at hc (fnd_line hf).2.2).1, rfl, fun _ _ => ⟨rfl, by simpa using hq⟩⟩)
  · rw [if_neg hf]
    rcases byT_ways (b := b) (d := d) (wr := wr) hk hp with ⟨f, hff, e⟩ | e | ⟨a, x, ha, hx, e⟩
    · exact .inl ⟨f, by omega, e b.cache⟩
    · exact .inr (.inl ⟨p, hp, e b.cache, fun _ g => absurd g hf⟩)
    · exact .inr (.inr ⟨a, x, by omega, hf, ha, hx, fl_ok hc hd hp ha hf, e b.cache⟩)
theorem goT_good {zs : List Int} {b c : Br} {d p k f : Int} {wr : Bool} (h : thE zs b d p = 0) (hg : goT zs b d p wr = (c, k, f)) :
    chkB c = 0 ∧ (¬ f = 0 → c = b) ∧ (0 ≤ k ∧ k ≤ 63) ∧ (0 ≤ f ∧ f ≤ 5) ∧ ∃ l, c = b.with l := by
  obtain ⟨hk, hb, hd, hp⟩ := thE_ok h
  rcases goT_ways (wr := wr) h with ⟨f', hf, e⟩ | ⟨k', hk', e, _⟩ | ⟨a, x, hm, hn, ha, hx, hl, e⟩
  all_goals
    rw [e] at hg
    simp only [Prod.mk.injEq] at hg
    obtain ⟨rfl, rfl, rfl⟩ := hg
  · exact ⟨hb, fun _ => rfl, by omega, by omega, _, (with_self b).symm⟩
  · exact ⟨hb, fun _ => rfl, hk', by omega, _, (with_self b).symm⟩
  · exact ⟨chkB_with hb (fill_good hl).1, fun g => absurd rfl g, ha, by omega, _, rfl⟩
/-- Who was let through is let through again, to the same page, whatever memory says. -/
theorem goT_again {zs ns : List Int} {b c : Br} {d p k : Int} {wr : Bool} (h : thE zs b d p = 0) (hg : goT zs b d p wr = (c, k, 0)) (hm : b.mode = 2) (hf : 0 ≤ fndC c.cache d p) : goT ns c d p wr = (c, k, 0) := by
  obtain ⟨hk, hb, hd, hp⟩ := thE_ok h
  rcases goT_ways (wr := wr) h with ⟨f', hf', e⟩ | ⟨k', hk', e, hl⟩ | ⟨a, x, _, hn, ha, hx, hl, e⟩
  all_goals
    rw [e] at hg
    simp only [Prod.mk.injEq] at hg
  · omega
  · obtain ⟨rfl, rfl, -⟩ := hg
    obtain ⟨l1, l2⟩ := hl hm hf
    unfold goT
    rw [if_neg (by omega), if_neg (by omega), if_pos hf, l2, l1]
    rfl
  · obtain ⟨rfl, rfl, -⟩ := hg
    have hfi := (fill_good hl).2.1
    have hli : lineC (flC b.cache (d, p, a, true, x)) d p = (d, p, a, true, x) := by
      unfold lineC
      rw [show fndC (flC b.cache (d, p, a, true, x)) d p = ((oldC b.cache).length : Int) from hfi, flC_ok hl]
      rw [Int.toNat_natCast, lth_get (by simp)]
      simp
    have hcache : (b.with (flC b.cache (d, p, a, true, x))).cache = flC b.cache (d, p, a, true, x) := rfl
    have hmode : (b.with (flC b.cache (d, p, a, true, x))).mode = 2 := hm
    unfold goT
    rw [if_neg (by omega), if_neg (by omega), if_pos hf, hcache, hli]
    have hq : (wr && !x) = false := by
      cases wr
      · rfl
      · rw [hx rfl]; rfl
    rw [hq]
    rfl
theorem drop_none {l : List Ln} {d p : Int} (h : chkC l = 0) : ¬ 0 ≤ fndC (drC l 3 d p) d p := by
  have he : drE l 3 = 0 := by rw [drE, if_pos h, if_pos (by omega)]
  have : fndC (drC l 3 d p) d p < 0 := by
    rw [fndC_neg]
    intro x hx
    rw [drC, if_pos he] at hx
    have := (List.mem_filter.1 hx).2
    simp only [goesB] at this
    cases hq : hasB d p x
    · rfl
    · simp only [hasB, Bool.and_eq_true, decide_eq_true_eq] at hq
      simp [hq.1, hq.2] at this
  omega
/-- Once it is dropped all is as memory says. -/
theorem goT_plain {ns : List Int} {b : Br} {l : List Ln} {d p : Int} {wr : Bool} (hk : chk ns = 0) (hp : 0 ≤ p ∧ p ≤ 63) (hn : ¬ 0 ≤ fndC l d p) : (goT ns (b.with l) d p wr).2 = (goT ns (b.with []) d p wr).2 := by
  unfold goT
  have hm : ∀ l, (b.with l).mode = b.mode := fun l => rfl
  have hc : ∀ l, (b.with l).cache = l := fun l => rfl
  rw [hm, hm, hc, hc]
  by_cases h0 : b.mode = 0
  · rw [if_pos h0, if_pos h0]
  rw [if_neg h0, if_neg h0]
  by_cases h1 : b.mode = 1
  · rw [if_pos h1, if_pos h1]
  rw [if_neg h1, if_neg h1, if_neg hn, if_neg (show ¬ 0 ≤ fndC [] d p by simp [fndC])]
  rcases byT_ways (b := b) (d := d) (wr := wr) hk hp with ⟨f, _, e⟩ | e | ⟨a, x, _, _, e⟩
  all_goals rw [e, e]
end Go.Proofs.Ytemnklppplgcoab
