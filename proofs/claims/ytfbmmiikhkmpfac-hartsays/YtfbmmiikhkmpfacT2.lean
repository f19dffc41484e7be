/-
  Laid together: WalkMath, CacheMath, Lines, Is, FindC, CheckC, AppendL, FillC, Ring1, Box, Ring2, Ring3, OrderMath, WordMath.
-/
import Derived.Test.YtfbmmiikhkmpfacT1
import Derived.Deep.RegionHeld3
import Derived.Deep.AppendLies
import Derived.Deep.DrawnRows
import Derived.Deep.CutRange
/-
  What Walk answers, held against itself: with another right, with another word of memory.
-/
namespace Go.Proofs.Ytfbmmiikhkmpfac
open Go.RowKit

theorem vE_of_flt {z : Int} (h : fltR z = 0) : vE z = true := by
  unfold fltR at h
  cases ho : okE z
  · simp [ho] at h
  · cases hv : vE z
    · simp [ho, hv] at h
    · rfl
/-- What find tells with no fault is valid, and a leaf. -/
theorem fnd_good {zs : List Int} {root page : Int} {b r x l : Bool} {p : Int} (h : fnd zs root page = ((b, r, x, l, p), 0)) : b = true ∧ l = true := by
  unfold fnd at h
  by_cases h1 : fltR (one zs root page) = 0
  · rw [if_pos h1] at h
    by_cases h2 : lE (one zs root page) = true
    · rw [if_pos h2] at h
      by_cases h3 : pE (one zs root page) % 8 = 0
      · rw [if_pos h3] at h
        simp only [Prod.mk.injEq] at h
        obtain ⟨⟨e1, _, _, e4, _⟩, _⟩ := h
        exact ⟨e1 ▸ vE_of_flt h1, e4 ▸ h2⟩
      · rw [if_neg h3] at h
        simp only [Prod.mk.injEq] at h
        omega
    · rw [if_neg h2] at h
      by_cases h3 : fltR (two zs root page) = 0
      · rw [if_pos h3] at h
        by_cases h4 : lE (two zs root page) = true
        · rw [if_pos h4, entE] at h
          simp only [Prod.mk.injEq] at h
          obtain ⟨⟨e1, _, _, e4, _⟩, _⟩ := h
          exact ⟨e1 ▸ vE_of_flt h3, e4 ▸ h4⟩
        · rw [if_neg h4] at h
          simp only [Prod.mk.injEq] at h
          omega
      · rw [if_neg h3] at h
        simp only [Prod.mk.injEq] at h
        exact absurd h.2 h3
  · rw [if_neg h1] at h
    simp only [Prod.mk.injEq] at h
    exact absurd h.2 h1

/-- Walk of right memory: a fault, whatever the right; a leaf for both; a leaf to read alone. -/
theorem wkd_ways {zs : List Int} {root page : Int} (hk : chk zs = 0) (hd : pageB root = true ∧ pageB page = true) :
    (∃ f, ¬ f = 0 ∧ ∀ wr, wkd zs root page wr = ((false, false, false, false, 0), f, 0)) ∨
    (∃ p, ∀ wr, wkd zs root page wr = ((true, true, true, true, p), 0, 0)) ∨
    (∃ p, wkd zs root page false = ((true, true, false, true, p), 0, 0) ∧ wkd zs root page true = ((false, false, false, false, 0), 5, 0)) := by
  obtain ⟨⟨⟨b, r, x, l, p⟩, f⟩, hF⟩ : ∃ F, fnd zs root page = F := ⟨_, rfl⟩
  have hw : ∀ wr, wkd zs root page wr = if f = 0 then (if (r && (x || !wr)) = true then ((b, r, x, l, p), 0, 0) else ((false, false, false, false, 0), 5, 0)) else ((false, false, false, false, 0), f, 0) := by
    intro wr
    rw [wkd, if_pos hk, if_pos hd, wkF, hF]
    by_cases h : f = 0
    · simp only [h, if_true]
      split <;> rfl
    · simp only [h, if_false]
      rfl
  by_cases h : f = 0
  · subst h
    obtain ⟨rfl, rfl⟩ := fnd_good hF
    cases r
    · exact .inl ⟨5, by decide, fun wr => by rw [hw]; rfl⟩
    cases x
    · exact .inr (.inr ⟨p, by rw [hw]; rfl, by rw [hw]; rfl⟩)
    · exact .inr (.inl ⟨p, fun wr => by rw [hw]; rfl⟩)
  · exact .inl ⟨f, h, fun wr => by rw [hw, if_neg h]⟩

/-- Another word of memory changes nothing. -/
theorem fnd_set {zs : List Int} {root page : Int} {k : Nat} {x : Int} (h1 : ¬ k = (8 * root + page / 8).toNat)
    (h2 : vE (one zs root page) = true → lE (one zs root page) = false → ¬ k = (8 * pE (one zs root page) + page % 8).toNat) : fnd (zs.set k x) root page = fnd zs root page := by
  have e1 : one (zs.set k x) root page = one zs root page := nth_set_other h1 x
  unfold fnd
  rw [e1]
  by_cases g1 : fltR (one zs root page) = 0
  · rw [if_pos g1, if_pos g1]
    by_cases g2 : lE (one zs root page) = true
    · rw [if_pos g2, if_pos g2]
    · have e2 : two (zs.set k x) root page = two zs root page := by
        unfold two
        rw [e1]
        exact nth_set_other (h2 (vE_of_flt g1) (by simpa using g2)) x
      rw [if_neg g2, if_neg g2, e2]
  · rw [if_neg g1, if_neg g1]
theorem wkd_set {zs : List Int} {root page : Int} {k : Nat} {x : Int} (wr : Bool) (hk : chk zs = 0) (hx : wordB x = true) (hf : fnd (zs.set k x) root page = fnd zs root page) : wkd (zs.set k x) root page wr = wkd zs root page wr := by
  unfold wkd wkF
  rw [if_pos hk, if_pos (chk_set hk hx), hf]
end Go.Proofs.Ytfbmmiikhkmpfac
/-
  Lines of a cache, as lists alone: what Check, Find, Fill, Drop answer, and what holds of it.
-/
namespace Go.Proofs.Ytfbmmiikhkmpfac
open Go.RowKit

/-- A line: Dev, Page, At, Read, Write. -/
abbrev Ln := Int × Int × Int × Bool × Bool
def L0 : Ln := (0, 0, 0, false, false)
/-- The line at a place: a plain name. -/
def lth (l : List Ln) (i : Nat) : Ln := l.getD i L0
theorem lth_of {l : List Ln} {i : Nat} (h : i < l.length) : l[i]? = some (lth l i) := by simp [lth, h]
theorem lth_get {l : List Ln} {i : Nat} (h : i < l.length) : lth l i = l[i] := by simp [lth, h]
def rngB (x : Ln) : Bool := decide (0 ≤ x.1 ∧ x.1 < 8) && decide (0 ≤ x.2.1 ∧ x.2.1 < 64) && decide (0 ≤ x.2.2.1 ∧ x.2.2.1 < 64)
/-- Are two lines of one Dev and Page? -/
def keyB (x y : Ln) : Bool := decide (x.1 = y.1) && decide (x.2.1 = y.2.1)
/-- The error of the line at a place. -/
def errL (l : List Ln) (j : Nat) : Int :=
  if rngB (lth l j) = true then (if (lth l j).2.2.2.1 = true then (if (l.take j).any (keyB (lth l j)) = true then 5 else 0) else 3) else 2
/-- What Check says. -/
def chkC (l : List Ln) : Int := if 6 < l.length then 1 else (((List.range l.length).map (errL l)).find? (fun e => decide (¬ e = 0))).getD 0
theorem chkC_many {l : List Ln} (h : 6 < l.length) : chkC l = 1 := by rw [chkC, if_pos h]
theorem chkC_all {l : List Ln} (h : ¬ 6 < l.length) (k : ∀ j, j < l.length → errL l j = 0) : chkC l = 0 := by
  rw [chkC, if_neg h, List.find?_eq_none.2]
  · rfl
  · intro e he
    obtain ⟨j, hj, rfl⟩ := List.mem_map.1 he
    simp [k j (List.mem_range.1 hj)]
theorem chkC_at {l : List Ln} {j : Nat} {e : Int} (h : ¬ 6 < l.length) (hj : j < l.length) (k : ∀ i, i < j → errL l i = 0) (he : errL l j = e) (h0 : ¬ e = 0) : chkC l = e := by
  rw [chkC, if_neg h, List.find?_eq_some_iff_getElem.2 ⟨by simpa using h0, j, by simpa using hj, by simpa using he, fun i hi => by simpa using k i hi⟩]
  rfl
/-- A cache: few lines, each right, no two of one Dev and Page. -/
def GoodC (l : List Ln) : Prop := l.length ≤ 6 ∧ (∀ x ∈ l, rngB x = true ∧ x.2.2.2.1 = true) ∧ l.Pairwise (fun x y => keyB y x = false)
theorem errL_zero {l : List Ln} {j : Nat} : errL l j = 0 ↔ rngB (lth l j) = true ∧ (lth l j).2.2.2.1 = true ∧ (l.take j).any (keyB (lth l j)) = false := by
  unfold errL
  cases h1 : rngB (lth l j)
  · simp
  · cases h2 : (lth l j).2.2.2.1
    · simp
    · cases h3 : (l.take j).any (keyB (lth l j)) <;> simp
theorem errL_cases (l : List Ln) (j : Nat) : errL l j = 0 ∨ errL l j = 2 ∨ errL l j = 3 ∨ errL l j = 5 := by
  unfold errL; split
  · split
    · split <;> simp
    · simp
  · simp
theorem chkC_zero {l : List Ln} : chkC l = 0 ↔ GoodC l := by
  constructor
  · intro h
    by_cases hl : 6 < l.length
    · rw [chkC_many hl] at h; omega
    have hz : ∀ j, j < l.length → errL l j = 0 := by
      intro j
      induction j using Nat.strongRecOn with
      | _ j ih =>
        intro hj
        by_cases he : errL l j = 0
        · exact he
        · have := chkC_at hl hj (fun i hi => ih i hi (by omega)) rfl he
          rw [h] at this; omega
    refine ⟨by omega, fun x hx => ?_, ?_⟩
    · obtain ⟨j, hj, rfl⟩ := List.getElem_of_mem hx
      have := errL_zero.1 (hz j hj)
      rw [lth_get hj] at this
      exact ⟨this.1, this.2.1⟩
    · rw [List.pairwise_iff_getElem]
      intro i j hi hj hij
      have := (errL_zero.1 (hz j hj)).2.2
      rw [lth_get hj, List.any_eq_false] at this
      have h2 := this l[i] (List.mem_iff_getElem.2 ⟨i, by simp; omega, by simp⟩)
      simpa using h2
  · rintro ⟨h1, h2, h3⟩
    refine chkC_all (by omega) fun j hj => errL_zero.2 ?_
    rw [lth_get hj]
    refine ⟨(h2 _ (List.getElem_mem hj)).1, (h2 _ (List.getElem_mem hj)).2, ?_⟩
    rw [List.any_eq_false]
    intro x hx
    obtain ⟨i, hi, rfl⟩ := List.mem_iff_getElem.1 hx
    rw [List.pairwise_iff_getElem] at h3
    simp at hi
    have := h3 i j (by omega) hj (by omega)
    simpa using this
theorem chkC_cases (l : List Ln) : chkC l = 0 ∨ chkC l = 1 ∨ chkC l = 2 ∨ chkC l = 3 ∨ chkC l = 5 := by
  by_cases hl : 6 < l.length
  · exact .inr (.inl (chkC_many hl))
  · rw [chkC, if_neg hl]
    cases h : ((List.range l.length).map (errL l)).find? (fun e => decide (¬ e = 0)) with
    | none => simp
    | some e =>
      have := List.mem_of_find?_eq_some h
      obtain ⟨j, _, rfl⟩ := List.mem_map.1 this
      have := errL_cases l j
      simp; omega

/-- The first line of these. -/
def hasB (d p : Int) (x : Ln) : Bool := decide (x.1 = d) && decide (x.2.1 = p)
def fndC (l : List Ln) (d p : Int) : Int := match l.findIdx? (hasB d p) with
  | some i => (i : Int)
  | none => -1
theorem fndC_at {l : List Ln} {d p : Int} {i : Nat} (hi : i < l.length) (h : hasB d p (lth l i) = true) (k : ∀ j, j < i → hasB d p (lth l j) = false) : fndC l d p = i := by
  have : l.findIdx? (hasB d p) = some i := by
    rw [List.findIdx?_eq_some_iff_getElem]
    refine ⟨hi, by rw [← lth_get hi]; exact h, fun j hj => ?_⟩
    rw [← lth_get (by omega), k j hj]; simp
  rw [fndC, this]
theorem fndC_none {l : List Ln} {d p : Int} (k : ∀ j, j < l.length → hasB d p (lth l j) = false) : fndC l d p = -1 := by
  have : l.findIdx? (hasB d p) = none := by
    rw [List.findIdx?_eq_none_iff]
    intro x hx
    obtain ⟨j, hj, rfl⟩ := List.getElem_of_mem hx
    rw [← lth_get hj]; exact k j hj
  rw [fndC, this]
theorem fndC_neg {l : List Ln} {d p : Int} : fndC l d p < 0 ↔ ∀ x ∈ l, hasB d p x = false := by
  unfold fndC
  cases h : l.findIdx? (hasB d p) with
  | none =>
    rw [List.findIdx?_eq_none_iff] at h
    simp only [iff_iff_eq]
    exact propext ⟨fun _ => h, fun _ => by decide⟩
  | some i =>
    rw [List.findIdx?_eq_some_iff_getElem] at h
    obtain ⟨hi, h1, _⟩ := h
    constructor
    · intro h; simp at h; omega
    · intro k; have := k l[i] (List.getElem_mem hi); rw [h1] at this; exact absurd this (by decide)
theorem has_key (x y : Ln) : hasB x.1 x.2.1 y = keyB x y := by
  unfold hasB keyB
  rw [Bool.eq_iff_iff]
  simp only [Bool.and_eq_true, decide_eq_true_eq]
  exact ⟨fun h => ⟨h.1.symm, h.2.symm⟩, fun h => ⟨h.1.symm, h.2.symm⟩⟩
theorem key_self (x : Ln) : keyB x x = true := by simp [keyB]
theorem key_symm (x y : Ln) : keyB x y = keyB y x := by
  unfold keyB
  rw [Bool.eq_iff_iff]
  simp only [Bool.and_eq_true, decide_eq_true_eq]
  exact ⟨fun h => ⟨h.1.symm, h.2.symm⟩, fun h => ⟨h.1.symm, h.2.symm⟩⟩
theorem key_trans {x y z : Ln} (h : keyB x y = true) : keyB x z = keyB y z := by
  simp [keyB] at h
  unfold keyB; rw [h.1, h.2]
theorem fndC_in (l : List Ln) (d p : Int) : -1 ≤ fndC l d p := by unfold fndC; split <;> omega

/-- What Fill answers. -/
def flE (l : List Ln) (x : Ln) : Int := if chkC l = 0 then (if chkC [x] = 0 then (if 0 ≤ fndC l x.1 x.2.1 then 5 else 0) else chkC [x]) else chkC l
def flC (l : List Ln) (x : Ln) : List Ln := if flE l x = 0 then (if l.length = 6 then l.drop 1 else l) ++ [x] else []
/-- What Drop answers. -/
def goesB (k d p : Int) (x : Ln) : Bool := decide (k = 1) || decide (k = 2) && decide (x.1 = d) || decide (k = 3) && decide (x.1 = d) && decide (x.2.1 = p)
def drE (l : List Ln) (k : Int) : Int := if chkC l = 0 then (if 0 ≤ k ∧ k ≤ 3 then 0 else 3) else chkC l
def drC (l : List Ln) (k d p : Int) : List Ln := if drE l k = 0 then l.filter (fun x => !goesB k d p x) else []

theorem flE_zero {l : List Ln} {x : Ln} (h : flE l x = 0) : GoodC l ∧ rngB x = true ∧ x.2.2.2.1 = true ∧ ∀ y ∈ l, keyB x y = false := by
  unfold flE at h
  by_cases h1 : chkC l = 0
  · rw [if_pos h1] at h
    by_cases h2 : chkC [x] = 0
    · rw [if_pos h2] at h
      by_cases h3 : 0 ≤ fndC l x.1 x.2.1
      · rw [if_pos h3] at h; omega
      · have g := (chkC_zero.1 h2).2.1 x (by simp)
        refine ⟨chkC_zero.1 h1, g.1, g.2, fun y hy => ?_⟩
        rw [← has_key]
        exact fndC_neg.1 (by omega) y hy
    · rw [if_neg h2] at h; exact absurd h h2
  · rw [if_neg h1] at h; exact absurd h h1
/-- What is kept of the lines, ahead of the one that is filled in. -/
def oldC (l : List Ln) : List Ln := if l.length = 6 then l.drop 1 else l
theorem oldC_sub (l : List Ln) : (oldC l).Sublist l := by
  unfold oldC; split
  · exact List.drop_sublist 1 l
  · exact List.Sublist.refl l
theorem oldC_len {l : List Ln} (h : l.length ≤ 6) : (oldC l).length ≤ 5 ∧ (oldC l).length ≤ l.length := by
  unfold oldC; split
  · simp; omega
  · omega
theorem oldC_drop (l : List Ln) : oldC l = l.drop (l.length - (oldC l).length) := by
  unfold oldC; split
  · rename_i h; simp [h]
  · simp
theorem flC_ok {l : List Ln} {x : Ln} (h : flE l x = 0) : flC l x = oldC l ++ [x] := by rw [flC, if_pos h, oldC]
theorem fill_good {l : List Ln} {x : Ln} (h : flE l x = 0) : chkC (flC l x) = 0 ∧ fndC (flC l x) x.1 x.2.1 = (oldC l).length ∧ min (l.length + 1) 6 ≤ (flC l x).length := by
  obtain ⟨⟨h1, h2, h3⟩, h4, h5, h6⟩ := flE_zero h
  obtain ⟨o1, o2⟩ := oldC_len h1
  have hs := oldC_sub l
  rw [flC_ok h]
  refine ⟨chkC_zero.2 ⟨by simp; omega, fun y hy => ?_, ?_⟩, ?_, ?_⟩
  · rcases List.mem_append.1 hy with hy | hy
    · exact h2 y (hs.subset hy)
    · obtain rfl := List.mem_singleton.1 hy
      exact ⟨h4, h5⟩
  · rw [List.pairwise_append]
    refine ⟨h3.sublist hs, List.pairwise_singleton _ _, fun a ha b hb => ?_⟩
    obtain rfl := List.mem_singleton.1 hb
    exact h6 a (hs.subset ha)
  · refine fndC_at (by simp) ?_ fun j hj => ?_
    · rw [lth_get (by simp)]; simp [hasB]
    · rw [lth_get (by simp; omega), List.getElem_append_left hj, has_key]
      exact h6 _ (hs.subset (List.getElem_mem hj))
  · unfold oldC; split
    · simp; omega
    · simp; omega
theorem drop_good {l : List Ln} {k d p : Int} (h : drE l k = 0) : chkC (drC l k d p) = 0 := by
  have h1 : chkC l = 0 := by
    unfold drE at h
    by_cases h1 : chkC l = 0
    · exact h1
    · rw [if_neg h1] at h; exact absurd h h1
  obtain ⟨g1, g2, g3⟩ := chkC_zero.1 h1
  rw [drC, if_pos h]
  exact chkC_zero.2 ⟨Nat.le_trans (List.length_filter_le _ _) g1, fun x hx => g2 x (List.mem_filter.1 hx).1, g3.sublist List.filter_sublist⟩
/-- A line is found among those that are left, unless it goes. -/
theorem drop_find {l : List Ln} {k d p : Int} (h : drE l k = 0) {y : Ln} (hy : y ∈ l) : decide (fndC (drC l k d p) y.1 y.2.1 < 0) = goesB k d p y := by
  have h1 : chkC l = 0 := by
    unfold drE at h
    by_cases h1 : chkC l = 0
    · exact h1
    · rw [if_neg h1] at h; exact absurd h h1
  obtain ⟨g1, g2, g3⟩ := chkC_zero.1 h1
  rw [drC, if_pos h, Bool.eq_iff_iff, decide_eq_true_eq, fndC_neg]
  constructor
  · intro hall
    cases hg : goesB k d p y
    · have := hall y (List.mem_filter.2 ⟨hy, by simp [hg]⟩)
      rw [has_key, key_self] at this
      exact absurd this (by decide)
    · rfl
  · intro hg x hx
    obtain ⟨hx1, hx2⟩ := List.mem_filter.1 hx
    rw [has_key]
    cases hk : keyB y x
    · rfl
    · exfalso
      have hxy : x = y := by
        obtain ⟨i, hi, rfl⟩ := List.getElem_of_mem hx1
        obtain ⟨j, hj, rfl⟩ := List.getElem_of_mem hy
        rw [List.pairwise_iff_getElem] at g3
        by_cases e : i = j
        · subst e; rfl
        · exfalso
          rcases Nat.lt_or_ge i j with hlt | hge
          · have := g3 i j hi hj hlt
            rw [hk] at this; exact absurd this (by decide)
          · have := g3 j i hj hi (by omega)
            rw [key_symm, hk] at this; exact absurd this (by decide)
      subst hxy
      rw [hg] at hx2
      exact absurd hx2 (by decide)
/-- How many of the first so many lines are left; and which. -/
def leftN (l : List Ln) (k d p : Int) (j : Nat) : Nat := ((l.take j).filter (fun x => !goesB k d p x)).length
theorem leftN_zero (l : List Ln) (k d p : Int) : leftN l k d p 0 = 0 := by simp [leftN]
theorem leftN_gone {l : List Ln} {k d p : Int} {j : Nat} (hj : j < l.length) (h : goesB k d p (lth l j) = true) : leftN l k d p (j + 1) = leftN l k d p j := by
  rw [lth_get hj] at h
  unfold leftN
  rw [List.take_succ_eq_append_getElem hj, List.filter_append]
  simp [h]
theorem leftN_kept {l : List Ln} {k d p : Int} {j : Nat} (hj : j < l.length) (h : goesB k d p (lth l j) = false) : leftN l k d p (j + 1) = leftN l k d p j + 1 := by
  rw [lth_get hj] at h
  unfold leftN
  rw [List.take_succ_eq_append_getElem hj, List.filter_append]
  simp [h]
theorem leftN_all (l : List Ln) (k d p : Int) : leftN l k d p l.length = (l.filter (fun x => !goesB k d p x)).length := by simp [leftN]
theorem drop_at {l : List Ln} {k d p : Int} {j : Nat} (hj : j < l.length) (h : goesB k d p (lth l j) = false) :
    leftN l k d p j < (l.filter (fun x => !goesB k d p x)).length ∧ lth (l.filter (fun x => !goesB k d p x)) (leftN l k d p j) = lth l j := by
  have hsplit : l.filter (fun x => !goesB k d p x) = (l.take j).filter (fun x => !goesB k d p x) ++ (lth l j :: (l.drop (j + 1)).filter (fun x => !goesB k d p x)) := by
    have e : l = l.take j ++ (l[j] :: l.drop (j + 1)) := by simp
    rw [lth_get hj] at h ⊢
    conv => lhs; rw [e]
    rw [List.filter_append, List.filter_cons]
    simp [h]
  rw [hsplit]
  refine ⟨by simp [leftN], ?_⟩
  rw [lth_get (by simp [leftN])]
  simp [leftN]
end Go.Proofs.Ytfbmmiikhkmpfac
/-
  A slice of lines reads as a list of lines in a world (Ls); nothing of it turns while the world only grows.
-/
namespace Go.Proofs.Ytfbmmiikhkmpfac
open Go.RowKit

/-- The five cells of a line. -/
def cellsL (x : Ln) : List Value := [.int .i64 x.1, .int .i64 x.2.1, .int .i64 x.2.2.1, .bool x.2.2.2.1, .bool x.2.2.2.2]
/-- At this place of memory lies this line. -/
def AtL (w : World) (b o : Nat) (x : Ln) : Prop :=
  w.cell? ⟨b, o, none⟩ = some (.int .i64 x.1) ∧ w.cell? ⟨b, o + 1, none⟩ = some (.int .i64 x.2.1) ∧ w.cell? ⟨b, o + 2, none⟩ = some (.int .i64 x.2.2.1) ∧ w.cell? ⟨b, o + 3, none⟩ = some (.bool x.2.2.2.1) ∧ w.cell? ⟨b, o + 4, none⟩ = some (.bool x.2.2.2.2)

/-- A slice reads as a list of lines in a world. -/
def Ls (w : World) (v : Value) (l : List Ln) : Prop :=
  ∃ a cap, v = .slice a l.length cap ∧ l.length ≤ cap ∧ cap ≤ maxLen ∧
    (l = [] ∨ ∃ b o, a = some ⟨b, o, none⟩ ∧ b < w.heap.size ∧ ∀ i, i < l.length → AtL w b (o + i * 5) (lth l i))

theorem AtL.keep {w w' : World} {b o : Nat} {x : Ln} (h : AtL w b o x) (hb : Below w.heap.size w w') (hl : b < w.heap.size) : AtL w' b o x := by
  obtain ⟨c, _⟩ := bcell hb
  unfold AtL
  rw [c _ _ hl, c _ _ hl, c _ _ hl, c _ _ hl, c _ _ hl]
  exact h
theorem Ls.keep {w w' : World} {v : Value} {l : List Ln} (h : Ls w v l) (hb : Below w.heap.size w w') : Ls w' v l := by
  obtain ⟨a, cap, rfl, hl, hm, h⟩ := h
  refine ⟨a, cap, rfl, hl, hm, ?_⟩
  rcases h with h | ⟨b, o, rfl, hlt, hc⟩
  · exact .inl h
  · exact .inr ⟨b, o, rfl, Nat.lt_of_lt_of_le hlt hb.size, fun i hi => (hc i hi).keep hb hlt⟩
theorem Ls.alloc {w : World} {v : Value} {l : List Ln} (h : Ls w v l) (o : Obj) : Ls (w.alloc o) v l := h.keep (bel_alloc (Below.refl _ _) _)
theorem Ls.nil (w : World) (a : Option Addr) (cap : Nat) (h : cap ≤ maxLen) : Ls w (.slice a 0 cap) [] := ⟨a, cap, rfl, Nat.zero_le _, h, .inl rfl⟩
theorem Ls.nothing (w : World) : Ls w (.slice none 0 0) [] := Ls.nil w _ _ (Nat.zero_le _)

/-- What holds at the places so far, and at the next one. -/
theorem upto_next {P : Nat → Prop} {k : Nat} (h : ∀ j, j < k → P j) (hk : P k) : ∀ j, j < k + 1 → P j := fun j hj => by
  by_cases e : j = k
  · rw [e]; exact hk
  · exact h j (by omega)
end Go.Proofs.Ytfbmmiikhkmpfac
/-
  Package cache: isDev, isPage, checkLine, the closure of isOf, isOf itself; drawbridgeref's in. None turns memory that was there.
-/
namespace Go.Proofs.Ytfbmmiikhkmpfac
open Go.RowKit

def devB (z : Int) : Bool := decide (0 ≤ z ∧ z < 8)
def pgB (z : Int) : Bool := decide (0 ≤ z ∧ z < 64)

theorem isDev_any (z : Int) (w : World) : Calls Try.prog 61 #[.int .i64 z] w fun e w' => e = .returned (.bool (devB z)) ∧ w' = w := by
  by_cases h1 : 0 ≤ z
  · by_cases h2 : z < 8
    · have : devB z = true := by simp [devB, h1, h2]
      rw [this]
      go_enter Try.func61, Try.ntmps61
      go_wp2
      go_ret
      exact ⟨rfl, rfl⟩
    · have : devB z = false := by simp [devB, h2]
      rw [this]
      go_enter Try.func61, Try.ntmps61
      go_wp2
      go_ret
      exact ⟨rfl, rfl⟩
  · have : devB z = false := by simp [devB, h1]
    rw [this]
    go_enter Try.func61, Try.ntmps61
    go_wp2
    go_ret
    exact ⟨rfl, rfl⟩

theorem cPage_any (z : Int) (w : World) : Calls Try.prog 62 #[.int .i64 z] w fun e w' => e = .returned (.bool (pgB z)) ∧ w' = w := by
  by_cases h1 : 0 ≤ z
  · by_cases h2 : z < 64
    · have : pgB z = true := by simp [pgB, h1, h2]
      rw [this]
      go_enter Try.func62, Try.ntmps62
      go_wp2
      go_ret
      exact ⟨rfl, rfl⟩
    · have : pgB z = false := by simp [pgB, h2]
      rw [this]
      go_enter Try.func62, Try.ntmps62
      go_wp2
      go_ret
      exact ⟨rfl, rfl⟩
  · have : pgB z = false := by simp [pgB, h1]
    rw [this]
    go_enter Try.func62, Try.ntmps62
    go_wp2
    go_ret
    exact ⟨rfl, rfl⟩

def inB (z a b : Int) : Bool := decide (a ≤ z ∧ z ≤ b)
theorem in_dev (z : Int) : inB z 0 7 = devB z := by unfold inB devB; congr 1; apply propext; omega
theorem in_page (z : Int) : inB z 0 63 = pgB z := by unfold inB pgB; congr 1; apply propext; omega
theorem cIn_any (z a b : Int) (w : World) : Calls Try.prog 32 #[.int .i64 z, .int .i64 a, .int .i64 b] w fun e w' => e = .returned (.bool (inB z a b)) ∧ w' = w := by
  by_cases h1 : a ≤ z
  · by_cases h2 : z ≤ b
    · have : inB z a b = true := by simp [inB, h1, h2]
      rw [this]
      go_enter Try.func32, Try.ntmps32
      go_wp2
      go_ret
      exact ⟨rfl, rfl⟩
    · have : inB z a b = false := by simp [inB, h2]
      rw [this]
      go_enter Try.func32, Try.ntmps32
      go_wp2
      go_ret
      exact ⟨rfl, rfl⟩
  · have : inB z a b = false := by simp [inB, h1]
    rw [this]
    go_enter Try.func32, Try.ntmps32
    go_wp2
    go_ret
    exact ⟨rfl, rfl⟩

/-- What is wrong with a line by itself. -/
def own (x : Ln) : Int := if rngB x = true then (if x.2.2.2.1 = true then 0 else 3) else 2
theorem rng_split (d p a : Int) (r x : Bool) : rngB (d, p, a, r, x) = (devB d && pgB p && pgB a) := rfl

set_option maxHeartbeats 1000000 in
theorem checkLine_any (d p a : Int) (r x : Bool) (w : World) :
    Calls Try.prog 51 #[.agg #[.int .i64 d, .int .i64 p, .int .i64 a, .bool r, .bool x]] w fun e w' => e = .returned (.int .i64 (own (d, p, a, r, x))) ∧ ∃ o, w' = w.alloc o := by
  have ho : own (d, p, a, r, x) = if (devB d && pgB p && pgB a) = true then (if r = true then 0 else 3) else 2 := rfl
  rw [ho]
  clear ho
  cases h1 : devB d
  · go_enter Try.func51, Try.ntmps51
    go_wp2_with (first | (go_at_call 61; refine (isDev_any _ _).mono ?_; rintro e w1 ⟨rfl, rfl⟩; rw [h1]))
    go_ret
    exact ⟨rfl, _, rfl⟩
  cases h2 : pgB p
  · go_enter Try.func51, Try.ntmps51
    go_wp2_with (first | (go_at_call 61; refine (isDev_any _ _).mono ?_; rintro e w1 ⟨rfl, rfl⟩; rw [h1]) | (go_at_call 62; refine (cPage_any _ _).mono ?_; rintro e w1 ⟨rfl, rfl⟩; rw [h2]))
    go_ret
    exact ⟨rfl, _, rfl⟩
  cases h3 : pgB a
  · go_enter Try.func51, Try.ntmps51
    go_wp2_with (first | (go_at_call 61; refine (isDev_any _ _).mono ?_; rintro e w1 ⟨rfl, rfl⟩; rw [h1]) | (go_at_call 62; refine (cPage_any _ _).mono ?_; rintro e w1 ⟨rfl, rfl⟩; first | rw [h2] | rw [h3]))
    go_ret
    exact ⟨rfl, _, rfl⟩
  cases r
  all_goals
    go_enter Try.func51, Try.ntmps51
    go_wp2_with (first | (go_at_call 61; refine (isDev_any _ _).mono ?_; rintro e w1 ⟨rfl, rfl⟩; rw [h1]) | (go_at_call 62; refine (cPage_any _ _).mono ?_; rintro e w1 ⟨rfl, rfl⟩; first | rw [h2] | rw [h3]))
    go_ret
    exact ⟨rfl, _, rfl⟩

/-- The closure of isOf. -/
theorem is_any (n m : Nat) (d p d1 p1 a : Int) (r x : Bool) (w : World) (h1 : w.cell? ⟨n, 0, none⟩ = some (.int .i64 d)) (h2 : w.cell? ⟨m, 0, none⟩ = some (.int .i64 p)) (l1 : n < w.heap.size) (l2 : m < w.heap.size) :
    Calls Try.prog 69 #[.agg #[.int .i64 d1, .int .i64 p1, .int .i64 a, .bool r, .bool x], .pointer (some ⟨n, 0, none⟩), .pointer (some ⟨m, 0, none⟩)] w fun e w' => e = .returned (.bool (hasB d p (d1, p1, a, r, x))) ∧ ∃ o, w' = w.alloc o := by
  have ho : hasB d p (d1, p1, a, r, x) = (decide (d1 = d) && decide (p1 = p)) := rfl
  rw [ho]
  clear ho
  by_cases e1 : d1 = d
  · by_cases e2 : p1 = p
    · subst e1 e2
      go_enter Try.func69, Try.ntmps69
      go_wp2
      go_ret
      exact ⟨by simp, _, rfl⟩
    · have q1 : (d1 == d) = true := by simpa using e1
      have q2 : (p1 == p) = false := by simpa using e2
      have q3 : Hid ((decide (d1 = d) && decide (p1 = p)) = false) := by show _ = _; simp [e2]
      rw [q3.out]
      clear e1 e2 q3
      go_enter Try.func69, Try.ntmps69
      go_wp2
      go_ret
      exact ⟨rfl, _, rfl⟩
  · have q1 : (d1 == d) = false := by simpa using e1
    have q3 : Hid ((decide (d1 = d) && decide (p1 = p)) = false) := by show _ = _; simp [e1]
    rw [q3.out]
    clear e1 q3
    go_enter Try.func69, Try.ntmps69
    go_wp2
    go_ret
    exact ⟨rfl, _, rfl⟩

theorem isOf_any (d p : Int) (w : World) :
    Calls Try.prog 64 #[.int .i64 d, .int .i64 p] w fun e w' => e = .returned (.func (.func 69) #[] #[.pointer (some ⟨w.heap.size, 0, none⟩), .pointer (some ⟨w.heap.size + 1, 0, none⟩)]) ∧ w' = (w.alloc (.cells #[.int .i64 d] 3)).alloc (.cells #[.int .i64 p] 3) := by
  have hmf : ∀ (fn : Fn) (first cap : Array Value) (w : World), (Instr.makeFunc fn first cap).run Try.prog w = .ok (.func fn first cap) w := fun _ _ _ _ => rfl
  go_enter Try.func64, Try.ntmps64
  go_wp2
  go_ret
  exact ⟨rfl, rfl⟩
end Go.Proofs.Ytfbmmiikhkmpfac
/-
  slices.IndexFunc with the closure of isOf, and cache.Find: which line it is; nothing that was there turns.
-/
namespace Go.Proofs.Ytfbmmiikhkmpfac
open Go.RowKit

set_option maxHeartbeats 1000000 in
theorem indexFunc_any (v : Value) (l : List Ln) (n m : Nat) (d p : Int) (w : World) (h : Ls w v l) (h1 : w.cell? ⟨n, 0, none⟩ = some (.int .i64 d)) (h2 : w.cell? ⟨m, 0, none⟩ = some (.int .i64 p)) (l1 : n < w.heap.size) (l2 : m < w.heap.size) :
    Calls Try.prog 63 #[v, .func (.func 69) #[] #[.pointer (some ⟨n, 0, none⟩), .pointer (some ⟨m, 0, none⟩)]] w fun e w' => e = .returned (.int .i64 (fndC l d p)) ∧ Below w.heap.size w w' := by
  obtain ⟨a, cap, rfl, hl, hm, h⟩ := h
  unfold maxLen at hm
  rcases h with rfl | ⟨b, o, rfl, hb, hc⟩
  · go_enter Try.func63, Try.ntmps63
    go_wp2
    go_loopw [5, 8] (fun _ i w' => i = .int .i64 0 ∧ w' = w) (fun _ i _ => 0)
    case atStart => exact ⟨rfl, rfl⟩
    case round =>
      obtain ⟨rfl, rfl⟩ := hrel
      go_wp2
      go_ret
      exact ⟨ret_int (fndC_none (fun j hj => absurd hj (Nat.not_lt_zero _))).symm, Below.refl _ _⟩
  · have HC : Hid _ := hc
    have H1 : Hid _ := h1
    have H2 : Hid _ := h2
    clear hc h1 h2
    go_enter Try.func63, Try.ntmps63
    go_wp2
    go_loopw [5, 8] (fun _ i w' => ∃ k : Nat, k ≤ l.length ∧ i = .int .i64 k ∧ (∀ j, j < k → hasB d p (lth l j) = false) ∧ Below w.heap.size w w') (fun _ i _ => l.length - (intOf i).toNat)
    case atStart => exact ⟨0, Nat.zero_le _, rfl, fun j hj => absurd hj (Nat.not_lt_zero _), Below.refl _ _⟩
    case round =>
      obtain ⟨k, hk, rfl, hpre, hB⟩ := hrel
      have HP : Hid _ := hpre
      have HB : Hid _ := hB
      by_cases hlt : k < l.length
      · obtain ⟨g0, g1, g2, g3, g4⟩ := (HC.out k hlt).keep hB hb
        have c1 : Hid (wr.cell? ⟨n, 0, none⟩ = _) := ((bcell hB).1 n 0 l1).trans H1.out
        have c2 : Hid (wr.cell? ⟨m, 0, none⟩ = _) := ((bcell hB).1 m 0 l2).trans H2.out
        have s1 : n < wr.heap.size := Nat.lt_of_lt_of_le l1 hB.size
        have s2 : m < wr.heap.size := Nat.lt_of_lt_of_le l2 hB.size
        have hb' : b < wr.heap.size := Nat.lt_of_lt_of_le hb hB.size
        obtain ⟨y, hy⟩ : ∃ y, y = lth l k := ⟨_, rfl⟩
        have HY : Hid _ := hy
        rw [← hy] at g0 g1 g2 g3 g4
        clear hy hpre hB
        obtain ⟨d1, p1, a1, r1, x1⟩ := y
        simp only at g0 g1 g2 g3 g4
        have hlt1 : (k : Int) < l.length := by omega
        go_wp2_with fail
        refine (is_any n m d p d1 p1 a1 r1 x1 wr c1.out c2.out s1 s2).mono ?_
        rintro e w1 ⟨rfl, ob, rfl⟩
        cases hh : hasB d p (d1, p1, a1, r1, x1)
        · have HN : Hid (hasB d p (lth l k) = false) := by show _ = _; rw [← HY.out]; exact hh
          go_wp2
          exact ⟨⟨k + 1, by omega, by go_num, upto_next HP.out HN.out, bel_alloc HB.out _⟩, by simp [intOf]; omega⟩
        · have HF : Hid (fndC l d p = k) := fndC_at hlt (by rw [← HY.out]; exact hh) HP.out
          go_wp2
          go_ret
          exact ⟨ret_int HF.out.symm, bel_alloc HB.out _⟩
      · have HF : Hid (fndC l d p = -1) := fndC_none fun j hj => HP.out j (by omega)
        clear hpre hB
        go_wp2
        go_ret
        exact ⟨ret_int HF.out.symm, HB.out⟩

set_option maxHeartbeats 1000000 in
theorem cFind_any (v : Value) (l : List Ln) (d p : Int) (w : World) (h : Ls w v l) :
    Calls Try.prog 52 #[v, .int .i64 d, .int .i64 p] w fun e w' => e = .returned (.int .i64 (fndC l d p)) ∧ Below w.heap.size w w' := by
  go_enter Try.func52, Try.ntmps52
  go_wp2_with fail
  refine (isOf_any _ _ _).mono ?_
  rintro e w1 ⟨rfl, rfl⟩
  have B1 : Hid (Below w.heap.size w ((w.alloc (.cells #[.int .i64 d] 3)).alloc (.cells #[.int .i64 p] 3))) := bel_alloc (bel_alloc (Below.refl _ _) _) _
  go_wp2_with fail
  refine (indexFunc_any v l w.heap.size (w.heap.size + 1) d p _ (h.keep B1.out) ?_ ?_ ?_ ?_).mono ?_
  · simp [go_sem]
  · simp [go_sem]
  · simp; omega
  · simp
  rintro e w2 ⟨rfl, b2⟩
  go_wp2
  go_ret
  exact ⟨rfl, bel_trans B1.out b2⟩
end Go.Proofs.Ytfbmmiikhkmpfac
/-
  cache.Check: the first thing that is wrong with lines; nothing that was there turns.
-/
namespace Go.Proofs.Ytfbmmiikhkmpfac
open Go.RowKit

theorem Ls.take {w : World} {a : Option Addr} {n cap : Nat} {l : List Ln} (h : Ls w (.slice a n cap) l) {k : Nat} (hk : k ≤ l.length) : Ls w (.slice a k cap) (l.take k) := by
  obtain ⟨a', cap', e, hl, hm, h⟩ := h
  simp only [Value.slice.injEq] at e
  obtain ⟨rfl, _, rfl⟩ := e
  have hn : (l.take k).length = k := by simp; omega
  refine ⟨a, cap, by rw [hn], by omega, hm, ?_⟩
  rcases h with rfl | ⟨b, o, rfl, hb, hc⟩
  · exact .inl (by simp)
  · refine .inr ⟨b, o, rfl, hb, fun i hi => ?_⟩
    rw [hn] at hi
    have : lth (l.take k) i = lth l i := by simp [lth, hi]
    rw [this]
    exact hc i (by omega)

theorem Ls.drop {w : World} {b o n cap : Nat} {l : List Ln} (h : Ls w (.slice (some ⟨b, o, none⟩) n cap) l) {k : Nat} (hk : k ≤ l.length) : Ls w (.slice (some ⟨b, o + k * 5, none⟩) (l.length - k) (cap - k)) (l.drop k) := by
  obtain ⟨a', cap', e, hl, hm, h⟩ := h
  simp only [Value.slice.injEq] at e
  obtain ⟨rfl, _, rfl⟩ := e
  have hn : (l.drop k).length = l.length - k := by simp
  refine ⟨_, cap - k, by rw [hn], by omega, by omega, ?_⟩
  rcases h with rfl | ⟨b', o', e, hb, hc⟩
  · exact .inl (by simp)
  · simp only [Option.some.injEq, Addr.mk.injEq, and_true] at e
    obtain ⟨rfl, rfl⟩ := e
    refine .inr ⟨b, o + k * 5, rfl, hb, fun i hi => ?_⟩
    rw [hn] at hi
    have hlth : lth (l.drop k) i = lth l (k + i) := by simp [lth]
    rw [hlth]
    have := hc (k + i) (by omega)
    rwa [Nat.add_mul, ← Nat.add_assoc] at this

theorem any_find (l : List Ln) (x : Ln) : l.any (keyB x) = true ↔ 0 ≤ fndC l x.1 x.2.1 := by
  have h := @fndC_neg l x.1 x.2.1
  constructor
  · intro ha
    have : ¬ fndC l x.1 x.2.1 < 0 := fun hn => by
      obtain ⟨y, hy, hk⟩ := List.any_eq_true.1 ha
      have := h.1 hn y hy
      rw [has_key, hk] at this
      exact absurd this (by decide)
    omega
  · intro h0
    cases ha : l.any (keyB x)
    · exfalso
      have : fndC l x.1 x.2.1 < 0 := h.2 fun y hy => by
        rw [has_key]
        rw [List.any_eq_false] at ha
        simpa using ha y hy
      omega
    · rfl
theorem errL_own {l : List Ln} {k : Nat} (h : ¬ own (lth l k) = 0) : errL l k = own (lth l k) := by
  unfold errL own at *
  cases h1 : rngB (lth l k)
  · simp
  · cases h2 : (lth l k).2.2.2.1
    · simp
    · simp [h1, h2] at h
theorem errL_twice {l : List Ln} {k : Nat} (h : own (lth l k) = 0) (hf : 0 ≤ fndC (l.take k) (lth l k).1 (lth l k).2.1) : errL l k = 5 := by
  unfold errL own at *
  cases h1 : rngB (lth l k)
  · simp [h1] at h
  · cases h2 : (lth l k).2.2.2.1
    · simp [h1, h2] at h
    · simp only [if_true]
      rw [if_pos ((any_find _ _).2 hf)]
theorem errL_fine {l : List Ln} {k : Nat} (h : own (lth l k) = 0) (hf : ¬ 0 ≤ fndC (l.take k) (lth l k).1 (lth l k).2.1) : errL l k = 0 := by
  unfold errL own at *
  cases h1 : rngB (lth l k)
  · simp [h1] at h
  · cases h2 : (lth l k).2.2.2.1
    · simp [h1, h2] at h
    · simp only [if_true]
      rw [if_neg fun ha => hf ((any_find _ _).1 ha)]

/-- Two cells that are read, and nothing that has turned. -/
theorem keep2 {W w' : World} {n : Nat} {u v : Value} (h0 : W.cell? ⟨n, 0, none⟩ = some u) (h1 : W.cell? ⟨n, 1, none⟩ = some v) (hn : n < W.heap.size) (hb : Below W.heap.size W w') :
    w'.cell? ⟨n, 0, none⟩ = some u ∧ w'.cell? ⟨n, 1, none⟩ = some v ∧ Below W.heap.size W w' :=
  ⟨((bcell hb).1 n 0 hn).trans h0, ((bcell hb).1 n 1 hn).trans h1, hb⟩

set_option maxHeartbeats 1000000 in
theorem cCheck_any (v : Value) (l : List Ln) (w : World) (h : Ls w v l) :
    Calls Try.prog 46 #[v] w fun e w' => e = .returned (.int .i64 (chkC l)) ∧ Below w.heap.size w w' := by
  have HL : Hid (Ls w v l) := h
  obtain ⟨a, cap, rfl, hl, hm, h⟩ := h
  unfold maxLen at hm
  by_cases h6 : 6 < l.length
  · have e6 : chkC l = 1 := chkC_many h6
    rw [e6]
    have h6' : (6 : Int) < l.length := by omega
    go_enter Try.func46, Try.ntmps46
    go_wp2
    go_ret
    exact ⟨rfl, Below.refl _ _⟩
  have h6' : ¬ (6 : Int) < l.length := by omega
  have hmz : (l.length : Int) ≤ 6 := by omega
  rcases h with rfl | ⟨b, o, rfl, hb, hc⟩
  · go_enter Try.func46, Try.ntmps46
    go_wp2
    go_loopw [3, 4, 5, 11] (fun _ _ _ i w' => i = .int .i64 0 ∧ w' = w) (fun _ _ _ i _ => 0)
    case atStart => exact ⟨rfl, rfl⟩
    case round =>
      obtain ⟨rfl, rfl⟩ := hrel
      go_wp2
      go_ret
      exact ⟨ret_int (chkC_all h6 (fun j hj => absurd hj (Nat.not_lt_zero _))).symm, Below.refl _ _⟩
  · have HC : Hid _ := hc
    clear hc
    go_enter Try.func46, Try.ntmps46
    go_wp2
    go_loopw [3, 4, 5, 11] (fun _ _ _ i w' => ∃ k : Nat, k ≤ l.length ∧ i = .int .i64 k ∧ (∀ j, j < k → errL l j = 0) ∧ Below w.heap.size w w') (fun _ _ _ i _ => l.length - (intOf i).toNat)
    case atStart => exact ⟨0, Nat.zero_le _, rfl, fun j hj => absurd hj (Nat.not_lt_zero _), Below.refl _ _⟩
    case round =>
      obtain ⟨k, hk, rfl, hpre, hB⟩ := hrel
      have HP : Hid _ := hpre
      have HB : Hid _ := hB
      by_cases hlt : k < l.length
      · obtain ⟨g0, g1, g2, g3, g4⟩ := (HC.out k hlt).keep hB hb
        have hb' : b < wr.heap.size := Nat.lt_of_lt_of_le hb hB.size
        obtain ⟨y, hy⟩ : ∃ y, y = lth l k := ⟨_, rfl⟩
        have HY : Hid _ := hy
        rw [← hy] at g0 g1 g2 g3 g4
        clear hy hpre hB
        obtain ⟨d1, p1, a1, r1, x1⟩ := y
        simp only at g0 g1 g2 g3 g4
        have hlt1 : (k : Int) < l.length := by omega
        go_wp2_with fail
        refine (checkLine_any d1 p1 a1 r1 x1 _).mono ?_
        rintro e w1 ⟨rfl, ob, rfl⟩
        by_cases ho : own (d1, p1, a1, r1, x1) = 0
        rotate_left
        · have HE : Hid (chkC l = own (d1, p1, a1, r1, x1)) := chkC_at h6 hlt HP.out (by have := errL_own (l := l) (k := k) (by rw [← HY.out]; exact ho); rw [this, ← HY.out]) ho
          have hq : (own (d1, p1, a1, r1, x1) != 0) = true := by simpa using ho
          clear ho
          generalize own (d1, p1, a1, r1, x1) = z at *
          go_wp2
          go_ret
          exact ⟨ret_int HE.out.symm, bel_alloc (bel_alloc HB.out _) _⟩
        rw [ho]
        have k1 := ((Blk.new wr #[.int .i64 d1, .int .i64 p1, .int .i64 a1, .bool r1, .bool x1] 56 (0, 0)).past ob).five
        have B1 := bel_alloc (bel_alloc HB.out (.cells #[.int .i64 d1, .int .i64 p1, .int .i64 a1, .bool r1, .bool x1] 56 (0, 0))) ob
        have s1 : wr.heap.size < ((wr.alloc (.cells #[.int .i64 d1, .int .i64 p1, .int .i64 a1, .bool r1, .bool x1] 56 (0, 0))).alloc ob).heap.size := by simp; omega
        obtain ⟨c0, c1, _, _, _⟩ := k1
        go_wp2
        generalize ((wr.alloc (.cells #[.int .i64 d1, .int .i64 p1, .int .i64 a1, .bool r1, .bool x1] 56 (0, 0))).alloc ob) = wx at *
        have HT : Hid (Ls wx (.slice (some ⟨b, o, none⟩) k cap) (l.take k)) := (HL.out.keep B1).take hk
        have HO : Hid _ := ho
        have HB1 : Hid _ := B1
        clear B1 ho g0 g1 g2 g3 g4 HB HC
        have z0 : (0 : Int) ≤ k := by omega
        have z1 : (k : Int) ≤ cap := by omega
        have z2 : k ≤ cap := by omega
        have z3 : ¬ cap = 0 := by omega
        go_region_held3 (fun w' => w'.cell? ⟨wr.heap.size, 0, none⟩ = some (.int .i64 d1) ∧ w'.cell? ⟨wr.heap.size, 1, none⟩ = some (.int .i64 p1) ∧ Below wx.heap.size wx w')
          (with_reducible refine keep2 (by assumption) (by assumption) (by assumption) ?_; (repeat (first | with_reducible assumption | (with_reducible (refine And.right (a := _ = _) (And.right (a := _ = _) (?_ : _ ∧ _ ∧ _)); assumption)) | with_reducible exact Below.refl _ _ | with_reducible refine Below.drew ?_ | with_reducible refine bel_drewN ?_ _ | with_reducible refine bel_alloc ?_ _ | with_reducible refine bel_trans ?_ (by assumption))))
          (first | (go_at_call 52; refine (cFind_any _ (l.take k) d1 p1 _ ?_).mono ?_; (focus (refine HT.out.keep ?_; (repeat (first | with_reducible assumption | (with_reducible (refine And.right (a := _ = _) (And.right (a := _ = _) (?_ : _ ∧ _ ∧ _)); assumption)) | with_reducible exact Below.refl _ _ | with_reducible refine Below.drew ?_ | with_reducible refine bel_drewN ?_ _)))); rintro e w1 ⟨rfl, b1⟩))
        rename_i hH
        have HB2 : Hid _ := bel_trans HB1.out hH.2.2
        clear hH b1
        by_cases hf : 0 ≤ fndC (l.take k) d1 p1
        · have HE : Hid (chkC l = 5) := chkC_at h6 hlt HP.out (errL_twice (by rw [← HY.out]; exact HO.out) (by rw [← HY.out]; exact hf)) (by decide)
          go_wp2
          go_ret
          exact ⟨ret_int HE.out.symm, HB2.out⟩
        · have HE : Hid (errL l k = 0) := errL_fine (by rw [← HY.out]; exact HO.out) (by rw [← HY.out]; exact hf)
          go_wp2
          exact ⟨⟨k + 1, by omega, by go_num, upto_next HP.out HE.out, HB2.out⟩, by simp [intOf]; omega⟩
      · have HF : Hid (chkC l = 0) := chkC_all h6 fun j hj => HP.out j (by omega)
        clear hpre hB
        go_wp2
        go_ret
        exact ⟨ret_int HF.out.symm, HB.out⟩
end Go.Proofs.Ytfbmmiikhkmpfac
/-
  append of lines to a row of its own: what it gives, as an operation of a region, drawn or not.
-/
namespace Go.Proofs.Ytfbmmiikhkmpfac
open Go.RowKit

theorem infoLine : ∃ i, Try.prog.info? 56 = some i ∧ i.zero = some (.agg #[.int .i64 0, .int .i64 0, .int .i64 0, .bool false, .bool false]) ∧ i.size = 5 ∧ i.bytes = 32 := by
  have h : (Try.prog.info? 56).map (fun i => (i.zero, i.size, i.bytes)) = some (some (.agg #[.int .i64 0, .int .i64 0, .int .i64 0, .bool false, .bool false]), 5, 32) := by kernel_rfl
  cases hi : Try.prog.info? 56 with
  | none => rw [hi] at h; simp at h
  | some i => rw [hi] at h; simp at h; exact ⟨i, rfl, h.1, h.2.1, h.2.2⟩

theorem cellsL_len (x : Ln) : (cellsL x).length = 5 := rfl
theorem flat_len (l : List Ln) : (l.flatMap cellsL).length = l.length * 5 := by
  induction l with
  | nil => rfl
  | cons x t ih => rw [List.flatMap_cons, List.length_append, ih, cellsL_len, List.length_cons]; omega
theorem lth_succ (x : Ln) (t : List Ln) (i : Nat) : lth (x :: t) (i + 1) = lth t i := by simp [lth]
theorem flat_at (l : List Ln) : ∀ (i r : Nat), i < l.length → r < 5 → (l.flatMap cellsL)[i * 5 + r]? = (cellsL (lth l i))[r]? := by
  induction l with
  | nil => intro i r hi _; exact absurd hi (Nat.not_lt_zero _)
  | cons x t ih =>
    intro i r hi hr
    rw [List.flatMap_cons]
    cases i with
    | zero =>
      rw [Nat.zero_mul, Nat.zero_add, List.getElem?_append_left (by rw [cellsL_len]; exact hr)]
      rfl
    | succ i =>
      rw [List.getElem?_append_right (by rw [cellsL_len]; omega), cellsL_len, lth_succ, ← ih i r (by simpa using hi) hr]
      congr 1; omega
theorem flat_of {l : List Ln} {j : Nat} {u : Value} (h : (l.flatMap cellsL)[j]? = some u) : ∃ i r, i < l.length ∧ r < 5 ∧ j = i * 5 + r ∧ (cellsL (lth l i))[r]? = some u := by
  have hj : j < l.length * 5 := by
    rw [← flat_len]
    rcases Nat.lt_or_ge j (l.flatMap cellsL).length with k | k
    · exact k
    · rw [List.getElem?_eq_none k] at h; cases h
  refine ⟨j / 5, j % 5, by omega, by omega, by omega, ?_⟩
  rw [← flat_at l (j / 5) (j % 5) (by omega) (by omega), ← h]
  congr 1; omega
theorem flat_one (l : List Ln) : ∀ u ∈ l.flatMap cellsL, u.oneCell' = true := by
  intro u hu
  obtain ⟨x, _, hx⟩ := List.mem_flatMap.1 hu
  simp only [cellsL, List.mem_cons, List.not_mem_nil, or_false] at hx
  rcases hx with rfl | rfl | rfl | rfl | rfl <;> rfl
theorem add_off (b o j : Nat) : Addr.add ⟨b, o, none⟩ j = ⟨b, o + j, none⟩ := by unfold Addr.add; split <;> simp_all
theorem atL_cell {w : World} {b o : Nat} {x : Ln} (h : AtL w b o x) {r : Nat} {u : Value} (hr : r < 5) (hu : (cellsL x)[r]? = some u) : w.cell? ⟨b, o + r, none⟩ = some u := by
  obtain ⟨h0, h1, h2, h3, h4⟩ := h
  match r, hr with
  | 0, _ => simp [cellsL] at hu; subst hu; exact h0
  | 1, _ => simp [cellsL] at hu; subst hu; exact h1
  | 2, _ => simp [cellsL] at hu; subst hu; exact h2
  | 3, _ => simp [cellsL] at hu; subst hu; exact h3
  | 4, _ => simp [cellsL] at hu; subst hu; exact h4

/-- A row of its own that holds these lines. -/
def OwnL (w : World) (base : Nat) (v : Value) (l : List Ln) : Prop := w.ownsRow base 56 5 v l.length (l.flatMap cellsL)

theorem OwnL.lit (w : World) (base : Nat) (h : base ≤ w.heap.size) : OwnL (w.alloc (.cells #[] 56)) base (.slice (some ⟨w.heap.size, 0, none⟩) 0 0) [] :=
  World.ownsRow_lit (base := base) (e := 56) (size := 5) w #[] 0 h (by simp [maxLen]) rfl
theorem OwnL.litAt {w : World} {n : Nat} (e : n = w.heap.size) (base : Nat) (h : base ≤ w.heap.size) : OwnL (w.alloc (.cells #[] 56)) base (.slice (some ⟨n, 0, none⟩) 0 0) [] := by
  subst e; exact OwnL.lit w base h
theorem OwnL.nothing (w : World) (base : Nat) : OwnL w base (.slice none 0 0) [] := World.ownsRow_nil w base _ _
theorem OwnL.alloc {w : World} {base : Nat} {v : Value} {l : List Ln} (h : OwnL w base v l) (o : Obj) : OwnL (w.alloc o) base v l := World.ownsRow.alloc h o
theorem OwnL.drew {w : World} {base : Nat} {v : Value} {l : List Ln} (h : OwnL w base v l) : OwnL w.drew base v l := h
theorem OwnL.ls {w : World} {base : Nat} {v : Value} {l : List Ln} (h : OwnL w base v l) : Ls w v l := by
  have h' := h
  rcases h.2 with ⟨rfl, h0⟩ | ⟨g, cap, cur, rfl, hb, hg, hnc, hcm, hcs, htake⟩
  · obtain rfl : l = [] := List.eq_nil_of_length_eq_zero h0
    exact Ls.nothing w
  · refine ⟨_, cap, rfl, hnc, hcm, .inr ⟨g, 0, rfl, ?_, fun i hi => ?_⟩⟩
    · exact (h.lt g rfl).2
    · have hc : ∀ r, r < 5 → w.cell? ⟨g, 0 + i * 5 + r, none⟩ = (cellsL (lth l i))[r]? := fun r hr => by
        rw [Nat.zero_add]
        have := h.cellAt (i * 5 + r) (by omega)
        rw [this, flat_at l i r hi hr]
      exact ⟨hc 0 (by omega), hc 1 (by omega), hc 2 (by omega), hc 3 (by omega), hc 4 (by omega)⟩
/-- A row's block lies where the base is, or behind. -/
theorem OwnL.base {w : World} {base : Nat} {v : Value} {l : List Ln} (h : OwnL w base v l) : ∀ k, v.ownBlock = some k → base ≤ k := fun k hk => (World.ownsRow.lt h k hk).1

theorem run_append_L (w : World) (ty : TypeId) (base : Nat) (v x : Value) (l1 l2 : List Ln) (hown : OwnL w base v l1) (hx : Ls w x l2) (hn : l1.length + l2.length ≤ 1000) (hbase : base ≤ w.heap.size) (hne : (∃ c m n, v = .slice (some c) m n) ∨ l2 ≠ []) :
    ∃ g cap w', (Builtin.append_ #[36, 36] ty #[v, x]).run Try.prog w = .ok (.slice (some ⟨g, 0, none⟩) (l1 ++ l2).length cap) w' ∧ OwnL w' base (.slice (some ⟨g, 0, none⟩) (l1 ++ l2).length cap) (l1 ++ l2) ∧ w.grownBy w' v.ownBlock ∧ (v.ownBlock = some g ∨ g = w.heap.size) := by
  obtain ⟨i, hi, hz, hsz, hby⟩ := infoLine
  obtain ⟨a, cap, rfl, hl, hm, h⟩ := hx
  rcases h with rfl | ⟨b, o, rfl, hb, hc⟩
  · rcases hown.2 with ⟨rfl, h0⟩ | ⟨g, c, cur, rfl, hbg, hg, hnc, hcm, hcs, htake⟩
    · rcases hne with ⟨_, _, _, hne⟩ | hne
      · simp at hne
      · exact absurd rfl hne
    · refine ⟨g, c, w, ?_, ?_, ⟨rfl, rfl, rfl, Nat.le_refl _, fun _ _ _ => rfl⟩, .inl rfl⟩
      · cases a <;>
        simp [Builtin.append_, run_underlying Try.underlying36, sizeOf, typeInfo, hi, Builtin.lenOf, Builtin.firstCells, loadCells, loadCellsFrom, hnc, storeCells]
      · simpa using hown
  · by_cases h0 : l2 = []
    · subst h0
      rcases hown.2 with ⟨rfl, h0⟩ | ⟨g, c, cur, rfl, hbg, hg, hnc, hcm, hcs, htake⟩
      · rcases hne with ⟨_, _, _, hne⟩ | hne
        · simp at hne
        · exact absurd rfl hne
      · refine ⟨g, c, w, ?_, ?_, ⟨rfl, rfl, rfl, Nat.le_refl _, fun _ _ _ => rfl⟩, .inl rfl⟩
        · simp [Builtin.append_, run_underlying Try.underlying36, sizeOf, typeInfo, hi, Builtin.lenOf, Builtin.firstCells, loadCells, loadCellsFrom, hnc, storeCells]
        · simpa using hown
    · have hpos : 0 < l2.length := List.length_pos_iff.2 h0
      obtain ⟨g, c, w', hr, ho, hgr, hat, _⟩ := run_append_lies (P := Try.prog) w 36 ty base 56 i _ 5 32 Try.underlying36 hi hz hsz hby rfl (by omega) v l1.length (l1.flatMap cellsL) hown ⟨b, o, none⟩ l2.length cap (l2.flatMap cellsL) (flat_len l2)
        (fun j u hu => by
          obtain ⟨i', r, h1, h2, rfl, h4⟩ := flat_of hu
          rw [add_off, ← Nat.add_assoc]
          exact atL_cell (hc i' h1) h2 h4)
        (flat_one l2) hpos (by unfold maxLen; omega) (by omega) hbase w.heap.size rfl
      refine ⟨g, c, w', ?_, ?_, hgr, hat⟩
      · rw [List.length_append]; exact hr
      · unfold OwnL; rw [List.length_append, List.flatMap_append]; exact ho

theorem wp_append_L {w : World} {o : Oper} {a : Act} {K : Act → World → Prop} {Q : Exit → Act → World → Prop} (s x : Operand)
    (ho : o.op = .call { callee := .builtin .append, args := #[s, x], argTypes := #[36, 36] })
    (base : Nat) (v u : Value) (l1 l2 : List Ln) (hs : a.eval s = v) (hu : a.eval x = u) (hown : OwnL w base v l1) (hx : Ls w u l2) (hn : l1.length + l2.length ≤ 1000) (hbase : base ≤ w.heap.size) (hne : (∃ c m n, v = .slice (some c) m n) ∨ l2 ≠ [])
    (h : ∀ g cap w', OwnL w' base (.slice (some ⟨g, 0, none⟩) (l1 ++ l2).length cap) (l1 ++ l2) → w.grownBy w' v.ownBlock → Below base w w' → (v.ownBlock = some g ∨ g = w.heap.size) → K (a.put o.dst (.slice (some ⟨g, 0, none⟩) (l1 ++ l2).length cap)) w') : o.wp Try.prog a w K Q := by
  obtain ⟨g, cap, w', hr, h2, h3, h4⟩ := run_append_L w o.type base v u l1 l2 hown hx hn hbase hne
  unfold Oper.wp execOp
  simp only [ho, resolve, invoke, builtin, Sem.run_bind, Sem.run_pure, Result.andThen_ok, List.map_toArray, List.map_cons, List.map_nil, hs, hu, hr]
  exact h g cap w' h2 h3 ((Below.refl base w).grown h3 hbase hown.base) h4

theorem wpList_append_L {w : World} {ops : Array Oper} {rest : List Oper} {o : Oper} {a : Act} {Q : Exit → Act → World → Prop} (hgd : o.guard = none) (s x : Operand)
    (ho : o.op = .call { callee := .builtin .append, args := #[s, x], argTypes := #[36, 36] })
    (base : Nat) (v u : Value) (l1 l2 : List Ln) (hs : a.eval s = v) (hu : a.eval x = u) (hown : OwnL w base v l1) (hx : Ls w u l2) (hn : l1.length + l2.length ≤ 1000) (hbase : base ≤ w.heap.size) (hne : (∃ c m n, v = .slice (some c) m n) ∨ l2 ≠ [])
    (h : ∀ g cap w', OwnL w' base (.slice (some ⟨g, 0, none⟩) (l1 ++ l2).length cap) (l1 ++ l2) → w.grownBy w' v.ownBlock → Below base w w' → (v.ownBlock = some g ∨ g = w.heap.size) → wpList Try.prog ops Q rest (a.put o.dst (.slice (some ⟨g, 0, none⟩) (l1 ++ l2).length cap)) w') :
    wpList Try.prog ops Q (o :: rest) a w :=
  wpList_plain hgd fun _ hK => wp_append_L s x ho base v u l1 l2 hs hu hown hx hn hbase hne fun g cap w' h2 h3 hb h4 => hK _ _ (h g cap w' h2 h3 hb h4)

theorem step_append_L {w : World} {ops : Array Oper} {o : Oper} {a : Act} {K : Act → World → Prop} {Q : Exit → Act → World → Prop} {E : Prop} (hgd : o.guard = none) (s x : Operand)
    (ho : o.op = .call { callee := .builtin .append, args := #[s, x], argTypes := #[36, 36] })
    (base : Nat) (v u : Value) (l1 l2 : List Ln) (hs : a.eval s = v) (hu : a.eval x = u) (hown : OwnL w base v l1) (hx : Ls w u l2) (hn : l1.length + l2.length ≤ 1000) (hbase : base ≤ w.heap.size) (hne : (∃ c m n, v = .slice (some c) m n) ∨ l2 ≠ [])
    (h : ∀ g cap w', OwnL w' base (.slice (some ⟨g, 0, none⟩) (l1 ++ l2).length cap) (l1 ++ l2) → w.grownBy w' v.ownBlock → Below base w w' → (v.ownBlock = some g ∨ g = w.heap.size) → K (a.put o.dst (.slice (some ⟨g, 0, none⟩) (l1 ++ l2).length cap)) w') :
    if Region.wanted o (yielded ops a.tmps) = true then Oper.wp Try.prog o a w K Q else E := by
  have hw : Region.wanted o (yielded ops a.tmps) = true := by simp [Region.wanted, hgd]
  rw [if_pos hw]
  exact wp_append_L s x ho base v u l1 l2 hs hu hown hx hn hbase hne h

/-- A line in a block of its own, as a slice. -/
theorem ls_one (w : World) (d p a : Int) (r x : Bool) (fr : Nat × Nat) : Ls (w.alloc (.cells #[.int .i64 d, .int .i64 p, .int .i64 a, .bool r, .bool x] 56 fr)) (.slice (some ⟨w.heap.size, 0, none⟩) 1 1) [(d, p, a, r, x)] := by
  have k := (Blk.new w #[.int .i64 d, .int .i64 p, .int .i64 a, .bool r, .bool x] 56 fr).five
  refine ⟨_, 1, rfl, Nat.le_refl _, by simp [maxLen], .inr ⟨w.heap.size, 0, rfl, by simp, fun i hi => ?_⟩⟩
  obtain rfl : i = 0 := by simpa using hi
  exact k
theorem ls_oneAt {w : World} {n : Nat} (h : n = w.heap.size) (d p a : Int) (r x : Bool) (fr : Nat × Nat) : Ls (w.alloc (.cells #[.int .i64 d, .int .i64 p, .int .i64 a, .bool r, .bool x] 56 fr)) (.slice (some ⟨n, 0, none⟩) 1 1) [(d, p, a, r, x)] := by
  subst h; exact ls_one w d p a r x fr
/-- What an append leaves of other slices. -/
theorem Ls.grown {w w' : World} {a : Addr} {n cap : Nat} {l : List Ln} {row : Option Nat} (h : Ls w (.slice (some a) n cap) l) (hg : w.grownBy w' row) (hne : some a.block ≠ row) : Ls w' (.slice (some a) n cap) l := by
  obtain ⟨a', cap', e, hl, hm, h⟩ := h
  refine ⟨a', cap', e, hl, hm, ?_⟩
  rcases h with h | ⟨b, o, rfl, hb, hc⟩
  · exact .inl h
  · simp only [Value.slice.injEq, Option.some.injEq] at e
    obtain ⟨rfl, _, rfl⟩ := e
    have hblk := hg.block b hb hne
    refine .inr ⟨b, o, rfl, Nat.lt_of_lt_of_le hb hg.size, fun i hi => ?_⟩
    have hcell : ∀ j, w'.cell? ⟨b, j, none⟩ = w.cell? ⟨b, j, none⟩ := fun j => World.cell?_of_block (a := ⟨b, j, none⟩) hblk
    unfold AtL
    rw [hcell, hcell, hcell, hcell, hcell]
    exact hc i hi
/-- Nothing below the base has turned by an append. -/
theorem bel_grown {a w w' : World} {v : Value} {l : List Ln} (h : Below a.heap.size a w) (hown : OwnL w a.heap.size v l) (hg : w.grownBy w' v.ownBlock) : Below a.heap.size a w' :=
  h.grown hg h.size hown.base
end Go.Proofs.Ytfbmmiikhkmpfac
/-
  cache.Fill: lines with one more behind them; nothing that was there turns.
-/
namespace Go.Proofs.Ytfbmmiikhkmpfac
open Go.RowKit

theorem chkC_one (y : Ln) : chkC [y] = own y := by
  by_cases h : own y = 0
  · rw [h]
    refine chkC_all (by simp) fun j hj => ?_
    obtain rfl : j = 0 := by simpa using hj
    exact errL_fine (by simpa [lth] using h) (by simp [fndC])
  · exact chkC_at (j := 0) (by simp) (by simp) (fun i hi => absurd hi (Nat.not_lt_zero _)) (by rw [errL_own (by simpa [lth] using h)]; simp [lth]) h
/-- Five cells that are read, and nothing that has turned. -/
theorem keep5 {W w' : World} {n : Nat} {u0 u1 u2 u3 u4 : Value} (h0 : W.cell? ⟨n, 0, none⟩ = some u0) (h1 : W.cell? ⟨n, 1, none⟩ = some u1) (h2 : W.cell? ⟨n, 2, none⟩ = some u2) (h3 : W.cell? ⟨n, 3, none⟩ = some u3) (h4 : W.cell? ⟨n, 4, none⟩ = some u4) (hn : n < W.heap.size) (hb : Below W.heap.size W w') :
    w'.cell? ⟨n, 0, none⟩ = some u0 ∧ w'.cell? ⟨n, 1, none⟩ = some u1 ∧ w'.cell? ⟨n, 2, none⟩ = some u2 ∧ w'.cell? ⟨n, 3, none⟩ = some u3 ∧ w'.cell? ⟨n, 4, none⟩ = some u4 ∧ Below W.heap.size W w' :=
  ⟨((bcell hb).1 n 0 hn).trans h0, ((bcell hb).1 n 1 hn).trans h1, ((bcell hb).1 n 2 hn).trans h2, ((bcell hb).1 n 3 hn).trans h3, ((bcell hb).1 n 4 hn).trans h4, hb⟩
theorem limb5 {A B C D E F : Prop} (h : A ∧ B ∧ C ∧ D ∧ E ∧ F) : F := h.2.2.2.2.2

end Go.Proofs.Ytfbmmiikhkmpfac
/-
  Package ring: what isPage, isStep, Check, Length, place, next, checkBoth answer; none turns memory that was there.
-/
namespace Go.Proofs.Ytfbmmiikhkmpfac
open Go.RowKit

/-- Is it a page, a step of a ring? -/
def pageR (z : Int) : Bool := decide (0 ≤ z ∧ z < 64)
def stepR (z : Int) : Bool := decide (0 ≤ z ∧ z < 8)
/-- What Check says of a ring. -/
def chkR (p h t : Int) : Int := if pageR p = true then (if stepR h = true then (if stepR t = true then 0 else 2) else 2) else 2
/-- How many wait. -/
def lenR (h t : Int) : Int := (t - h + 8) % 8
/-- What is wrong with a memory, or a ring in it. -/
def bothR (zs : List Int) (p h t : Int) : Int := if chk zs = 0 then chkR p h t else chk zs

theorem pageR_in {z : Int} (h : pageR z = true) : 0 ≤ z ∧ z < 64 := by simpa [pageR] using h
theorem stepR_in {z : Int} (h : stepR z = true) : 0 ≤ z ∧ z < 8 := by simpa [stepR] using h
theorem chkR_ok {p h t : Int} (k : chkR p h t = 0) : pageR p = true ∧ stepR h = true ∧ stepR t = true := by
  unfold chkR at k
  by_cases a : pageR p = true
  · by_cases b : stepR h = true
    · by_cases c : stepR t = true
      · exact ⟨a, b, c⟩
      · simp [a, b, c] at k
    · simp [a, b] at k
  · simp [a] at k
theorem chkR_mk {p h t : Int} (a : pageR p = true) (b : stepR h = true) (c : stepR t = true) : chkR p h t = 0 := by simp [chkR, a, b, c]
theorem chkR_cases (p h t : Int) : chkR p h t = 0 ∨ chkR p h t = 2 := by
  unfold chkR
  by_cases a : pageR p = true
  · by_cases b : stepR h = true
    · by_cases c : stepR t = true
      · simp [a, b, c]
      · simp [a, b, c]
    · simp [a, b]
  · simp [a]
theorem lenR_in (h t : Int) : 0 ≤ lenR h t ∧ lenR h t < 8 := by unfold lenR; omega

theorem isPageR_any (z : Int) (w : World) : Calls Try.prog 53 #[.int .i64 z] w fun e w' => e = .returned (.bool (pageR z)) ∧ w' = w := by
  by_cases h1 : 0 ≤ z
  · by_cases h2 : z < 64
    · have : pageR z = true := by simp [pageR, h1, h2]
      rw [this]
      go_enter Try.func53, Try.ntmps53
      go_wp2
      go_ret
      exact ⟨rfl, rfl⟩
    · have : pageR z = false := by simp [pageR, h2]
      rw [this]
      go_enter Try.func53, Try.ntmps53
      go_wp2
      go_ret
      exact ⟨rfl, rfl⟩
  · have : pageR z = false := by simp [pageR, h1]
    rw [this]
    go_enter Try.func53, Try.ntmps53
    go_wp2
    go_ret
    exact ⟨rfl, rfl⟩
theorem isStep_any (z : Int) (w : World) : Calls Try.prog 54 #[.int .i64 z] w fun e w' => e = .returned (.bool (stepR z)) ∧ w' = w := by
  by_cases h1 : 0 ≤ z
  · by_cases h2 : z < 8
    · have : stepR z = true := by simp [stepR, h1, h2]
      rw [this]
      go_enter Try.func54, Try.ntmps54
      go_wp2
      go_ret
      exact ⟨rfl, rfl⟩
    · have : stepR z = false := by simp [stepR, h2]
      rw [this]
      go_enter Try.func54, Try.ntmps54
      go_wp2
      go_ret
      exact ⟨rfl, rfl⟩
  · have : stepR z = false := by simp [stepR, h1]
    rw [this]
    go_enter Try.func54, Try.ntmps54
    go_wp2
    go_ret
    exact ⟨rfl, rfl⟩

/-- The block of a ring that is handed in. -/
abbrev ringB (p h t : Int) : Obj := .cells #[.int .i64 p, .int .i64 h, .int .i64 t] 38

set_option maxHeartbeats 1000000 in
theorem rCheck_any (p h t : Int) (w : World) :
    Calls Try.prog 47 #[.agg #[.int .i64 p, .int .i64 h, .int .i64 t]] w fun e w' => e = .returned (.int .i64 (chkR p h t)) ∧ w' = w.alloc (ringB p h t) := by
  cases a : pageR p
  · have : chkR p h t = 2 := by simp [chkR, a]
    rw [this]
    go_enter Try.func47, Try.ntmps47
    go_wp2_with (first | (go_at_call 53; refine (isPageR_any _ _).mono ?_; rintro e w' ⟨rfl, rfl⟩) | (go_at_call 54; refine (isStep_any _ _).mono ?_; rintro e w' ⟨rfl, rfl⟩))
    go_ret
    exact ⟨rfl, rfl⟩
  cases b : stepR h
  · have : chkR p h t = 2 := by simp [chkR, a, b]
    rw [this]
    go_enter Try.func47, Try.ntmps47
    go_wp2_with (first | (go_at_call 53; refine (isPageR_any _ _).mono ?_; rintro e w' ⟨rfl, rfl⟩) | (go_at_call 54; refine (isStep_any _ _).mono ?_; rintro e w' ⟨rfl, rfl⟩))
    go_ret
    exact ⟨rfl, rfl⟩
  cases c : stepR t
  · have : chkR p h t = 2 := by simp [chkR, a, b, c]
    rw [this]
    go_enter Try.func47, Try.ntmps47
    go_wp2_with (first | (go_at_call 53; refine (isPageR_any _ _).mono ?_; rintro e w' ⟨rfl, rfl⟩) | (go_at_call 54; refine (isStep_any _ _).mono ?_; rintro e w' ⟨rfl, rfl⟩))
    go_ret
    exact ⟨rfl, rfl⟩
  have : chkR p h t = 0 := by simp [chkR, a, b, c]
  rw [this]
  go_enter Try.func47, Try.ntmps47
  go_wp2_with (first | (go_at_call 53; refine (isPageR_any _ _).mono ?_; rintro e w' ⟨rfl, rfl⟩) | (go_at_call 54; refine (isStep_any _ _).mono ?_; rintro e w' ⟨rfl, rfl⟩))
  go_ret
  exact ⟨rfl, rfl⟩

end Go.Proofs.Ytfbmmiikhkmpfac
/-
  A variable's own block: the cells it holds, none of them frozen; carried over calls, new blocks, stores.
-/
namespace Go.Proofs.Ytfbmmiikhkmpfac
open Go.RowKit

/-- This block holds these cells, and may be written. -/
def Box (w : World) (n : Nat) (t : TypeId) (cs : Array Value) : Prop := w.heap[n]? = some (.cells cs t (0, 0))

theorem Box.blk {w : World} {n : Nat} {t : TypeId} {cs : Array Value} (h : Box w n t cs) : Blk w n cs := ⟨t, (0, 0), h⟩
theorem Box.lt {w : World} {n : Nat} {t : TypeId} {cs : Array Value} (h : Box w n t cs) : n < w.heap.size := h.blk.lt
theorem Box.keep {w w' : World} {n : Nat} {t : TypeId} {cs : Array Value} (h : Box w n t cs) (hb : Below w.heap.size w w') : Box w' n t cs := heap_kept hb h.lt h
theorem Box.newAt {w : World} {n : Nat} (h : n = w.heap.size) (t : TypeId) (cs : Array Value) : Box (w.alloc (.cells cs t)) n t cs := heap_at h
theorem Box.past {w : World} {n : Nat} {t : TypeId} {cs : Array Value} (h : Box w n t cs) (o : Obj) : Box (w.alloc o) n t cs := heap_past h.lt h
theorem Box.cell {w : World} {n : Nat} {t : TypeId} {cs : Array Value} (h : Box w n t cs) (i : Nat) : w.cell? ⟨n, i, none⟩ = cs[i]? := h.blk.cell i
theorem Box.frozen {w : World} {n : Nat} {t : TypeId} {cs : Array Value} (h : Box w n t cs) (i : Nat) : w.frozen? ⟨n, i, none⟩ = false := frozen_of_row w n _ _ _ h
theorem Box.set {w : World} {n : Nat} {t : TypeId} {cs : Array Value} (h : Box w n t cs) (i : Nat) (u : Value) : Box (w.setCell ⟨n, i, none⟩ u) n t (cs.setIfInBounds i u) := heap_setCell_same w n i cs t u h
theorem Box.other {w : World} {n : Nat} {t : TypeId} {cs : Array Value} (h : Box w n t cs) {p : Addr} (hp : n ≠ p.block) (u : Value) : Box (w.setCell p u) n t cs := by
  unfold Box; rw [heap_setCell_other w p n u hp]; exact h
theorem Box.drew {w : World} {n : Nat} {t : TypeId} {cs : Array Value} (h : Box w n t cs) : Box w.drew n t cs := h
theorem Box.drewN {w : World} {n : Nat} {t : TypeId} {cs : Array Value} (h : Box w n t cs) (k : Nat) : Box (w.drewN k) n t cs := h
/-- One cell, three cells, with their marks. -/
theorem Box.one {w : World} {n : Nat} {t : TypeId} {a : Value} (h : Box w n t #[a]) : w.cell? ⟨n, 0, none⟩ = some a ∧ w.frozen? ⟨n, 0, none⟩ = false ∧ n < w.heap.size := ⟨h.cell 0, h.frozen 0, h.lt⟩
theorem Box.three {w : World} {n : Nat} {t : TypeId} {a b c : Value} (h : Box w n t #[a, b, c]) :
    w.cell? ⟨n, 0, none⟩ = some a ∧ w.cell? ⟨n, 1, none⟩ = some b ∧ w.cell? ⟨n, 2, none⟩ = some c ∧ w.frozen? ⟨n, 0, none⟩ = false ∧ w.frozen? ⟨n, 1, none⟩ = false ∧ w.frozen? ⟨n, 2, none⟩ = false ∧ n < w.heap.size :=
  ⟨h.cell 0, h.cell 1, h.cell 2, h.frozen 0, h.frozen 1, h.frozen 2, h.lt⟩
theorem Box.set1 {w : World} {n : Nat} {t : TypeId} {a : Value} (h : Box w n t #[a]) (u : Value) : Box (w.setCell ⟨n, 0, none⟩ u) n t #[u] := h.set 0 u
theorem Box.set3 {w : World} {n : Nat} {t : TypeId} {a b c : Value} (h : Box w n t #[a, b, c]) (u0 u1 u2 : Value) :
    Box (((w.setCell ⟨n, 0, none⟩ u0).setCell ⟨n, 1, none⟩ u1).setCell ⟨n, 2, none⟩ u2) n t #[u0, u1, u2] := ((h.set 0 u0).set 1 u1).set 2 u2
theorem Box.other3 {w : World} {n m : Nat} {t : TypeId} {cs : Array Value} (h : Box w n t cs) (hp : n ≠ m) (u0 u1 u2 : Value) :
    Box (((w.setCell ⟨m, 0, none⟩ u0).setCell ⟨m, 1, none⟩ u1).setCell ⟨m, 2, none⟩ u2) n t cs :=
  ((h.other (p := ⟨m, 0, none⟩) hp u0).other (p := ⟨m, 1, none⟩) hp u1).other (p := ⟨m, 2, none⟩) hp u2
theorem bel_set3 {a w : World} {n : Nat} (hp : a.heap.size ≤ n) (h : Below a.heap.size a w) (u0 u1 u2 : Value) :
    Below a.heap.size a (((w.setCell ⟨n, 0, none⟩ u0).setCell ⟨n, 1, none⟩ u1).setCell ⟨n, 2, none⟩ u2) :=
  ((h.setCell (p := ⟨n, 0, none⟩) hp u0).setCell (p := ⟨n, 1, none⟩) hp u1).setCell (p := ⟨n, 2, none⟩) hp u2
theorem bel_set1 {a w : World} {n : Nat} (hp : a.heap.size ≤ n) (h : Below a.heap.size a w) (u0 : Value) : Below a.heap.size a (w.setCell ⟨n, 0, none⟩ u0) := h.setCell (p := ⟨n, 0, none⟩) hp u0
/-- Four cells. -/
theorem Box.four {w : World} {n : Nat} {t : TypeId} {a b c d : Value} (h : Box w n t #[a, b, c, d]) :
    w.cell? ⟨n, 0, none⟩ = some a ∧ w.cell? ⟨n, 1, none⟩ = some b ∧ w.cell? ⟨n, 2, none⟩ = some c ∧ w.cell? ⟨n, 3, none⟩ = some d ∧ w.frozen? ⟨n, 0, none⟩ = false ∧ w.frozen? ⟨n, 1, none⟩ = false ∧ w.frozen? ⟨n, 2, none⟩ = false ∧ w.frozen? ⟨n, 3, none⟩ = false ∧ n < w.heap.size :=
  ⟨h.cell 0, h.cell 1, h.cell 2, h.cell 3, h.frozen 0, h.frozen 1, h.frozen 2, h.frozen 3, h.lt⟩
theorem Box.set4 {w : World} {n : Nat} {t : TypeId} {a b c d : Value} (h : Box w n t #[a, b, c, d]) (u0 u1 u2 u3 : Value) :
    Box ((((w.setCell ⟨n, 0, none⟩ u0).setCell ⟨n, 1, none⟩ u1).setCell ⟨n, 2, none⟩ u2).setCell ⟨n, 3, none⟩ u3) n t #[u0, u1, u2, u3] := (((h.set 0 u0).set 1 u1).set 2 u2).set 3 u3
theorem bel_set4 {a w : World} {n : Nat} (hp : a.heap.size ≤ n) (h : Below a.heap.size a w) (u0 u1 u2 u3 : Value) :
    Below a.heap.size a ((((w.setCell ⟨n, 0, none⟩ u0).setCell ⟨n, 1, none⟩ u1).setCell ⟨n, 2, none⟩ u2).setCell ⟨n, 3, none⟩ u3) :=
  (bel_set3 hp h u0 u1 u2).setCell (p := ⟨n, 3, none⟩) hp u3
end Go.Proofs.Ytfbmmiikhkmpfac
/-
  ring.Push: a memory of its own with a word more in the ring, and the ring then; nothing that was there turns.
-/
namespace Go.Proofs.Ytfbmmiikhkmpfac
open Go.RowKit

/-- What Push answers: the error, the words, the ring. -/
def psE (zs : List Int) (p h t x : Int) : Int := if bothR zs p h t = 0 then (if wordB x = true then (if lenR h t = 7 then 1 else 0) else 2) else bothR zs p h t
def psM (zs : List Int) (p h t x : Int) : List Int := if psE zs p h t x = 0 then zs.set (p * 8 + t).toNat x else []
def psR (zs : List Int) (p h t x : Int) : Int × Int × Int := if psE zs p h t x = 0 then (p, h, (t + 1) % 8) else (0, 0, 0)

theorem bothR_ok {zs : List Int} {p h t : Int} (k : bothR zs p h t = 0) : chk zs = 0 ∧ chkR p h t = 0 := by
  unfold bothR at k
  by_cases hk : chk zs = 0
  · rw [if_pos hk] at k; exact ⟨hk, k⟩
  · rw [if_neg hk] at k; exact absurd k hk
theorem bothR_mk {zs : List Int} {p h t : Int} (a : chk zs = 0) (b : chkR p h t = 0) : bothR zs p h t = 0 := by rw [bothR, if_pos a, b]
theorem place_ok {p t : Int} (hp : pageR p = true) (ht : stepR t = true) : placeB (p * 8 + t) = true := by
  obtain ⟨a, b⟩ := pageR_in hp
  obtain ⟨c, d⟩ := stepR_in ht
  simp [placeB]; omega

/-- Four cells that are read, and nothing that has turned. -/
theorem keep31 {W w' : World} {m n : Nat} {v u0 u1 u2 : Value} (hv : W.cell? ⟨m, 0, none⟩ = some v) (h0 : W.cell? ⟨n, 0, none⟩ = some u0) (h1 : W.cell? ⟨n, 1, none⟩ = some u1) (h2 : W.cell? ⟨n, 2, none⟩ = some u2) (hm : m < W.heap.size) (hn : n < W.heap.size) (hb : Below W.heap.size W w') :
    w'.cell? ⟨m, 0, none⟩ = some v ∧ w'.cell? ⟨n, 0, none⟩ = some u0 ∧ w'.cell? ⟨n, 1, none⟩ = some u1 ∧ w'.cell? ⟨n, 2, none⟩ = some u2 ∧ Below W.heap.size W w' :=
  ⟨((bcell hb).1 m 0 hm).trans hv, ((bcell hb).1 n 0 hn).trans h0, ((bcell hb).1 n 1 hn).trans h1, ((bcell hb).1 n 2 hn).trans h2, hb⟩
theorem limb4 {A B C D E : Prop} (h : A ∧ B ∧ C ∧ D ∧ E) : E := h.2.2.2.2

end Go.Proofs.Ytfbmmiikhkmpfac
/-
  ring.Pop: the word that waits longest, and the ring without it; nothing that was there turns.
-/
namespace Go.Proofs.Ytfbmmiikhkmpfac
open Go.RowKit

/-- What Pop answers: the error, the word, the ring. -/
def ppE (zs : List Int) (p h t : Int) : Int := if bothR zs p h t = 0 then (if h = t then 6 else 0) else bothR zs p h t
def ppV (zs : List Int) (p h t : Int) : Int := if ppE zs p h t = 0 then nth zs (p * 8 + h).toNat else 0
def ppR (zs : List Int) (p h t : Int) : Int × Int × Int := if ppE zs p h t = 0 then (p, (h + 1) % 8, t) else (0, 0, 0)

theorem lenR_zero {h t : Int} (hh : 0 ≤ h ∧ h < 8) (ht : 0 ≤ t ∧ t < 8) : lenR h t = 0 ↔ h = t := by unfold lenR; omega

/-- Five cells that are read, and nothing that has turned. -/
theorem keep32 {W w' : World} {m n b o : Nat} {v u0 u1 u2 u3 : Value} (hv : W.cell? ⟨m, 0, none⟩ = some v) (h0 : W.cell? ⟨n, 0, none⟩ = some u0) (h1 : W.cell? ⟨n, 1, none⟩ = some u1) (h2 : W.cell? ⟨n, 2, none⟩ = some u2) (h3 : W.cell? ⟨b, o, none⟩ = some u3) (hm : m < W.heap.size) (hn : n < W.heap.size) (ho : b < W.heap.size) (hb : Below W.heap.size W w') :
    w'.cell? ⟨m, 0, none⟩ = some v ∧ w'.cell? ⟨n, 0, none⟩ = some u0 ∧ w'.cell? ⟨n, 1, none⟩ = some u1 ∧ w'.cell? ⟨n, 2, none⟩ = some u2 ∧ w'.cell? ⟨b, o, none⟩ = some u3 ∧ Below W.heap.size W w' :=
  ⟨((bcell hb).1 m 0 hm).trans hv, ((bcell hb).1 n 0 hn).trans h0, ((bcell hb).1 n 1 hn).trans h1, ((bcell hb).1 n 2 hn).trans h2, ((bcell hb).1 b o ho).trans h3, hb⟩
theorem limbV {A B C D E F : Prop} (h : A ∧ B ∧ C ∧ D ∧ E ∧ F) : F := h.2.2.2.2.2

end Go.Proofs.Ytfbmmiikhkmpfac
/-
  What waits in a ring, as a list: numbers alone.
-/
namespace Go.Proofs.Ytfbmmiikhkmpfac
open Go.RowKit

/-- The place of a ring's step, so many steps behind its head. -/
def stp (p h : Int) (i : Nat) : Nat := (p * 8 + (h + (i : Int)) % 8).toNat
/-- The first so many words from the head on. -/
def wl (zs : List Int) (p h : Int) (n : Nat) : List Int := (List.range n).map (fun i => nth zs (stp p h i))
/-- These words lie in the ring, from the head on. -/
def Lies (zs : List Int) (p h : Int) (ws : List Int) : Prop := ∀ i, i < ws.length → nth zs (stp p h i) = nth ws i

theorem wl_len (zs : List Int) (p h : Int) (n : Nat) : (wl zs p h n).length = n := by simp [wl]
theorem wl_zero (zs : List Int) (p h : Int) : wl zs p h 0 = [] := rfl
theorem wl_succ (zs : List Int) (p h : Int) (n : Nat) : wl zs p h (n + 1) = wl zs p h n ++ [nth zs (stp p h n)] := by simp [wl, List.range_succ]
theorem wl_lies (zs : List Int) (p h : Int) (n : Nat) : Lies zs p h (wl zs p h n) := by
  intro i hi
  rw [wl_len] at hi
  simp [wl, nth, hi]
theorem stp_lt {p h : Int} (hp : 0 ≤ p ∧ p < 64) (i : Nat) : stp p h i < 512 := by unfold stp; omega
theorem stp_ne {p h : Int} (hp : 0 ≤ p ∧ p < 64) {i j : Nat} (hij : i < j) (hj : j < 8) : stp p h j ≠ stp p h i := by unfold stp; omega
theorem lies_push {zs ws : List Int} {p h x : Int} (hl : zs.length = 512) (hp : 0 ≤ p ∧ p < 64) (h7 : ws.length < 8) (hw : Lies zs p h ws) : Lies (zs.set (stp p h ws.length) x) p h (ws ++ [x]) := by
  intro i hi
  simp at hi
  by_cases e : i < ws.length
  · rw [nth_set_other (stp_ne hp e h7), hw i e]
    simp [nth, List.getElem?_append_left e]
  · obtain rfl : i = ws.length := by omega
    rw [nth_set_same (by rw [hl]; exact stp_lt hp _)]
    simp [nth]

/-- A ring's tail and length behind so many steps. -/
theorem len_steps {h : Int} {n : Nat} (hn : n < 8) : lenR h ((h + (n : Int)) % 8) = n := by unfold lenR; omega
theorem step_in (h : Int) (n : Nat) : stepR ((h + (n : Int)) % 8) = true := by simp [stepR]; omega
theorem step_next (h : Int) (n : Nat) : ((h + (n : Int)) % 8 + 1) % 8 = (h + ((n + 1 : Nat) : Int)) % 8 := by omega
theorem step_zero {h : Int} (hh : 0 ≤ h ∧ h < 8) : (h + ((0 : Nat) : Int)) % 8 = h := by omega
theorem step_tail {h t : Int} (ht : 0 ≤ t ∧ t < 8) : (h + ((lenR h t).toNat : Int)) % 8 = t := by unfold lenR; omega
theorem step_ne {h : Int} {i j : Nat} (hij : i < j) (hj : j < 8) : ¬ (h + (i : Int)) % 8 = (h + (j : Int)) % 8 := by omega
theorem stp_place (p h : Int) (n : Nat) : (p * 8 + (h + (n : Int)) % 8).toNat = stp p h n := rfl
end Go.Proofs.Ytfbmmiikhkmpfac
/-
  Orders and faults as words: numbers alone.
-/
namespace Go.Proofs.Ytfbmmiikhkmpfac
open Go.RowKit

/-- What is wrong with an order; its word. -/
def oE (k d p : Int) : Int := if (0 ≤ k ∧ k ≤ 3) ∧ (0 ≤ d ∧ d ≤ 7) ∧ (0 ≤ p ∧ p ≤ 63) then (if (0 < d ∧ k < 2) ∨ (0 < p ∧ k < 3) then 3 else 0) else 2
def oW (k d p : Int) : Int := if oE k d p = 0 then k + 4 * d + 32 * p else 0
/-- A word that is read as an order. -/
def roE (w : Int) : Int := if 0 ≤ w ∧ w ≤ 65535 then (if oE (w % 4) (w / 4 % 8) (w / 32) = 0 then 0 else 3) else 2
def roO (w : Int) : Int × Int × Int := if roE w = 0 then (w % 4, w / 4 % 8, w / 32) else (0, 0, 0)

theorem oE_cases (k d p : Int) : oE k d p = 0 ∨ oE k d p = 2 ∨ oE k d p = 3 := by
  unfold oE; split
  · split
    · exact .inr (.inr rfl)
    · exact .inl rfl
  · exact .inr (.inl rfl)
theorem oE_ok {k d p : Int} (h : oE k d p = 0) : (0 ≤ k ∧ k ≤ 3) ∧ (0 ≤ d ∧ d ≤ 7) ∧ (0 ≤ p ∧ p ≤ 63) ∧ ¬ (0 < d ∧ k < 2) ∧ ¬ (0 < p ∧ k < 3) := by
  unfold oE at h
  split at h
  · rename_i h1
    split at h
    · exact absurd h (by decide)
    · rename_i h2
      exact ⟨h1.1, h1.2.1, h1.2.2, fun x => h2 (.inl x), fun x => h2 (.inr x)⟩
  · exact absurd h (by decide)
theorem oE_mk {k d p : Int} (h1 : 0 ≤ k ∧ k ≤ 3) (h2 : 0 ≤ d ∧ d ≤ 7) (h3 : 0 ≤ p ∧ p ≤ 63) (h4 : ¬ (0 < d ∧ k < 2)) (h5 : ¬ (0 < p ∧ k < 3)) : oE k d p = 0 := by
  unfold oE; rw [if_pos ⟨h1, h2, h3⟩, if_neg (fun h => h.elim h4 h5)]
theorem oW_ok {k d p : Int} (h : oE k d p = 0) : oW k d p = k + 4 * d + 32 * p := if_pos h
theorem roE_ok {w : Int} (h : roE w = 0) : (0 ≤ w ∧ w ≤ 65535) ∧ oE (w % 4) (w / 4 % 8) (w / 32) = 0 := by
  unfold roE at h
  split at h
  · rename_i h1
    split at h
    · rename_i h2; exact ⟨h1, h2⟩
    · exact absurd h (by decide)
  · exact absurd h (by decide)
theorem roE_mk {w : Int} (h1 : 0 ≤ w ∧ w ≤ 65535) (h2 : oE (w % 4) (w / 4 % 8) (w / 32) = 0) : roE w = 0 := by unfold roE; rw [if_pos h1, if_pos h2]

/-- What is put is read; what is read is put as it was; unlike ones have unlike words. -/
theorem o_back {k d p : Int} (h : oE k d p = 0) : roE (oW k d p) = 0 ∧ roO (oW k d p) = (k, d, p) := by
  obtain ⟨h1, h2, h3, h4, h5⟩ := oE_ok h
  have e1 : oW k d p % 4 = k := by rw [oW_ok h]; omega
  have e2 : oW k d p / 4 % 8 = d := by rw [oW_ok h]; omega
  have e3 : oW k d p / 32 = p := by rw [oW_ok h]; omega
  have hr : roE (oW k d p) = 0 := roE_mk (by rw [oW_ok h]; omega) (by rw [e1, e2, e3]; exact h)
  exact ⟨hr, by rw [roO, if_pos hr, e1, e2, e3]⟩
theorem o_read {w k d p : Int} (h : roE w = 0) (e : roO w = (k, d, p)) : oE k d p = 0 ∧ oW k d p = w := by
  obtain ⟨h1, h2⟩ := roE_ok h
  rw [roO, if_pos h] at e
  simp only [Prod.mk.injEq] at e
  obtain ⟨rfl, rfl, rfl⟩ := e
  exact ⟨h2, by rw [oW_ok h2]; omega⟩
theorem o_like {k d p k' d' p' : Int} (h : oE k d p = 0) (h' : oE k' d' p' = 0) : oW k d p = oW k' d' p' ↔ k = k' ∧ d = d' ∧ p = p' := by
  constructor
  · intro e
    have a := (o_back h).2
    rw [e, (o_back h').2] at a
    simp only [Prod.mk.injEq] at a
    exact ⟨a.1.symm, a.2.1.symm, a.2.2.symm⟩
  · rintro ⟨rfl, rfl, rfl⟩; rfl

/-- What is wrong with a fault; its word. -/
def fE (c d p : Int) : Int := if (1 ≤ c ∧ c ≤ 5) ∧ (0 ≤ d ∧ d ≤ 7) ∧ (0 ≤ p ∧ p ≤ 63) then 0 else 2
def fX (x : Bool) : Int := if x = true then 4096 else 0
def fW (c d p : Int) (x : Bool) : Int := if fE c d p = 0 then c + 8 * d + 64 * p + fX x else 0
/-- A word that is read as a fault. -/
def rfE (w : Int) : Int := if 0 ≤ w ∧ w ≤ 65535 then (if fE (w % 8) (w / 8 % 8) (w / 64 % 64) = 0 ∧ w < 8192 then 0 else 3) else 2
def rfF (w : Int) : Int × Int × Int × Bool := if rfE w = 0 then (w % 8, w / 8 % 8, w / 64 % 64, decide (w / 4096 = 1)) else (0, 0, 0, false)

theorem fE_ok {c d p : Int} (h : fE c d p = 0) : (1 ≤ c ∧ c ≤ 5) ∧ (0 ≤ d ∧ d ≤ 7) ∧ (0 ≤ p ∧ p ≤ 63) := by
  unfold fE at h; split at h
  · rename_i h1; exact h1
  · exact absurd h (by decide)
theorem fE_mk {c d p : Int} (h1 : 1 ≤ c ∧ c ≤ 5) (h2 : 0 ≤ d ∧ d ≤ 7) (h3 : 0 ≤ p ∧ p ≤ 63) : fE c d p = 0 := if_pos ⟨h1, h2, h3⟩
theorem fE_cases (c d p : Int) : fE c d p = 0 ∨ fE c d p = 2 := by
  unfold fE; split
  · exact .inl rfl
  · exact .inr rfl
theorem fW_ok {c d p : Int} {x : Bool} (h : fE c d p = 0) : fW c d p x = c + 8 * d + 64 * p + fX x := if_pos h
theorem fX_cases (x : Bool) : (x = true ∧ fX x = 4096) ∨ (x = false ∧ fX x = 0) := by cases x <;> simp [fX]
theorem rfE_ok {w : Int} (h : rfE w = 0) : (0 ≤ w ∧ w ≤ 65535) ∧ fE (w % 8) (w / 8 % 8) (w / 64 % 64) = 0 ∧ w < 8192 := by
  unfold rfE at h
  split at h
  · rename_i h1
    split at h
    · rename_i h2; exact ⟨h1, h2⟩
    · exact absurd h (by decide)
  · exact absurd h (by decide)
theorem rfE_mk {w : Int} (h1 : 0 ≤ w ∧ w ≤ 65535) (h2 : fE (w % 8) (w / 8 % 8) (w / 64 % 64) = 0) (h3 : w < 8192) : rfE w = 0 := by unfold rfE; rw [if_pos h1, if_pos ⟨h2, h3⟩]
theorem f_back {c d p : Int} {x : Bool} (h : fE c d p = 0) : rfE (fW c d p x) = 0 ∧ rfF (fW c d p x) = (c, d, p, x) := by
  obtain ⟨h1, h2, h3⟩ := fE_ok h
  obtain ⟨w, hw⟩ : ∃ w, fW c d p x = w := ⟨_, rfl⟩
  have ew := fW_ok (x := x) h
  rw [hw] at ew ⊢
  have hx := fX_cases x
  have e1 : w % 8 = c := by rcases hx with ⟨_, hx⟩ | ⟨_, hx⟩ <;> rw [hx] at ew <;> omega
  have e2 : w / 8 % 8 = d := by rcases hx with ⟨_, hx⟩ | ⟨_, hx⟩ <;> rw [hx] at ew <;> omega
  have e3 : w / 64 % 64 = p := by rcases hx with ⟨_, hx⟩ | ⟨_, hx⟩ <;> rw [hx] at ew <;> omega
  have e4 : decide (w / 4096 = 1) = x := by
    rcases hx with ⟨hb, hx⟩ | ⟨hb, hx⟩
    · rw [hx] at ew; rw [hb]; exact decide_eq_true (by omega)
    · rw [hx] at ew; rw [hb]; exact decide_eq_false (by omega)
  have hr : rfE w = 0 := rfE_mk (by rcases hx with ⟨_, hx⟩ | ⟨_, hx⟩ <;> rw [hx] at ew <;> omega) (by rw [e1, e2, e3]; exact h) (by rcases hx with ⟨_, hx⟩ | ⟨_, hx⟩ <;> rw [hx] at ew <;> omega)
  exact ⟨hr, by rw [rfF, if_pos hr, e1, e2, e3, e4]⟩
theorem f_read {w c d p : Int} {x : Bool} (h : rfE w = 0) (e : rfF w = (c, d, p, x)) : fE c d p = 0 ∧ fW c d p x = w := by
  obtain ⟨h1, h2, h3⟩ := rfE_ok h
  rw [rfF, if_pos h] at e
  simp only [Prod.mk.injEq] at e
  obtain ⟨rfl, rfl, rfl, rfl⟩ := e
  refine ⟨h2, ?_⟩
  rw [fW_ok h2]
  by_cases hx : w / 4096 = 1
  · rw [show decide (w / 4096 = 1) = true from decide_eq_true hx, show fX true = 4096 from rfl]; omega
  · rw [show decide (w / 4096 = 1) = false from decide_eq_false hx, show fX false = 0 from rfl]; omega
end Go.Proofs.Ytfbmmiikhkmpfac
