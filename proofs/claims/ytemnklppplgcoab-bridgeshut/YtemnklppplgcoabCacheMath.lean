/-
  Lines of a cache, as lists alone: what Check, Find, Fill, Drop answer, and what holds of it.
-/
import Derived.Test.YtemnklppplgcoabBase
namespace Go.Proofs.Ytemnklppplgcoab
open Go.RowKit

/-- A line: Dev, Page, At, Read, Write. -/
abbrev Ln := Int × Int × Int × Bool × Bool
def L0 : Ln := (0, 0, 0, false, false)
/-- The line at a place: a plain name. -/
def lth (l : List Ln) (i : Nat) : Ln := l.getD i L0
theorem lth_of {l : List Ln} {i : Nat} (h : i < l.length) : l[i]? = some (lth l i) := by simp [lth, h]
theorem lth_get {l : List Ln} {i : Nat} (h : i < l.length) : lth l i = l[i] := by simp [lth, h]
def rngB (x : Ln) : Bool := decide (0 ≤ x.1 ∧ x.1 < 8) && decide (0 ≤ x.2.1 ∧ x.2.1 < 64) && decide (0 ≤ x.2.2.1 ∧ x.2.2.1 < 64)
/-- Are two lines of one Dev and Page? -/
def keyB (x y : Ln) : Bool := decide (x.1 = y.1) && decide (x.2.1 = y.2.1)
/-- The error of the line at a place. -/
def errL (l : List Ln) (j : Nat) : Int :=
  if rngB (lth l j) = true then (if (lth l j).2.2.2.1 = true then (if (l.take j).any (keyB (lth l j)) = true then 5 else 0) else 3) else 2
/-- What Check says. -/
def chkC (l : List Ln) : Int := if 6 < l.length then 1 else (((List.range l.length).map (errL l)).find? (fun e => decide (¬ e = 0))).getD 0
theorem chkC_many {l : List Ln} (h : 6 < l.length) : chkC l = 1 := by rw [chkC, if_pos h]
theorem chkC_all {l : List Ln} (h : ¬ 6 < l.length) (k : ∀ j, j < l.length → errL l j = 0) : chkC l = 0 := by
  rw [chkC, if_neg h, List.find?_eq_none.2]
  · rfl
  · intro e he
    obtain ⟨j, hj, rfl⟩ := List.mem_map.1 he
    simp [k j (List.mem_range.1 hj)]
theorem chkC_at {l : List Ln} {j : Nat} {e : Int} (h : ¬ 6 < l.length) (hj : j < l.length) (k : ∀ i, i < j → errL l i = 0) (he : errL l j = e) (h0 : ¬ e = 0) : chkC l = e := by
  rw [chkC, if_neg h, List.find?_eq_some_iff_getElem.2 ⟨by simpa using h0, j, by simpa using hj, by simpa using he, fun i hi => by simpa using k i hi⟩]
  rfl
/-- A cache: few lines, each right, no two of one Dev and Page. -/
def GoodC (l : List Ln) : Prop := l.length ≤ 6 ∧ (∀ x ∈ l, rngB x = true ∧ x.2.2.2.1 = true) ∧ l.Pairwise (fun x y => keyB y x = false)
theorem errL_zero {l : List Ln} {j : Nat} : errL l j = 0 ↔ rngB (lth l j) = true ∧ (lth l j).2.2.2.1 = true ∧ (l.take j).any (keyB (lth l j)) = false := by
  unfold errL
  cases h1 : rngB (lth l j)
  · simp
  · cases h2 : (lth l j).2.2.2.1
    · simp
    · cases h3 : (l.take j).any (keyB (lth l j)) <;> simp
theorem errL_cases (l : List Ln) (j : Nat) : errL l j = 0 ∨ errL l j = 2 ∨ errL l j = 3 ∨ errL l j = 5 := by
  unfold errL; split
  · split
    · split <;> simp
    · simp
  · simp
theorem chkC_zero {l : List Ln} : chkC l = 0 ↔ GoodC l := by
  constructor
  · intro h
    by_cases hl : 6 < l.length
    · rw [chkC_many hl] at h; omega
    have hz : ∀ j, j < l.length → errL l j = 0 := by
      intro j
      induction j using Nat.strongRecOn with
      | _ j ih =>
        intro hj
        by_cases he : errL l j = 0
        · exact he
        · have := chkC_at hl hj (fun i hi => ih i hi (by omega)) rfl he
          rw [h] at this; omega
    refine ⟨by omega, fun x hx => ?_, ?_⟩
    · obtain ⟨j, hj, rfl⟩ := List.getElem_of_mem hx
      have := errL_zero.1 (hz j hj)
      rw [lth_get hj] at this
      exact ⟨this.1, this.2.1⟩
    · rw [List.pairwise_iff_getElem]
      intro i j hi hj hij
      have := (errL_zero.1 (hz j hj)).2.2
      rw [lth_get hj, List.any_eq_false] at this
      have h2 := this l[i] (List.mem_iff_getElem.2 ⟨i, by simp; omega, by simp⟩)
      simpa using h2
  · rintro ⟨h1, h2, h3⟩
    refine chkC_all (by omega) fun j hj => errL_zero.2 ?_
    rw [lth_get hj]
    refine ⟨(h2 _ (List.getElem_mem hj)).1, (h2 _ (List.getElem_mem hj)).2, ?_⟩
    rw [List.any_eq_false]
    intro x hx
    obtain ⟨i, hi, rfl⟩ := List.mem_iff_getElem.1 hx
    rw [List.pairwise_iff_getElem] at h3
    simp at hi
    have := h3 i j (by omega) hj (by omega)
    simpa using this
theorem chkC_cases (l : List Ln) : chkC l = 0 ∨ chkC l = 1 ∨ chkC l = 2 ∨ chkC l = 3 ∨ chkC l = 5 := by
  by_cases hl : 6 < l.length
  · exact .inr (.inl (chkC_many hl))
  · rw [chkC, if_neg hl]
    cases h : ((List.range l.length).map (errL l)).find? (fun e => decide (¬ e = 0)) with
    | none => simp
    | some e =>
      have := List.mem_of_find?_eq_some h
      obtain ⟨j, _, rfl⟩ := List.mem_map.1 this
      have := errL_cases l j
      simp; omega

/-- The first line of these. -/
def hasB (d p : Int) (x : Ln) : Bool := decide (x.1 = d) && decide (x.2.1 = p)
def fndC (l : List Ln) (d p : Int) : Int := match l.findIdx? (hasB d p) with
  | some i => (i : Int)
  | none => -1
theorem fndC_at {l : List Ln} {d p : Int} {i : Nat} (hi : i < l.length) (h : hasB d p (lth l i) = true) (k : ∀ j, j < i → hasB d p (lth l j) = false) : fndC l d p = i := by
  have : l.findIdx? (hasB d p) = some i := by
    rw [List.findIdx?_eq_some_iff_getElem]
    refine ⟨hi, by rw [← lth_get hi]; exact h, fun j hj => ?_⟩
    rw [← lth_get (by omega), k j hj]; simp
  rw [fndC, this]
theorem fndC_none {l : List Ln} {d p : Int} (k : ∀ j, j < l.length → hasB d p (lth l j) = false) : fndC l d p = -1 := by
  have : l.findIdx? (hasB d p) = none := by
    rw [List.findIdx?_eq_none_iff]
    intro x hx
    obtain ⟨j, hj, rfl⟩ := List.getElem_of_mem hx
    rw [← lth_get hj]; exact k j hj
  rw [fndC, this]
theorem fndC_neg {l : List Ln} {d p : Int} : fndC l d p < 0 ↔ ∀ x ∈ l, hasB d p x = false := by
  unfold fndC
  cases h : l.findIdx? (hasB d p) with
  | none =>
    rw [List.findIdx?_eq_none_iff] at h
    simp only [iff_iff_eq]
    exact propext ⟨fun _ => h, fun _ => by decide⟩
  | some i =>
    rw [List.findIdx?_eq_some_iff_getElem] at h
    obtain ⟨hi, h1, _⟩ := h
    constructor
    · intro h; simp at h; omega
    · intro k; have := k l[i] (List.getElem_mem hi); rw [h1] at this; exact absurd this (by decide)
theorem has_key (x y : Ln) : hasB x.1 x.2.1 y = keyB x y := by
  unfold hasB keyB
  rw [Bool.eq_iff_iff]
  simp only [Bool.and_eq_true, decide_eq_true_eq]
  exact ⟨fun h => ⟨h.1.symm, h.2.symm⟩, fun h => ⟨h.1.symm, h.2.symm⟩⟩
theorem key_self (x : Ln) : keyB x x = true := by simp [keyB]
theorem key_symm (x y : Ln) : keyB x y = keyB y x := by
  unfold keyB
  rw [Bool.eq_iff_iff]
  simp only [Bool.and_eq_true, decide_eq_true_eq]
  exact ⟨fun h => ⟨h.1.symm, h.2.symm⟩, fun h => ⟨h.1.symm, h.2.symm⟩⟩
theorem key_trans {x y z : Ln} (h : keyB x y = true) : keyB x z = keyB y z := by
  simp [keyB] at h
  unfold keyB; rw [h.1, h.2]
theorem fndC_in (l : List Ln) (d p : Int) : -1 ≤ fndC l d p := by unfold fndC; split <;> omega

/-- What Fill answers. -/
def flE (l : List Ln) (x : Ln) : Int := if chkC l = 0 then (if chkC [x] = 0 then (if 0 ≤ fndC l x.1 x.2.1 then 5 else 0) else chkC [x]) else chkC l
def flC (l : List Ln) (x : Ln) : List Ln := if flE l x = 0 then (if l.length = 6 then l.drop 1 else l) ++ [x] else []
/-- What Drop answers. -/
def goesB (k d p : Int) (x : Ln) : Bool := decide (k = 1) || decide (k = 2) && decide (x.1 = d) || decide (k = 3) && decide (x.1 = d) && decide (x.2.1 = p)
def drE (l : List Ln) (k : Int) : Int := if chkC l = 0 then (if 0 ≤ k ∧ k ≤ 3 then 0 else 3) else chkC l
def drC (l : List Ln) (k d p : Int) : List Ln := if drE l k = 0 then l.filter (fun x => !goesB k d p x) else []

theorem flE_zero {l : List Ln} {x : Ln} (h : flE l x = 0) : GoodC l ∧ rngB x = true ∧ x.2.2.2.1 = true ∧ ∀ y ∈ l, keyB x y = false := by
  unfold flE at h
  by_cases h1 : chkC l = 0
  · rw [if_pos h1] at h
    by_cases h2 : chkC [x] = 0
    · rw [if_pos h2] at h
      by_cases h3 : 0 ≤ fndC l x.1 x.2.1
      · rw [if_pos h3] at h; omega
      · have g := (chkC_zero.1 h2).2.1 x (by simp)
        refine ⟨chkC_zero.1 h1, g.1, g.2, fun y hy => ?_⟩
        rw [← has_key]
        exact fndC_neg.1 (by omega) y hy
    · rw [if_neg h2] at h; exact absurd h h2
  · rw [if_neg h1] at h; exact absurd h h1
/-- What is kept of the lines, ahead of the one that is filled in. -/
def oldC (l : List Ln) : List Ln := if l.length = 6 then l.drop 1 else l
theorem oldC_sub (l : List Ln) : (oldC l).Sublist l := by
  unfold oldC; split
  · exact List.drop_sublist 1 l
  · exact List.Sublist.refl l
theorem oldC_len {l : List Ln} (h : l.length ≤ 6) : (oldC l).length ≤ 5 ∧ (oldC l).length ≤ l.length := by
  unfold oldC; split
  · simp; omega
  · omega
theorem oldC_drop (l : List Ln) : oldC l = l.drop (l.length - (oldC l).length) := by
  unfold oldC; split
  · rename_i h; simp [h]
  · simp
theorem flC_ok {l : List Ln} {x : Ln} (h : flE l x = 0) : flC l x = oldC l ++ [x] := by rw [flC, if_pos h, oldC]
theorem fill_good {l : List Ln} {x : Ln} (h : flE l x = 0) : chkC (flC l x) = 0 ∧ fndC (flC l x) x.1 x.2.1 = (oldC l).length ∧ min (l.length + 1) 6 ≤ (flC l x).length := by
  obtain ⟨⟨h1, h2, h3⟩, h4, h5, h6⟩ := flE_zero h
  obtain ⟨o1, o2⟩ := oldC_len h1
  have hs := oldC_sub l
  rw [flC_ok h]
  refine ⟨chkC_zero.2 ⟨by simp; omega, fun y hy => ?_, ?_⟩, ?_, ?_⟩
  · rcases List.mem_append.1 hy with hy | hy
    · exact h2 y (hs.subset hy)
    · obtain rfl := List.mem_singleton.1 hy
      exact ⟨h4, h5⟩
  · rw [List.pairwise_append]
    refine ⟨h3.sublist hs, List.pairwise_singleton _ _, fun a ha b hb => ?_⟩
    obtain rfl := List.mem_singleton.1 hb
    exact h6 a (hs.subset ha)
  · refine fndC_at (by simp) ?_ fun j hj => ?_
    · rw [lth_get (by simp)]; simp [hasB]
    · rw [lth_get (by simp; omega), List.getElem_append_left hj, has_key]
      exact h6 _ (hs.subset (List.getElem_mem hj))
  · unfold oldC; split
    · simp; omega
    · simp; omega
theorem drop_good {l : List Ln} {k d p : Int} (h : drE l k = 0) : chkC (drC l k d p) = 0 := by
  have h1 : chkC l = 0 := by
    unfold drE at h
    by_cases h1 : chkC l = 0
    · exact h1
    · rw [if_neg h1] at h; exact absurd h h1
  obtain ⟨g1, g2, g3⟩ := chkC_zero.1 h1
  rw [drC, if_pos h]
  exact chkC_zero.2 ⟨Nat.le_trans (List.length_filter_le _ _) g1, fun x hx => g2 x (List.mem_filter.1 hx).1, g3.sublist List.filter_sublist⟩
/-- A line is found among those that are left, unless it goes. -/
theorem drop_find {l : List Ln} {k d p : Int} (h : drE l k = 0) {y : Ln} (hy : y ∈ l) : decide (fndC (drC l k d p) y.1 y.2.1 < 0) = goesB k d p y := by
  have h1 : chkC l = 0 := by
    unfold drE at h
    by_cases h1 : chkC l = 0
    · exact h1
    · rw [if_neg h1] at h; exact absurd h h1
  obtain ⟨g1, g2, g3⟩ := chkC_zero.1 h1
  rw [drC, if_pos h, Bool.eq_iff_iff, decide_eq_true_eq, fndC_neg]
  constructor
  · intro hall
    cases hg : goesB k d p y
    · have := hall y (List.mem_filter.2 ⟨hy, by simp [hg]⟩)
      rw [has_key, key_self] at this
      exact absurd this (by decide)
    · rfl
  · intro hg x hx
    obtain ⟨hx1, hx2⟩ := List.mem_filter.1 hx
    rw [has_key]
    cases hk : keyB y x
    · rfl
    · exfalso
      have hxy : x = y := by
        obtain ⟨i, hi, rfl⟩ := List.getElem_of_mem hx1
        obtain ⟨j, hj, rfl⟩ := List.getElem_of_mem hy
        rw [List.pairwise_iff_getElem] at g3
        by_cases e : i = j
        · subst e; rfl
        · exfalso
          rcases Nat.lt_or_ge i j with hlt | hge
          · have := g3 i j hi hj hlt
            rw [hk] at this; exact absurd this (by decide)
          · have := g3 j i hj hi (by omega)
            rw [key_symm, hk] at this; exact absurd this (by decide)
      subst hxy
      rw [hg] at hx2
      exact absurd hx2 (by decide)
/-- How many of the first so many lines are left; and which. -/
def leftN (l : List Ln) (k d p : Int) (j : Nat) : Nat := ((l.take j).filter (fun x => !goesB k d p x)).length
theorem leftN_zero (l : List Ln) (k d p : Int) : leftN l k d p 0 = 0 := by simp [leftN]
theorem leftN_gone {l : List Ln} {k d p : Int} {j : Nat} (hj : j < l.length) (h : goesB k d p (lth l j) = true) : leftN l k d p (j + 1) = leftN l k d p j := by
  rw [lth_get hj] at h
  unfold leftN
  rw [List.take_succ_eq_append_getElem hj, List.filter_append]
  simp [h]
theorem leftN_kept {l : List Ln} {k d p : Int} {j : Nat} (hj : j < l.length) (h : goesB k d p (lth l j) = false) : leftN l k d p (j + 1) = leftN l k d p j + 1 := by
  rw [lth_get hj] at h
  unfold leftN
  rw [List.take_succ_eq_append_getElem hj, List.filter_append]
  simp [h]
theorem leftN_all (l : List Ln) (k d p : Int) : leftN l k d p l.length = (l.filter (fun x => !goesB k d p x)).length := by simp [leftN]
theorem drop_at {l : List Ln} {k d p : Int} {j : Nat} (hj : j < l.length) (h : goesB k d p (lth l j) = false) :
    leftN l k d p j < (l.filter (fun x => !goesB k d p x)).length ∧ lth (l.filter (fun x => !goesB k d p x)) (leftN l k d p j) = lth l j := by
  have hsplit : l.filter (fun x => !goesB k d p x) = (l.take j).filter (fun x => !goesB k d p x) ++ (lth l j :: (l.drop (j + 1)).filter (fun x => !goesB k d p x)) := by
    have e : l = l.take j ++ (l[j] :: l.drop (j + 1)) := by simp
    rw [lth_get hj] at h ⊢
    conv => lhs; rw [e]
    rw [List.filter_append, List.filter_cons]
    simp [h]
  rw [hsplit]
  refine ⟨by simp [leftN], ?_⟩
  rw [lth_get (by simp [leftN])]
  simp [leftN]
end Go.Proofs.Ytemnklppplgcoab
