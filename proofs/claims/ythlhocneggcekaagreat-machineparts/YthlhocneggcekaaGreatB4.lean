/-
  Laid together: CacheMath, Lines, Is, FindC, CheckC.
-/
import Derived.Test.YthlhocneggcekaaGreatB1
import Derived.Test.YthlhocneggcekaaGreatRows
import Derived.WalkKit
import Derived.WalkSpells
import Derived.WalkLawsBesides
import Derived.Below
import Derived.WalkSmall
import Derived.Deep.QuietTactic
import Derived.BigQuiet
import Derived.Deep.Draws
import Derived.Deep.RegionHeld3
namespace Go.Proofs.YthlhocneggcekaaGreat
open Go.RowKit
abbrev Ln := Int × Int × Int × Bool × Bool
def L0 : Ln := (0, 0, 0, false, false)
def lth (l : List Ln) (i : Nat) : Ln := l.getD i L0
theorem lth_get {l : List Ln} {i : Nat} (h : i < l.length) : lth l i = l[i] := by simp [lth, h]
def rngB (x : Ln) : Bool := decide (0 ≤ x.1 ∧ x.1 < 8) && decide (0 ≤ x.2.1 ∧ x.2.1 < 64) && decide (0 ≤ x.2.2.1 ∧ x.2.2.1 < 64)
def keyB (x y : Ln) : Bool := decide (x.1 = y.1) && decide (x.2.1 = y.2.1)
def errL (l : List Ln) (j : Nat) : Int :=
  if rngB (lth l j) = true then (if (lth l j).2.2.2.1 = true then (if (l.take j).any (keyB (lth l j)) = true then 5 else 0) else 3) else 2
def chkC (l : List Ln) : Int := if 6 < l.length then 1 else (((List.range l.length).map (errL l)).find? (fun e => decide (¬ e = 0))).getD 0
theorem chkC_many {l : List Ln} (h : 6 < l.length) : chkC l = 1 := by rw [chkC, if_pos h]
theorem chkC_all {l : List Ln} (h : ¬ 6 < l.length) (k : ∀ j, j < l.length → errL l j = 0) : chkC l = 0 := by
  rw [chkC, if_neg h, List.find?_eq_none.2]
  · rfl
  · intro e he
    obtain ⟨j, hj, rfl⟩ := List.mem_map.1 he
    simp [k j (List.mem_range.1 hj)]
theorem chkC_at {l : List Ln} {j : Nat} {e : Int} (h : ¬ 6 < l.length) (hj : j < l.length) (k : ∀ i, i < j → errL l i = 0) (he : errL l j = e) (h0 : ¬ e = 0) : chkC l = e := by
  rw [chkC, if_neg h, List.find?_eq_some_iff_getElem.2 ⟨by simpa using h0, j, by simpa using hj, by simpa using he, fun i hi => by simpa using k i hi⟩]
  rfl
def GoodC (l : List Ln) : Prop := l.length ≤ 6 ∧ (∀ x ∈ l, rngB x = true ∧ x.2.2.2.1 = true) ∧ l.Pairwise (fun x y => keyB y x = false)
theorem errL_zero {l : List Ln} {j : Nat} : errL l j = 0 ↔ rngB (lth l j) = true ∧ (lth l j).2.2.2.1 = true ∧ (l.take j).any (keyB (lth l j)) = false := by
  unfold errL
  cases h1 : rngB (lth l j)
  · simp
  · cases h2 : (lth l j).2.2.2.1
    · simp
    · cases h3 : (l.take j).any (keyB (lth l j)) <;> simp
theorem chkC_zero {l : List Ln} : chkC l = 0 ↔ GoodC l := by
  constructor
  · intro h
    by_cases hl : 6 < l.length
    · rw [chkC_many hl] at h; omega
    have hz : ∀ j, j < l.length → errL l j = 0 := by
      intro j
      induction j using Nat.strongRecOn with
      | _ j ih =>
        intro hj
        by_cases he : errL l j = 0
        · exact he
        · have := chkC_at hl hj (fun i hi => ih i hi (by omega)) rfl he
          rw [h] at this; omega
    refine ⟨by omega, fun x hx => ?_, ?_⟩
    · obtain ⟨j, hj, rfl⟩ := List.getElem_of_mem hx
      have := errL_zero.1 (hz j hj)
      rw [lth_get hj] at this
      exact ⟨this.1, this.2.1⟩
    · rw [List.pairwise_iff_getElem]
      intro i j hi hj hij
      have := (errL_zero.1 (hz j hj)).2.2
      rw [lth_get hj, List.any_eq_false] at this
      have h2 := this l[i] (List.mem_iff_getElem.2 ⟨i, by simp; omega, by simp⟩)
      simpa using h2
  · rintro ⟨h1, h2, h3⟩
    refine chkC_all (by omega) fun j hj => errL_zero.2 ?_
    rw [lth_get hj]
    refine ⟨(h2 _ (List.getElem_mem hj)).1, (h2 _ (List.getElem_mem hj)).2, ?_⟩
    rw [List.any_eq_false]
    intro x hx
    obtain ⟨i, hi, rfl⟩ := List.mem_iff_getElem.1 hx
    rw [List.pairwise_iff_getElem] at h3
    simp at hi
    have := h3 i j (by omega) hj (by omega)
    simpa using this
def hasB (d p : Int) (x : Ln) : Bool := decide (x.1 = d) && decide (x.2.1 = p)
def fndC (l : List Ln) (d p : Int) : Int := match l.findIdx? (hasB d p) with
  | some i => (i : Int)
  | none => -1
theorem fndC_at {l : List Ln} {d p : Int} {i : Nat} (hi : i < l.length) (h : hasB d p (lth l i) = true) (k : ∀ j, j < i → hasB d p (lth l j) = false) : fndC l d p = i := by
  have : l.findIdx? (hasB d p) = some i := by
    rw [List.findIdx?_eq_some_iff_getElem]
    refine ⟨hi, by rw [← lth_get hi]; exact h, fun j hj => ?_⟩
    rw [← lth_get (by omega), k j hj]; simp
  rw [fndC, this]
theorem fndC_none {l : List Ln} {d p : Int} (k : ∀ j, j < l.length → hasB d p (lth l j) = false) : fndC l d p = -1 := by
  have : l.findIdx? (hasB d p) = none := by
    rw [List.findIdx?_eq_none_iff]
    intro x hx
    obtain ⟨j, hj, rfl⟩ := List.getElem_of_mem hx
    rw [← lth_get hj]; exact k j hj
  rw [fndC, this]
theorem fndC_neg {l : List Ln} {d p : Int} : fndC l d p < 0 ↔ ∀ x ∈ l, hasB d p x = false := by
  unfold fndC
  cases h : l.findIdx? (hasB d p) with
  | none =>
    rw [List.findIdx?_eq_none_iff] at h
    simp only [iff_iff_eq]
    exact propext ⟨fun _ => h, fun _ => by decide⟩
  | some i =>
    rw [List.findIdx?_eq_some_iff_getElem] at h
    obtain ⟨hi, h1, _⟩ := h
    constructor
    · intro h; simp at h; omega
    · intro k; have := k l[i] (List.getElem_mem hi); rw [h1] at this; exact absurd this (by decide)
theorem has_key (x y : Ln) : hasB x.1 x.2.1 y = keyB x y := by
  unfold hasB keyB
  rw [Bool.eq_iff_iff]
  simp only [Bool.and_eq_true, decide_eq_true_eq]
  exact ⟨fun h => ⟨h.1.symm, h.2.symm⟩, fun h => ⟨h.1.symm, h.2.symm⟩⟩
def flE (l : List Ln) (x : Ln) : Int := if chkC l = 0 then (if chkC [x] = 0 then (if 0 ≤ fndC l x.1 x.2.1 then 5 else 0) else chkC [x]) else chkC l
def flC (l : List Ln) (x : Ln) : List Ln := if flE l x = 0 then (if l.length = 6 then l.drop 1 else l) ++ [x] else []
def goesB (k d p : Int) (x : Ln) : Bool := decide (k = 1) || decide (k = 2) && decide (x.1 = d) || decide (k = 3) && decide (x.1 = d) && decide (x.2.1 = p)
def drE (l : List Ln) (k : Int) : Int := if chkC l = 0 then (if 0 ≤ k ∧ k ≤ 3 then 0 else 3) else chkC l
def drC (l : List Ln) (k d p : Int) : List Ln := if drE l k = 0 then l.filter (fun x => !goesB k d p x) else []
theorem flE_zero {l : List Ln} {x : Ln} (h : flE l x = 0) : GoodC l ∧ rngB x = true ∧ x.2.2.2.1 = true ∧ ∀ y ∈ l, keyB x y = false := by
  unfold flE at h
  by_cases h1 : chkC l = 0
  · rw [if_pos h1] at h
    by_cases h2 : chkC [x] = 0
    · rw [if_pos h2] at h
      by_cases h3 : 0 ≤ fndC l x.1 x.2.1
      · rw [if_pos h3] at h; omega
      · have g := (chkC_zero.1 h2).2.1 x (by simp)
        refine ⟨chkC_zero.1 h1, g.1, g.2, fun y hy => ?_⟩
        rw [← has_key]
        exact fndC_neg.1 (by omega) y hy
    · rw [if_neg h2] at h; exact absurd h h2
  · rw [if_neg h1] at h; exact absurd h h1
def oldC (l : List Ln) : List Ln := if l.length = 6 then l.drop 1 else l
theorem oldC_sub (l : List Ln) : (oldC l).Sublist l := by
  unfold oldC; split
  · exact List.drop_sublist 1 l
  · exact List.Sublist.refl l
theorem oldC_len {l : List Ln} (h : l.length ≤ 6) : (oldC l).length ≤ 5 ∧ (oldC l).length ≤ l.length := by
  unfold oldC; split
  · simp; omega
  · omega
theorem flC_ok {l : List Ln} {x : Ln} (h : flE l x = 0) : flC l x = oldC l ++ [x] := by rw [flC, if_pos h, oldC]
theorem fill_good {l : List Ln} {x : Ln} (h : flE l x = 0) : chkC (flC l x) = 0 ∧ fndC (flC l x) x.1 x.2.1 = (oldC l).length ∧ min (l.length + 1) 6 ≤ (flC l x).length := by
  obtain ⟨⟨h1, h2, h3⟩, h4, h5, h6⟩ := flE_zero h
  obtain ⟨o1, o2⟩ := oldC_len h1
  have hs := oldC_sub l
  rw [flC_ok h]
  refine ⟨chkC_zero.2 ⟨by simp; omega, fun y hy => ?_, ?_⟩, ?_, ?_⟩
  · rcases List.mem_append.1 hy with hy | hy
    · exact h2 y (hs.subset hy)
    · obtain rfl := List.mem_singleton.1 hy
      exact ⟨h4, h5⟩
  · rw [List.pairwise_append]
    refine ⟨h3.sublist hs, List.pairwise_singleton _ _, fun a ha b hb => ?_⟩
    obtain rfl := List.mem_singleton.1 hb
    exact h6 a (hs.subset ha)
  · refine fndC_at (by simp) ?_ fun j hj => ?_
    · rw [lth_get (by simp)]; simp [hasB]
    · rw [lth_get (by simp; omega), List.getElem_append_left hj, has_key]
      exact h6 _ (hs.subset (List.getElem_mem hj))
  · unfold oldC; split
    · simp; omega
    · simp; omega
theorem drop_good {l : List Ln} {k d p : Int} (h : drE l k = 0) : chkC (drC l k d p) = 0 := by
  have h1 : chkC l = 0 := by
    unfold drE at h
    by_cases h1 : chkC l = 0
    · exact h1
    · rw [if_neg h1] at h; exact absurd h h1
  obtain ⟨g1, g2, g3⟩ := chkC_zero.1 h1
  rw [drC, if_pos h]
  exact chkC_zero.2 ⟨Nat.le_trans (List.length_filter_le _ _) g1, fun x hx => g2 x (List.mem_filter.1 hx).1, g3.sublist List.filter_sublist⟩
def cellsL (x : Ln) : List Value := [J x.1, J x.2.1, J x.2.2.1, .bool x.2.2.2.1, .bool x.2.2.2.2]
def AtL (w : World) (b o : Nat) (x : Ln) : Prop :=
  w.cell? ⟨b, o, none⟩ = some (J x.1) ∧ w.cell? ⟨b, o + 1, none⟩ = some (J x.2.1) ∧ w.cell? ⟨b, o + 2, none⟩ = some (J x.2.2.1) ∧ w.cell? ⟨b, o + 3, none⟩ = some (.bool x.2.2.2.1) ∧ w.cell? ⟨b, o + 4, none⟩ = some (.bool x.2.2.2.2)
def Ls (w : World) (v : Value) (l : List Ln) : Prop :=
  ∃ a cap, v = .slice a l.length cap ∧ l.length ≤ cap ∧ cap ≤ maxLen ∧
    (l = [] ∨ ∃ b o, a = some ⟨b, o, none⟩ ∧ b < w.heap.size ∧ ∀ i, i < l.length → AtL w b (o + i * 5) (lth l i))
theorem AtL.keep {w w' : World} {b o : Nat} {x : Ln} (h : AtL w b o x) (hb : Below w.heap.size w w') (hl : b < w.heap.size) : AtL w' b o x := by
  obtain ⟨c, _⟩ := bcell hb
  unfold AtL
  rw [c _ _ hl, c _ _ hl, c _ _ hl, c _ _ hl, c _ _ hl]
  exact h
theorem Ls.keep {w w' : World} {v : Value} {l : List Ln} (h : Ls w v l) (hb : Below w.heap.size w w') : Ls w' v l := by
  obtain ⟨a, cap, rfl, hl, hm, h⟩ := h
  refine ⟨a, cap, rfl, hl, hm, ?_⟩
  rcases h with h | ⟨b, o, rfl, hlt, hc⟩
  · exact .inl h
  · exact .inr ⟨b, o, rfl, Nat.lt_of_lt_of_le hlt hb.size, fun i hi => (hc i hi).keep hb hlt⟩
theorem Ls.alloc {w : World} {v : Value} {l : List Ln} (h : Ls w v l) (o : Obj) : Ls (w.alloc o) v l := h.keep (bel_alloc (Below.refl _ _) _)
theorem Ls.nil (w : World) (a : Option Addr) (cap : Nat) (h : cap ≤ maxLen) : Ls w (.slice a 0 cap) [] := ⟨a, cap, rfl, Nat.zero_le _, h, .inl rfl⟩
theorem Ls.nothing (w : World) : Ls w (.slice none 0 0) [] := Ls.nil w _ _ (Nat.zero_le _)
theorem upto_next {P : Nat → Prop} {k : Nat} (h : ∀ j, j < k → P j) (hk : P k) : ∀ j, j < k + 1 → P j := fun j hj => by
  by_cases e : j = k
  · rw [e]; exact hk
  · exact h j (by omega)
def devB (z : Int) : Bool := decide (0 ≤ z ∧ z < 8)
def pgB (z : Int) : Bool := decide (0 ≤ z ∧ z < 64)
theorem isDev_any (z : Int) (w : World) : Calls Tryz.prog 137 #[J z] w fun e w' => e = .returned (.bool (devB z)) ∧ w' = w := by
  by_cases h1 : 0 ≤ z
  · by_cases h2 : z < 8
    · have : devB z = true := by simp [devB, h1, h2]
      rw [this]
      go_enter Tryz.func137, Tryz.ntmps137
      go_wp2
      go_ret
      exact ⟨rfl, rfl⟩
    · have : devB z = false := by simp [devB, h2]
      rw [this]
      go_enter Tryz.func137, Tryz.ntmps137
      go_wp2
      go_ret
      exact ⟨rfl, rfl⟩
  · have : devB z = false := by simp [devB, h1]
    rw [this]
    go_enter Tryz.func137, Tryz.ntmps137
    go_wp2
    go_ret
    exact ⟨rfl, rfl⟩
theorem cPage_any (z : Int) (w : World) : Calls Tryz.prog 138 #[J z] w fun e w' => e = .returned (.bool (pgB z)) ∧ w' = w := by
  by_cases h1 : 0 ≤ z
  · by_cases h2 : z < 64
    · have : pgB z = true := by simp [pgB, h1, h2]
      rw [this]
      go_enter Tryz.func138, Tryz.ntmps138
      go_wp2
      go_ret
      exact ⟨rfl, rfl⟩
    · have : pgB z = false := by simp [pgB, h2]
      rw [this]
      go_enter Tryz.func138, Tryz.ntmps138
      go_wp2
      go_ret
      exact ⟨rfl, rfl⟩
  · have : pgB z = false := by simp [pgB, h1]
    rw [this]
    go_enter Tryz.func138, Tryz.ntmps138
    go_wp2
    go_ret
    exact ⟨rfl, rfl⟩
def own (x : Ln) : Int := if rngB x = true then (if x.2.2.2.1 = true then 0 else 3) else 2
set_option maxHeartbeats 1000000 in
theorem checkLine_any (d p a : Int) (r x : Bool) (w : World) :
    Calls Tryz.prog 109 #[.agg #[J d, J p, J a, .bool r, .bool x]] w fun e w' => e = .returned (J (own (d, p, a, r, x))) ∧ ∃ o, w' = w.alloc o := by
  have ho : own (d, p, a, r, x) = if (devB d && pgB p && pgB a) = true then (if r = true then 0 else 3) else 2 := rfl
  rw [ho]
  clear ho
  cases h1 : devB d
  · go_enter Tryz.func109, Tryz.ntmps109
    go_wp2_with (first | (go_at_call 137; refine (isDev_any _ _).mono ?_; rintro e w1 ⟨rfl, rfl⟩; rw [h1]))
    go_ret
    exact ⟨rfl, _, rfl⟩
  cases h2 : pgB p
  · go_enter Tryz.func109, Tryz.ntmps109
    go_wp2_with (first | (go_at_call 137; refine (isDev_any _ _).mono ?_; rintro e w1 ⟨rfl, rfl⟩; rw [h1]) | (go_at_call 138; refine (cPage_any _ _).mono ?_; rintro e w1 ⟨rfl, rfl⟩; rw [h2]))
    go_ret
    exact ⟨rfl, _, rfl⟩
  cases h3 : pgB a
  · go_enter Tryz.func109, Tryz.ntmps109
    go_wp2_with (first | (go_at_call 137; refine (isDev_any _ _).mono ?_; rintro e w1 ⟨rfl, rfl⟩; rw [h1]) | (go_at_call 138; refine (cPage_any _ _).mono ?_; rintro e w1 ⟨rfl, rfl⟩; first | rw [h2] | rw [h3]))
    go_ret
    exact ⟨rfl, _, rfl⟩
  cases r
  all_goals
    go_enter Tryz.func109, Tryz.ntmps109
    go_wp2_with (first | (go_at_call 137; refine (isDev_any _ _).mono ?_; rintro e w1 ⟨rfl, rfl⟩; rw [h1]) | (go_at_call 138; refine (cPage_any _ _).mono ?_; rintro e w1 ⟨rfl, rfl⟩; first | rw [h2] | rw [h3]))
    go_ret
    exact ⟨rfl, _, rfl⟩
theorem is_any (n m : Nat) (d p d1 p1 a : Int) (r x : Bool) (w : World) (h1 : w.cell? ⟨n, 0, none⟩ = some (J d)) (h2 : w.cell? ⟨m, 0, none⟩ = some (J p)) (l1 : n < w.heap.size) (l2 : m < w.heap.size) :
    Calls Tryz.prog 152 #[.agg #[J d1, J p1, J a, .bool r, .bool x], .pointer (some ⟨n, 0, none⟩), .pointer (some ⟨m, 0, none⟩)] w fun e w' => e = .returned (.bool (hasB d p (d1, p1, a, r, x))) ∧ ∃ o, w' = w.alloc o := by
  have ho : hasB d p (d1, p1, a, r, x) = (decide (d1 = d) && decide (p1 = p)) := rfl
  rw [ho]
  clear ho
  by_cases e1 : d1 = d
  · by_cases e2 : p1 = p
    · subst e1 e2
      go_enter Tryz.func152, Tryz.ntmps152
      go_wp2
      go_ret
      exact ⟨by simp, _, rfl⟩
    · have q1 : (d1 == d) = true := by simpa using e1
      have q2 : (p1 == p) = false := by simpa using e2
      have q3 : Hid ((decide (d1 = d) && decide (p1 = p)) = false) := by show _ = _; simp [e2]
      rw [q3.out]
      clear e1 e2 q3
      go_enter Tryz.func152, Tryz.ntmps152
      go_wp2
      go_ret
      exact ⟨rfl, _, rfl⟩
  · have q1 : (d1 == d) = false := by simpa using e1
    have q3 : Hid ((decide (d1 = d) && decide (p1 = p)) = false) := by show _ = _; simp [e1]
    rw [q3.out]
    clear e1 q3
    go_enter Tryz.func152, Tryz.ntmps152
    go_wp2
    go_ret
    exact ⟨rfl, _, rfl⟩
theorem isOf_any (d p : Int) (w : World) :
    Calls Tryz.prog 129 #[J d, J p] w fun e w' => e = .returned (.func (.func 152) #[] #[.pointer (some ⟨w.heap.size, 0, none⟩), .pointer (some ⟨w.heap.size + 1, 0, none⟩)]) ∧ w' = (w.alloc (.cells #[J d] 3)).alloc (.cells #[J p] 3) := by
  have hmf : ∀ (fn : Fn) (first cap : Array Value) (w : World), (Instr.makeFunc fn first cap).run Tryz.prog w = .ok (.func fn first cap) w := fun _ _ _ _ => rfl
  go_enter Tryz.func129, Tryz.ntmps129
  go_wp2
  go_ret
  exact ⟨rfl, rfl⟩
set_option maxHeartbeats 1000000 in
theorem indexFunc_any (v : Value) (l : List Ln) (n m : Nat) (d p : Int) (w : World) (h : Ls w v l) (h1 : w.cell? ⟨n, 0, none⟩ = some (J d)) (h2 : w.cell? ⟨m, 0, none⟩ = some (J p)) (l1 : n < w.heap.size) (l2 : m < w.heap.size) :
    Calls Tryz.prog 139 #[v, .func (.func 152) #[] #[.pointer (some ⟨n, 0, none⟩), .pointer (some ⟨m, 0, none⟩)]] w fun e w' => e = .returned (J (fndC l d p)) ∧ Below w.heap.size w w' := by
  obtain ⟨a, cap, rfl, hl, hm, h⟩ := h
  unfold maxLen at hm
  rcases h with rfl | ⟨b, o, rfl, hb, hc⟩
  · go_enter Tryz.func139, Tryz.ntmps139
    go_wp2
    go_loopw [5, 8] (fun _ i w' => i = J 0 ∧ w' = w) (fun _ i _ => 0)
    case atStart => exact ⟨rfl, rfl⟩
    case round =>
      obtain ⟨rfl, rfl⟩ := hrel
      go_wp2
      go_ret
      exact ⟨ret_int (fndC_none (fun j hj => absurd hj (Nat.not_lt_zero _))).symm, Below.refl _ _⟩
  · have HC : Hid _ := hc
    have H1 : Hid _ := h1
    have H2 : Hid _ := h2
    clear hc h1 h2
    go_enter Tryz.func139, Tryz.ntmps139
    go_wp2
    go_loopw [5, 8] (fun _ i w' => ∃ k : Nat, k ≤ l.length ∧ i = J k ∧ (∀ j, j < k → hasB d p (lth l j) = false) ∧ Below w.heap.size w w') (fun _ i _ => l.length - (intOf i).toNat)
    case atStart => exact ⟨0, Nat.zero_le _, rfl, fun j hj => absurd hj (Nat.not_lt_zero _), Below.refl _ _⟩
    case round =>
      obtain ⟨k, hk, rfl, hpre, hB⟩ := hrel
      have HP : Hid _ := hpre
      have HB : Hid _ := hB
      by_cases hlt : k < l.length
      · obtain ⟨g0, g1, g2, g3, g4⟩ := (HC.out k hlt).keep hB hb
        have c1 : Hid (wr.cell? ⟨n, 0, none⟩ = _) := ((bcell hB).1 n 0 l1).trans H1.out
        have c2 : Hid (wr.cell? ⟨m, 0, none⟩ = _) := ((bcell hB).1 m 0 l2).trans H2.out
        have s1 : n < wr.heap.size := Nat.lt_of_lt_of_le l1 hB.size
        have s2 : m < wr.heap.size := Nat.lt_of_lt_of_le l2 hB.size
        have hb' : b < wr.heap.size := Nat.lt_of_lt_of_le hb hB.size
        obtain ⟨y, hy⟩ : ∃ y, y = lth l k := ⟨_, rfl⟩
        have HY : Hid _ := hy
        rw [← hy] at g0 g1 g2 g3 g4
        clear hy hpre hB
        obtain ⟨d1, p1, a1, r1, x1⟩ := y
        simp only at g0 g1 g2 g3 g4
        have hlt1 : (k : Int) < l.length := by omega
        go_wp2_with fail
        refine (is_any n m d p d1 p1 a1 r1 x1 wr c1.out c2.out s1 s2).mono ?_
        rintro e w1 ⟨rfl, ob, rfl⟩
        cases hh : hasB d p (d1, p1, a1, r1, x1)
        · have HN : Hid (hasB d p (lth l k) = false) := by show _ = _; rw [← HY.out]; exact hh
          go_wp2
          exact ⟨⟨k + 1, by omega, by go_num, upto_next HP.out HN.out, bel_alloc HB.out _⟩, by simp [intOf]; omega⟩
        · have HF : Hid (fndC l d p = k) := fndC_at hlt (by rw [← HY.out]; exact hh) HP.out
          go_wp2
          go_ret
          exact ⟨ret_int HF.out.symm, bel_alloc HB.out _⟩
      · have HF : Hid (fndC l d p = -1) := fndC_none fun j hj => HP.out j (by omega)
        clear hpre hB
        go_wp2
        go_ret
        exact ⟨ret_int HF.out.symm, HB.out⟩
set_option maxHeartbeats 1000000 in
theorem cFind_any (v : Value) (l : List Ln) (d p : Int) (w : World) (h : Ls w v l) :
    Calls Tryz.prog 110 #[v, J d, J p] w fun e w' => e = .returned (J (fndC l d p)) ∧ Below w.heap.size w w' := by
  go_enter Tryz.func110, Tryz.ntmps110
  go_wp2_with fail
  refine (isOf_any _ _ _).mono ?_
  rintro e w1 ⟨rfl, rfl⟩
  have B1 : Hid (Below w.heap.size w ((w.alloc (.cells #[J d] 3)).alloc (.cells #[J p] 3))) := bel_alloc (bel_alloc (Below.refl _ _) _) _
  go_wp2_with fail
  refine (indexFunc_any v l w.heap.size (w.heap.size + 1) d p _ (h.keep B1.out) ?_ ?_ ?_ ?_).mono ?_
  · simp [go_sem]
  · simp [go_sem]
  · simp; omega
  · simp
  rintro e w2 ⟨rfl, b2⟩
  go_wp2
  go_ret
  exact ⟨rfl, bel_trans B1.out b2⟩
theorem Ls.take {w : World} {a : Option Addr} {n cap : Nat} {l : List Ln} (h : Ls w (.slice a n cap) l) {k : Nat} (hk : k ≤ l.length) : Ls w (.slice a k cap) (l.take k) := by
  obtain ⟨a', cap', e, hl, hm, h⟩ := h
  simp only [Value.slice.injEq] at e
  obtain ⟨rfl, _, rfl⟩ := e
  have hn : (l.take k).length = k := by simp; omega
  refine ⟨a, cap, by rw [hn], by omega, hm, ?_⟩
  rcases h with rfl | ⟨b, o, rfl, hb, hc⟩
  · exact .inl (by simp)
  · refine .inr ⟨b, o, rfl, hb, fun i hi => ?_⟩
    rw [hn] at hi
    have : lth (l.take k) i = lth l i := by simp [lth, hi]
    rw [this]
    exact hc i (by omega)
theorem Ls.drop {w : World} {b o n cap : Nat} {l : List Ln} (h : Ls w (.slice (some ⟨b, o, none⟩) n cap) l) {k : Nat} (hk : k ≤ l.length) : Ls w (.slice (some ⟨b, o + k * 5, none⟩) (l.length - k) (cap - k)) (l.drop k) := by
  obtain ⟨a', cap', e, hl, hm, h⟩ := h
  simp only [Value.slice.injEq] at e
  obtain ⟨rfl, _, rfl⟩ := e
  have hn : (l.drop k).length = l.length - k := by simp
  refine ⟨_, cap - k, by rw [hn], by omega, by omega, ?_⟩
  rcases h with rfl | ⟨b', o', e, hb, hc⟩
  · exact .inl (by simp)
  · simp only [Option.some.injEq, Addr.mk.injEq, and_true] at e
    obtain ⟨rfl, rfl⟩ := e
    refine .inr ⟨b, o + k * 5, rfl, hb, fun i hi => ?_⟩
    rw [hn] at hi
    have hlth : lth (l.drop k) i = lth l (k + i) := by simp [lth]
    rw [hlth]
    have := hc (k + i) (by omega)
    rwa [Nat.add_mul, ← Nat.add_assoc] at this
theorem any_find (l : List Ln) (x : Ln) : l.any (keyB x) = true ↔ 0 ≤ fndC l x.1 x.2.1 := by
  have h := @fndC_neg l x.1 x.2.1
  constructor
  · intro ha
    have : ¬ fndC l x.1 x.2.1 < 0 := fun hn => by
      obtain ⟨y, hy, hk⟩ := List.any_eq_true.1 ha
      have := h.1 hn y hy
      rw [has_key, hk] at this
      exact absurd this (by decide)
    omega
  · intro h0
    cases ha : l.any (keyB x)
    · exfalso
      have : fndC l x.1 x.2.1 < 0 := h.2 fun y hy => by
        rw [has_key]
        rw [List.any_eq_false] at ha
        simpa using ha y hy
      omega
    · rfl
theorem errL_own {l : List Ln} {k : Nat} (h : ¬ own (lth l k) = 0) : errL l k = own (lth l k) := by
  unfold errL own at *
  cases h1 : rngB (lth l k)
  · simp
  · cases h2 : (lth l k).2.2.2.1
    · simp
    · simp [h1, h2] at h
theorem errL_twice {l : List Ln} {k : Nat} (h : own (lth l k) = 0) (hf : 0 ≤ fndC (l.take k) (lth l k).1 (lth l k).2.1) : errL l k = 5 := by
  unfold errL own at *
  cases h1 : rngB (lth l k)
  · simp [h1] at h
  · cases h2 : (lth l k).2.2.2.1
    · simp [h1, h2] at h
    · simp only [if_true]
      rw [if_pos ((any_find _ _).2 hf)]
theorem errL_fine {l : List Ln} {k : Nat} (h : own (lth l k) = 0) (hf : ¬ 0 ≤ fndC (l.take k) (lth l k).1 (lth l k).2.1) : errL l k = 0 := by
  unfold errL own at *
  cases h1 : rngB (lth l k)
  · simp [h1] at h
  · cases h2 : (lth l k).2.2.2.1
    · simp [h1, h2] at h
    · simp only [if_true]
      rw [if_neg fun ha => hf ((any_find _ _).1 ha)]
theorem keep2 {W w' : World} {n : Nat} {u v : Value} (h0 : W.cell? ⟨n, 0, none⟩ = some u) (h1 : W.cell? ⟨n, 1, none⟩ = some v) (hn : n < W.heap.size) (hb : Below W.heap.size W w') :
    w'.cell? ⟨n, 0, none⟩ = some u ∧ w'.cell? ⟨n, 1, none⟩ = some v ∧ Below W.heap.size W w' :=
  ⟨((bcell hb).1 n 0 hn).trans h0, ((bcell hb).1 n 1 hn).trans h1, hb⟩
set_option maxHeartbeats 1000000 in
theorem cCheck_any (v : Value) (l : List Ln) (w : World) (h : Ls w v l) :
    Calls Tryz.prog 75 #[v] w fun e w' => e = .returned (J (chkC l)) ∧ Below w.heap.size w w' := by
  have HL : Hid (Ls w v l) := h
  obtain ⟨a, cap, rfl, hl, hm, h⟩ := h
  unfold maxLen at hm
  by_cases h6 : 6 < l.length
  · have e6 : chkC l = 1 := chkC_many h6
    rw [e6]
    have h6' : (6 : Int) < l.length := by omega
    go_enter Tryz.func75, Tryz.ntmps75
    go_wp2
    go_ret
    exact ⟨rfl, Below.refl _ _⟩
  have h6' : ¬ (6 : Int) < l.length := by omega
  have hmz : (l.length : Int) ≤ 6 := by omega
  rcases h with rfl | ⟨b, o, rfl, hb, hc⟩
  · go_enter Tryz.func75, Tryz.ntmps75
    go_wp2
    go_loopw [3, 4, 5, 11] (fun _ _ _ i w' => i = J 0 ∧ w' = w) (fun _ _ _ i _ => 0)
    case atStart => exact ⟨rfl, rfl⟩
    case round =>
      obtain ⟨rfl, rfl⟩ := hrel
      go_wp2
      go_ret
      exact ⟨ret_int (chkC_all h6 (fun j hj => absurd hj (Nat.not_lt_zero _))).symm, Below.refl _ _⟩
  · have HC : Hid _ := hc
    clear hc
    go_enter Tryz.func75, Tryz.ntmps75
    go_wp2
    go_loopw [3, 4, 5, 11] (fun _ _ _ i w' => ∃ k : Nat, k ≤ l.length ∧ i = J k ∧ (∀ j, j < k → errL l j = 0) ∧ Below w.heap.size w w') (fun _ _ _ i _ => l.length - (intOf i).toNat)
    case atStart => exact ⟨0, Nat.zero_le _, rfl, fun j hj => absurd hj (Nat.not_lt_zero _), Below.refl _ _⟩
    case round =>
      obtain ⟨k, hk, rfl, hpre, hB⟩ := hrel
      have HP : Hid _ := hpre
      have HB : Hid _ := hB
      by_cases hlt : k < l.length
      · obtain ⟨g0, g1, g2, g3, g4⟩ := (HC.out k hlt).keep hB hb
        have hb' : b < wr.heap.size := Nat.lt_of_lt_of_le hb hB.size
        obtain ⟨y, hy⟩ : ∃ y, y = lth l k := ⟨_, rfl⟩
        have HY : Hid _ := hy
        rw [← hy] at g0 g1 g2 g3 g4
        clear hy hpre hB
        obtain ⟨d1, p1, a1, r1, x1⟩ := y
        simp only at g0 g1 g2 g3 g4
        have hlt1 : (k : Int) < l.length := by omega
        go_wp2_with fail
        refine (checkLine_any d1 p1 a1 r1 x1 _).mono ?_
        rintro e w1 ⟨rfl, ob, rfl⟩
        by_cases ho : own (d1, p1, a1, r1, x1) = 0
        rotate_left
        · have HE : Hid (chkC l = own (d1, p1, a1, r1, x1)) := chkC_at h6 hlt HP.out (by have := errL_own (l := l) (k := k) (by rw [← HY.out]; exact ho); rw [this, ← HY.out]) ho
          have hq : (own (d1, p1, a1, r1, x1) != 0) = true := by simpa using ho
          clear ho
          generalize own (d1, p1, a1, r1, x1) = z at *
          go_wp2
          go_ret
          exact ⟨ret_int HE.out.symm, bel_alloc (bel_alloc HB.out _) _⟩
        rw [ho]
        have k1 := ((Blk.new wr #[J d1, J p1, J a1, .bool r1, .bool x1] 52 (0, 0)).past ob).five
        have B1 := bel_alloc (bel_alloc HB.out (.cells #[J d1, J p1, J a1, .bool r1, .bool x1] 52 (0, 0))) ob
        have s1 : wr.heap.size < ((wr.alloc (.cells #[J d1, J p1, J a1, .bool r1, .bool x1] 52 (0, 0))).alloc ob).heap.size := by simp; omega
        obtain ⟨c0, c1, _, _, _⟩ := k1
        go_wp2
        generalize ((wr.alloc (.cells #[J d1, J p1, J a1, .bool r1, .bool x1] 52 (0, 0))).alloc ob) = wx at *
        have HT : Hid (Ls wx (.slice (some ⟨b, o, none⟩) k cap) (l.take k)) := (HL.out.keep B1).take hk
        have HO : Hid _ := ho
        have HB1 : Hid _ := B1
        clear B1 ho g0 g1 g2 g3 g4 HB HC
        have z0 : (0 : Int) ≤ k := by omega
        have z1 : (k : Int) ≤ cap := by omega
        have z2 : k ≤ cap := by omega
        have z3 : ¬ cap = 0 := by omega
        go_region_held3 (fun w' => w'.cell? ⟨wr.heap.size, 0, none⟩ = some (J d1) ∧ w'.cell? ⟨wr.heap.size, 1, none⟩ = some (J p1) ∧ Below wx.heap.size wx w')
          (with_reducible refine keep2 (by assumption) (by assumption) (by assumption) ?_; (repeat (first | with_reducible assumption | (with_reducible (refine And.right (a := _ = _) (And.right (a := _ = _) (?_ : _ ∧ _ ∧ _)); assumption)) | with_reducible exact Below.refl _ _ | with_reducible refine Below.drew ?_ | with_reducible refine bel_drewN ?_ _ | with_reducible refine bel_alloc ?_ _ | with_reducible refine bel_trans ?_ (by assumption))))
          (first | (go_at_call 110; refine (cFind_any _ (l.take k) d1 p1 _ ?_).mono ?_; (focus (refine HT.out.keep ?_; (repeat (first | with_reducible assumption | (with_reducible (refine And.right (a := _ = _) (And.right (a := _ = _) (?_ : _ ∧ _ ∧ _)); assumption)) | with_reducible exact Below.refl _ _ | with_reducible refine Below.drew ?_ | with_reducible refine bel_drewN ?_ _)))); rintro e w1 ⟨rfl, b1⟩))
        rename_i hH
        have HB2 : Hid _ := bel_trans HB1.out hH.2.2
        clear hH b1
        by_cases hf : 0 ≤ fndC (l.take k) d1 p1
        · have HE : Hid (chkC l = 5) := chkC_at h6 hlt HP.out (errL_twice (by rw [← HY.out]; exact HO.out) (by rw [← HY.out]; exact hf)) (by decide)
          go_wp2
          go_ret
          exact ⟨ret_int HE.out.symm, HB2.out⟩
        · have HE : Hid (errL l k = 0) := errL_fine (by rw [← HY.out]; exact HO.out) (by rw [← HY.out]; exact hf)
          go_wp2
          exact ⟨⟨k + 1, by omega, by go_num, upto_next HP.out HE.out, HB2.out⟩, by simp [intOf]; omega⟩
      · have HF : Hid (chkC l = 0) := chkC_all h6 fun j hj => HP.out j (by omega)
        clear hpre hB
        go_wp2
        go_ret
        exact ⟨ret_int HF.out.symm, HB.out⟩
end Go.Proofs.YthlhocneggcekaaGreat
