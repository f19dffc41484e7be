/-
  Laid together: Ring1, Box, BridgeMath, HartMath, DmaMath, MachMath, AuditMath, MIs, Ms, Box12, Tables.
-/
import Derived.Test.YthlhocneggcekaaM1
import Derived.Test.YthlhocneggcekaaM2
import Derived.Test.YthlhocneggcekaaM3
import Derived.Test.YthlhocneggcekaaRows
import Derived.WalkKit
import Derived.WalkSpells
import Derived.WalkLawsBesides
import Derived.Below
import Derived.WalkSmall
import Derived.Deep.QuietTactic
import Derived.BigQuiet
import Derived.Deep.Draws
import Derived.Deep.RegionHeld3
import Derived.LoopN
import Derived.Deep.CutRange
import Derived.Deep.AppendLies
import Derived.Deep.DrawnRows
import Derived.Laws.CopyOwn
import Derived.Deep.RegionWith
import Derived.Deep.RegionHeld
namespace Go.Proofs.Ythlhocneggcekaa
open Go.RowKit
def pageR (z : Int) : Bool := decide (0 ≤ z ∧ z < 64)
def stepR (z : Int) : Bool := decide (0 ≤ z ∧ z < 8)
def chkR (p h t : Int) : Int := if pageR p = true then (if stepR h = true then (if stepR t = true then 0 else 2) else 2) else 2
theorem isPageR_any (z : Int) (w : World) : Calls Try.prog 45 #[.int .i64 z] w fun e w' => e = .returned (.bool (pageR z)) ∧ w' = w := by
  by_cases h1 : 0 ≤ z
  · by_cases h2 : z < 64
    · have : pageR z = true := by simp [pageR, h1, h2]
      rw [this]
      go_enter Try.func45, Try.ntmps45
      go_wp2
      go_ret
      exact ⟨rfl, rfl⟩
    · have : pageR z = false := by simp [pageR, h2]
      rw [this]
      go_enter Try.func45, Try.ntmps45
      go_wp2
      go_ret
      exact ⟨rfl, rfl⟩
  · have : pageR z = false := by simp [pageR, h1]
    rw [this]
    go_enter Try.func45, Try.ntmps45
    go_wp2
    go_ret
    exact ⟨rfl, rfl⟩
theorem isStep_any (z : Int) (w : World) : Calls Try.prog 46 #[.int .i64 z] w fun e w' => e = .returned (.bool (stepR z)) ∧ w' = w := by
  by_cases h1 : 0 ≤ z
  · by_cases h2 : z < 8
    · have : stepR z = true := by simp [stepR, h1, h2]
      rw [this]
      go_enter Try.func46, Try.ntmps46
      go_wp2
      go_ret
      exact ⟨rfl, rfl⟩
    · have : stepR z = false := by simp [stepR, h2]
      rw [this]
      go_enter Try.func46, Try.ntmps46
      go_wp2
      go_ret
      exact ⟨rfl, rfl⟩
  · have : stepR z = false := by simp [stepR, h1]
    rw [this]
    go_enter Try.func46, Try.ntmps46
    go_wp2
    go_ret
    exact ⟨rfl, rfl⟩
abbrev ringB (p h t : Int) : Obj := .cells #[.int .i64 p, .int .i64 h, .int .i64 t] 35
set_option maxHeartbeats 1000000 in
theorem rCheck_any (p h t : Int) (w : World) :
    Calls Try.prog 37 #[.agg #[.int .i64 p, .int .i64 h, .int .i64 t]] w fun e w' => e = .returned (.int .i64 (chkR p h t)) ∧ w' = w.alloc (ringB p h t) := by
  cases a : pageR p
  · have : chkR p h t = 2 := by simp [chkR, a]
    rw [this]
    go_enter Try.func37, Try.ntmps37
    go_wp2_with (first | (go_at_call 45; refine (isPageR_any _ _).mono ?_; rintro e w' ⟨rfl, rfl⟩) | (go_at_call 46; refine (isStep_any _ _).mono ?_; rintro e w' ⟨rfl, rfl⟩))
    go_ret
    exact ⟨rfl, rfl⟩
  cases b : stepR h
  · have : chkR p h t = 2 := by simp [chkR, a, b]
    rw [this]
    go_enter Try.func37, Try.ntmps37
    go_wp2_with (first | (go_at_call 45; refine (isPageR_any _ _).mono ?_; rintro e w' ⟨rfl, rfl⟩) | (go_at_call 46; refine (isStep_any _ _).mono ?_; rintro e w' ⟨rfl, rfl⟩))
    go_ret
    exact ⟨rfl, rfl⟩
  cases c : stepR t
  · have : chkR p h t = 2 := by simp [chkR, a, b, c]
    rw [this]
    go_enter Try.func37, Try.ntmps37
    go_wp2_with (first | (go_at_call 45; refine (isPageR_any _ _).mono ?_; rintro e w' ⟨rfl, rfl⟩) | (go_at_call 46; refine (isStep_any _ _).mono ?_; rintro e w' ⟨rfl, rfl⟩))
    go_ret
    exact ⟨rfl, rfl⟩
  have : chkR p h t = 0 := by simp [chkR, a, b, c]
  rw [this]
  go_enter Try.func37, Try.ntmps37
  go_wp2_with (first | (go_at_call 45; refine (isPageR_any _ _).mono ?_; rintro e w' ⟨rfl, rfl⟩) | (go_at_call 46; refine (isStep_any _ _).mono ?_; rintro e w' ⟨rfl, rfl⟩))
  go_ret
  exact ⟨rfl, rfl⟩
def Box (w : World) (n : Nat) (t : TypeId) (cs : Array Value) : Prop := w.heap[n]? = some (.cells cs t (0, 0))
theorem Box.blk {w : World} {n : Nat} {t : TypeId} {cs : Array Value} (h : Box w n t cs) : Blk w n cs := ⟨t, (0, 0), h⟩
theorem Box.lt {w : World} {n : Nat} {t : TypeId} {cs : Array Value} (h : Box w n t cs) : n < w.heap.size := h.blk.lt
theorem Box.keep {w w' : World} {n : Nat} {t : TypeId} {cs : Array Value} (h : Box w n t cs) (hb : Below w.heap.size w w') : Box w' n t cs := heap_kept hb h.lt h
theorem Box.newAt {w : World} {n : Nat} (h : n = w.heap.size) (t : TypeId) (cs : Array Value) : Box (w.alloc (.cells cs t)) n t cs := heap_at h
theorem Box.past {w : World} {n : Nat} {t : TypeId} {cs : Array Value} (h : Box w n t cs) (o : Obj) : Box (w.alloc o) n t cs := heap_past h.lt h
theorem Box.cell {w : World} {n : Nat} {t : TypeId} {cs : Array Value} (h : Box w n t cs) (i : Nat) : w.cell? ⟨n, i, none⟩ = cs[i]? := h.blk.cell i
theorem Box.frozen {w : World} {n : Nat} {t : TypeId} {cs : Array Value} (h : Box w n t cs) (i : Nat) : w.frozen? ⟨n, i, none⟩ = false := frozen_of_row w n _ _ _ h
theorem Box.set {w : World} {n : Nat} {t : TypeId} {cs : Array Value} (h : Box w n t cs) (i : Nat) (u : Value) : Box (w.setCell ⟨n, i, none⟩ u) n t (cs.setIfInBounds i u) := heap_setCell_same w n i cs t u h
theorem Box.other {w : World} {n : Nat} {t : TypeId} {cs : Array Value} (h : Box w n t cs) {p : Addr} (hp : n ≠ p.block) (u : Value) : Box (w.setCell p u) n t cs := by
  unfold Box; rw [heap_setCell_other w p n u hp]; exact h
theorem Box.one {w : World} {n : Nat} {t : TypeId} {a : Value} (h : Box w n t #[a]) : w.cell? ⟨n, 0, none⟩ = some a ∧ w.frozen? ⟨n, 0, none⟩ = false ∧ n < w.heap.size := ⟨h.cell 0, h.frozen 0, h.lt⟩
structure Br where
  mode : Int
  base : Int
  cache : List Ln
  op : Int
  oh : Int
  ot : Int
  stop : Bool
  fen : Int
  fp : Int
  fh : Int
  ft : Int
  lost : Bool
def B0 : Br := ⟨0, 0, [], 0, 0, 0, false, 0, 0, 0, 0, false⟩
def Br.with (b : Br) (l : List Ln) : Br := { b with cache := l }
def rngBr (b : Br) : Bool := decide (0 ≤ b.mode ∧ b.mode ≤ 2) && decide (0 ≤ b.base ∧ b.base ≤ 63) && decide (0 ≤ b.fen ∧ b.fen ≤ 999)
def chkB (b : Br) : Int := if rngBr b = true then (if chkC b.cache = 0 then (if chkR b.op b.oh b.ot = 0 then chkR b.fp b.fh b.ft else chkR b.op b.oh b.ot) else chkC b.cache) else 2
def bothB (zs : List Int) (b : Br) : Int := if chk zs = 0 then chkB b else chk zs
def whoB (d p : Int) : Bool := decide ((0 ≤ d ∧ d ≤ 7) ∧ (0 ≤ p ∧ p ≤ 63))
def thE (zs : List Int) (b : Br) (d p : Int) : Int := if bothB zs b = 0 then (if whoB d p = true then 0 else 4) else bothB zs b
def ctxW (zs : List Int) (b : Br) (d : Int) : Int := nth zs (8 * b.base + d).toNat
def byT (zs : List Int) (b : Br) (d p : Int) (wr : Bool) : Br × Int × Int :=
  if vC (ctxW zs b d) = true then
    (if aC (ctxW zs b d) = true then (b, p, 0)
    else if (wkd zs (pC (ctxW zs b d)) p wr).2.1 = 0 then (b.with (flC b.cache (d, p, (wkd zs (pC (ctxW zs b d)) p wr).1.2.2.2.2, true, (wkd zs (pC (ctxW zs b d)) p wr).1.2.2.1)), (wkd zs (pC (ctxW zs b d)) p wr).1.2.2.2.2, 0)
    else (b, 0, (wkd zs (pC (ctxW zs b d)) p wr).2.1))
  else (b, 0, 2)
def lineC (l : List Ln) (d p : Int) : Ln := lth l (fndC l d p).toNat
def goT (zs : List Int) (b : Br) (d p : Int) (wr : Bool) : Br × Int × Int :=
  if b.mode = 0 then (b, 0, 1)
  else if b.mode = 1 then (b, p, 0)
  else if 0 ≤ fndC b.cache d p then (if (wr && !(lineC b.cache d p).2.2.2.2) = true then (b, 0, 5) else (b, (lineC b.cache d p).2.2.1, 0))
  else byT zs b d p wr
def thR (zs : List Int) (b : Br) (d p : Int) (wr : Bool) : Br × Int × Int := if thE zs b d p = 0 then goT zs b d p wr else (B0, 0, 0)
theorem chkB_ok {b : Br} (h : chkB b = 0) : (0 ≤ b.mode ∧ b.mode ≤ 2) ∧ (0 ≤ b.base ∧ b.base ≤ 63) ∧ (0 ≤ b.fen ∧ b.fen ≤ 999) ∧ chkC b.cache = 0 ∧ chkR b.op b.oh b.ot = 0 ∧ chkR b.fp b.fh b.ft = 0 := by
  unfold chkB at h
  by_cases h1 : rngBr b = true
  · rw [if_pos h1] at h
    by_cases h2 : chkC b.cache = 0
    · rw [if_pos h2] at h
      by_cases h3 : chkR b.op b.oh b.ot = 0
      · rw [if_pos h3] at h
        simp only [rngBr, Bool.and_eq_true, decide_eq_true_eq] at h1
        exact ⟨h1.1.1, h1.1.2, h1.2, h2, h3, h⟩
      · rw [if_neg h3] at h; exact absurd h h3
    · rw [if_neg h2] at h; exact absurd h h2
  · rw [if_neg h1] at h; exact absurd h (by decide)
theorem chkB_mk {b : Br} (h1 : 0 ≤ b.mode ∧ b.mode ≤ 2) (h2 : 0 ≤ b.base ∧ b.base ≤ 63) (h3 : 0 ≤ b.fen ∧ b.fen ≤ 999) (h4 : chkC b.cache = 0) (h5 : chkR b.op b.oh b.ot = 0) (h6 : chkR b.fp b.fh b.ft = 0) : chkB b = 0 := by
  have : rngBr b = true := by simp [rngBr, h1, h2, h3]
  rw [chkB, if_pos this, if_pos h4, if_pos h5, h6]
theorem chkB_with {b : Br} (h : chkB b = 0) {l : List Ln} (hl : chkC l = 0) : chkB (b.with l) = 0 := by
  obtain ⟨h1, h2, h3, _, h5, h6⟩ := chkB_ok h
  exact chkB_mk h1 h2 h3 hl h5 h6
theorem chkC_nil : chkC [] = 0 := by decide
theorem bothB_ok {zs : List Int} {b : Br} (h : bothB zs b = 0) : chk zs = 0 ∧ chkB b = 0 := by
  unfold bothB at h
  by_cases hk : chk zs = 0
  · rw [if_pos hk] at h; exact ⟨hk, h⟩
  · rw [if_neg hk] at h; exact absurd h hk
theorem bothB_mk {zs : List Int} {b : Br} (h : chk zs = 0) (k : chkB b = 0) : bothB zs b = 0 := by rw [bothB, if_pos h, k]
theorem thE_ok {zs : List Int} {b : Br} {d p : Int} (h : thE zs b d p = 0) : chk zs = 0 ∧ chkB b = 0 ∧ (0 ≤ d ∧ d ≤ 7) ∧ (0 ≤ p ∧ p ≤ 63) := by
  unfold thE at h
  by_cases hb : bothB zs b = 0
  · rw [if_pos hb] at h
    by_cases hw : whoB d p = true
    · obtain ⟨a, c⟩ := bothB_ok hb
      simp only [whoB, decide_eq_true_eq] at hw
      exact ⟨a, c, hw.1, hw.2⟩
    · rw [if_neg hw] at h; exact absurd h (by decide)
  · rw [if_neg hb] at h; exact absurd h hb
theorem thE_mk {zs : List Int} {b : Br} {d p : Int} (h : chk zs = 0) (k : chkB b = 0) (hd : 0 ≤ d ∧ d ≤ 7) (hp : 0 ≤ p ∧ p ≤ 63) : thE zs b d p = 0 := by
  rw [thE, if_pos (bothB_mk h k), if_pos (by simp [whoB, hd, hp])]
theorem fnd_page {zs : List Int} {root page : Int} {b r x l : Bool} {p : Int} (h : fnd zs root page = ((b, r, x, l, p), 0)) : 0 ≤ p ∧ p ≤ 63 := by
  unfold fnd at h
  by_cases h1 : fltR (one zs root page) = 0
  · rw [if_pos h1] at h
    by_cases h2 : lE (one zs root page) = true
    · rw [if_pos h2] at h
      by_cases h3 : pE (one zs root page) % 8 = 0
      · rw [if_pos h3] at h
        simp only [Prod.mk.injEq] at h
        have := pE_in (one zs root page)
        omega
      · rw [if_neg h3] at h
        simp only [Prod.mk.injEq] at h
        omega
    · rw [if_neg h2] at h
      by_cases h3 : fltR (two zs root page) = 0
      · rw [if_pos h3] at h
        by_cases h4 : lE (two zs root page) = true
        · rw [if_pos h4, entE] at h
          simp only [Prod.mk.injEq] at h
          have := pE_in (two zs root page)
          omega
        · rw [if_neg h4] at h
          simp only [Prod.mk.injEq] at h
          omega
      · rw [if_neg h3] at h
        simp only [Prod.mk.injEq] at h
        exact absurd h.2 h3
  · rw [if_neg h1] at h
    simp only [Prod.mk.injEq] at h
    exact absurd h.2 h1
theorem fltR_cases (z : Int) : fltR z = 0 ∨ fltR z = 3 ∨ fltR z = 4 := by
  unfold fltR; split
  · split <;> simp
  · simp
theorem fnd_fault (zs : List Int) (root page : Int) : (fnd zs root page).2 = 0 ∨ (fnd zs root page).2 = 3 ∨ (fnd zs root page).2 = 4 := by
  unfold fnd
  by_cases h1 : fltR (one zs root page) = 0
  · rw [if_pos h1]
    by_cases h2 : lE (one zs root page) = true
    · rw [if_pos h2]
      by_cases h3 : pE (one zs root page) % 8 = 0
      · rw [if_pos h3]; simp
      · rw [if_neg h3]; simp
    · rw [if_neg h2]
      by_cases h3 : fltR (two zs root page) = 0
      · rw [if_pos h3]
        by_cases h4 : lE (two zs root page) = true
        · rw [if_pos h4]; simp
        · rw [if_neg h4]; simp
      · rw [if_neg h3]; exact fltR_cases _
  · rw [if_neg h1]; exact fltR_cases _
theorem wkd_two {zs : List Int} {root page : Int} {wr : Bool} (hk : chk zs = 0) (hr : pageB root = true) (hp : pageB page = true) :
    (∃ f, (3 ≤ f ∧ f ≤ 5) ∧ wkd zs root page wr = ((false, false, false, false, 0), f, 0)) ∨
    (∃ x p, (0 ≤ p ∧ p ≤ 63) ∧ (wr = true → x = true) ∧ wkd zs root page wr = ((true, true, x, true, p), 0, 0)) := by
  obtain ⟨⟨⟨b, r, x, l, p⟩, f⟩, hF⟩ : ∃ F, fnd zs root page = F := ⟨_, rfl⟩
  have hff := fnd_fault zs root page
  rw [hF] at hff
  rw [wkd, if_pos hk, if_pos ⟨hr, hp⟩, wkF, hF]
  by_cases h : f = 0
  · subst h
    obtain ⟨rfl, rfl⟩ := fnd_good hF
    simp only [if_true]
    by_cases hq : (r && (x || !wr)) = true
    · rw [if_pos hq]
      simp only [Bool.and_eq_true, Bool.or_eq_true, Bool.not_eq_true'] at hq
      obtain ⟨rfl, hx⟩ := hq
      refine .inr ⟨x, p, fnd_page hF, fun e => ?_, rfl⟩
      rcases hx with hx | hx
      · exact hx
      · rw [e] at hx; exact absurd hx (by decide)
    · rw [if_neg hq]
      exact .inl ⟨5, by omega, rfl⟩
  · simp only [h, if_false]
    have hff : f = 0 ∨ f = 3 ∨ f = 4 := hff
    exact .inl ⟨f, by omega, rfl⟩
theorem pC_page (z : Int) : pageB (pC z) = true := by
  unfold pC pageB; split <;> simp <;> omega
theorem page_of {p : Int} (h : 0 ≤ p ∧ p ≤ 63) : pageB p = true := by simp [pageB]; omega
theorem fnd_line {l : List Ln} {d p : Int} (h : 0 ≤ fndC l d p) : (fndC l d p).toNat < l.length ∧ hasB d p (lineC l d p) = true ∧ lineC l d p ∈ l := by
  unfold lineC
  unfold fndC at h ⊢
  cases e : l.findIdx? (hasB d p) with
  | none => rw [e] at h; exact absurd h (by decide)
  | some i =>
    rw [List.findIdx?_eq_some_iff_getElem] at e
    obtain ⟨hi, h1, _⟩ := e
    have hn : ((i : Int)).toNat = i := by simp
    simp only [hn]
    exact ⟨hi, by rw [lth_get hi]; exact h1, by rw [lth_get hi]; exact List.getElem_mem hi⟩
theorem fl_ok {l : List Ln} {d p a : Int} {x : Bool} (hl : chkC l = 0) (hd : 0 ≤ d ∧ d ≤ 7) (hp : 0 ≤ p ∧ p ≤ 63) (ha : 0 ≤ a ∧ a ≤ 63) (hn : ¬ 0 ≤ fndC l d p) : flE l (d, p, a, true, x) = 0 := by
  have h1 : chkC [((d, p, a, true, x) : Ln)] = 0 := chkC_zero.2 ⟨by simp, fun y hy => by
    obtain rfl := List.mem_singleton.1 hy
    exact ⟨by simp [rngB]; omega, rfl⟩, List.pairwise_singleton _ _⟩
  rw [flE, if_pos hl, if_pos h1, if_neg hn]
structure Ht where
  pc : Int
  r : List Int
  done : Bool
def H0 : Ht := ⟨0, [], false⟩
def chkH (h : Ht) : Int := if h.r.length = 8 then (if placeB h.pc = true then (if h.r.all wordB = true then 0 else 2) else 2) else 3
theorem all_words {zs : List Int} (h : ∀ i, i < zs.length → wordB (nth zs i) = true) : zs.all wordB = true := by
  rw [List.all_eq_true]
  intro x hx
  obtain ⟨i, hi, rfl⟩ := List.mem_iff_getElem.1 hx
  have := h i hi
  rwa [nth, List.getD_eq_getElem?_getD, List.getElem?_eq_getElem hi] at this
abbrev Tc := Int × Int × Int × Bool × Int
structure Mc where
  zs : List Int
  h : Ht
  b : Br
def M0 : Mc := ⟨[], H0, B0⟩
def chkM (m : Mc) : Int := if chk m.zs = 0 then (if chkH m.h = 0 then chkB m.b else chkH m.h) else chk m.zs
theorem chkM_ok {m : Mc} (h : chkM m = 0) : chk m.zs = 0 ∧ chkH m.h = 0 ∧ chkB m.b = 0 := by
  unfold chkM at h
  by_cases h1 : chk m.zs = 0
  · rw [if_pos h1] at h
    by_cases h2 : chkH m.h = 0
    · rw [if_pos h2] at h; exact ⟨h1, h2, h⟩
    · rw [if_neg h2] at h; exact absurd h h2
  · rw [if_neg h1] at h; exact absurd h h1
def mth (l : List Mc) (i : Nat) : Mc := (l[i]?).getD M0
theorem mth_take {l : List Mc} {i k : Nat} (h : i < k) : mth (l.take k) i = mth l i := by simp [mth, h]
theorem mth_drop {l : List Mc} {i k : Nat} : mth (l.drop k) i = mth l (k + i) := by simp [mth]
def ckT (t : Tc) : Int :=
  if (0 ≤ t.1 ∧ t.1 ≤ 7) ∧ (0 ≤ t.2.1 ∧ t.2.1 ≤ 511) ∧ (0 ≤ t.2.2.1 ∧ t.2.2.1 ≤ 511) then (if 0 ≤ t.2.2.2.2 ∧ t.2.2.2.2 ≤ 65535 then (if t.2.1 % 8 = t.2.2.1 % 8 then 0 else 3) else 2) else 4
theorem ckT_ok {t : Tc} (h : ckT t = 0) : (0 ≤ t.1 ∧ t.1 ≤ 7) ∧ (0 ≤ t.2.1 ∧ t.2.1 ≤ 511) ∧ (0 ≤ t.2.2.1 ∧ t.2.2.1 ≤ 511) ∧ (0 ≤ t.2.2.2.2 ∧ t.2.2.2.2 ≤ 65535) ∧ t.2.1 % 8 = t.2.2.1 % 8 := by
  unfold ckT at h
  by_cases h1 : (0 ≤ t.1 ∧ t.1 ≤ 7) ∧ (0 ≤ t.2.1 ∧ t.2.1 ≤ 511) ∧ (0 ≤ t.2.2.1 ∧ t.2.2.1 ≤ 511)
  · rw [if_pos h1] at h
    by_cases h2 : 0 ≤ t.2.2.2.2 ∧ t.2.2.2.2 ≤ 65535
    · rw [if_pos h2] at h
      by_cases h3 : t.2.1 % 8 = t.2.2.1 % 8
      · exact ⟨h1.1, h1.2.1, h1.2.2, h2, h3⟩
      · rw [if_neg h3] at h; exact absurd h (by decide)
    · rw [if_neg h2] at h; exact absurd h (by decide)
  · rw [if_neg h1] at h; exact absurd h (by decide)
theorem ckT_mk {t : Tc} (h1 : 0 ≤ t.1 ∧ t.1 ≤ 7) (h2 : 0 ≤ t.2.1 ∧ t.2.1 ≤ 511) (h3 : 0 ≤ t.2.2.1 ∧ t.2.2.1 ≤ 511) (h4 : 0 ≤ t.2.2.2.2 ∧ t.2.2.2.2 ≤ 65535) (h5 : t.2.1 % 8 = t.2.2.1 % 8) : ckT t = 0 := by
  rw [ckT, if_pos ⟨h1, h2, h3⟩, if_pos h4, if_pos h5]
def lets (m : Mc) (t : Tc) : Bool := decide ((goT m.zs (m.b.with []) t.1 (t.2.1 / 8) t.2.2.2.1).2.2 = 0 ∧ (goT m.zs (m.b.with []) t.1 (t.2.1 / 8) t.2.2.2.1).2.1 = t.2.2.1 / 8)
def mcE : List Mc → Int
  | [] => 0
  | m :: l => if chkM m = 0 then mcE l else chkM m
theorem mcE_zero : ∀ {l : List Mc}, mcE l = 0 → ∀ i, i < l.length → chkM (mth l i) = 0
  | [], _, i, hi => absurd hi (Nat.not_lt_zero _)
  | m :: l, h, i, hi => by
    unfold mcE at h
    by_cases e : chkM m = 0
    · rw [if_pos e] at h
      cases i with
      | zero => exact e
      | succ i => exact mcE_zero h i (by simpa using hi)
    · rw [if_neg e] at h; exact absurd h e
theorem mcE_mk : ∀ {l : List Mc}, (∀ i, i < l.length → chkM (mth l i) = 0) → mcE l = 0
  | [], _ => rfl
  | m :: l, h => by
    rw [mcE, if_pos (show chkM m = 0 from h 0 (by simp))]
    exact mcE_mk fun i hi => h (i + 1) (by simpa using hi)
theorem mcE_bad : ∀ {l : List Mc} {i : Nat}, (∀ j, j < i → chkM (mth l j) = 0) → i < l.length → ¬ chkM (mth l i) = 0 → mcE l = chkM (mth l i)
  | [], _, _, hi, _ => absurd hi (Nat.not_lt_zero _)
  | m :: l, 0, _, _, hn => by rw [mcE, if_neg (show ¬ chkM m = 0 from hn)]; rfl
  | m :: l, i + 1, h, hi, hn => by
    rw [mcE, if_pos (show chkM m = 0 from h 0 (by omega))]
    exact mcE_bad (fun j hj => h (j + 1) (by omega)) (by simpa using hi) hn
def frE (l : List Mc) (t : Tc) : Int := if l.length ≤ 121 then (if mcE l = 0 then ckT t else mcE l) else 1
theorem frE_ok {l : List Mc} {t : Tc} (h : frE l t = 0) : l.length ≤ 121 ∧ mcE l = 0 ∧ ckT t = 0 := by
  unfold frE at h
  by_cases h1 : l.length ≤ 121
  · rw [if_pos h1] at h
    by_cases h2 : mcE l = 0
    · rw [if_pos h2] at h; exact ⟨h1, h2, h⟩
    · rw [if_neg h2] at h; exact absurd h h2
  · rw [if_neg h1] at h; exact absurd h (by decide)
theorem frE_mk {l : List Mc} {t : Tc} (h1 : l.length ≤ 121) (h2 : mcE l = 0) (h3 : ckT t = 0) : frE l t = 0 := by rw [frE, if_pos h1, if_pos h2, h3]
def IsLast (l : List Mc) (t : Tc) (k : Int) : Prop := (-1 ≤ k ∧ k < l.length) ∧ (0 ≤ k → lets (mth l k.toNat) t = true) ∧ ∀ j : Nat, k < j → j < l.length → lets (mth l j) t = false
theorem IsLast.one {l : List Mc} {t : Tc} {a b : Int} (h : IsLast l t a) (k : IsLast l t b) : a = b := by
  obtain ⟨h1, h2, h3⟩ := h
  obtain ⟨k1, k2, k3⟩ := k
  rcases Int.lt_trichotomy a b with e | e | e
  · have q := h3 b.toNat (by omega) (by omega)
    rw [k2 (by omega)] at q
    exact absurd q (by decide)
  · exact e
  · have q := k3 a.toNat (by omega) (by omega)
    rw [h2 (by omega)] at q
    exact absurd q (by decide)
theorem IsLast.two {l : List Mc} {t : Tc} {k : Nat} {a b j : Int} (hk : k ≤ l.length) (hj : IsLast l t j) (ha : IsLast (l.take k) t a) (hb : IsLast (l.drop k) t b) : (0 ≤ b → j = k + b) ∧ (¬ 0 ≤ b → j = a) := by
  obtain ⟨a1, a2, a3⟩ := ha
  obtain ⟨b1, b2, b3⟩ := hb
  rw [List.length_take] at a1 a3
  rw [List.length_drop] at b1 b3
  constructor
  · intro h0
    refine hj.one ⟨by omega, fun _ => ?_, fun i hi hl => ?_⟩
    · have := b2 h0
      rw [mth_drop] at this
      rw [show (k + b : Int).toNat = k + b.toNat by omega]; exact this
    · have := b3 (i - k) (by omega) (by omega)
      rw [mth_drop, show k + (i - k) = i by omega] at this
      exact this
  · intro h0
    refine hj.one ⟨by omega, fun h => ?_, fun i hi hl => ?_⟩
    · have := a2 h
      rw [mth_take (by omega)] at this
      exact this
    · by_cases e : i < k
      · have := a3 i hi (by omega)
        rw [mth_take e] at this
        exact this
      · have := b3 (i - k) (by omega) (by omega)
        rw [mth_drop, show k + (i - k) = i by omega] at this
        exact this
theorem frE_take {l : List Mc} {t : Tc} (k : Nat) (h : frE l t = 0) : frE (l.take k) t = 0 := by
  obtain ⟨h1, h2, h3⟩ := frE_ok h
  refine frE_mk (by rw [List.length_take]; omega) (mcE_mk fun i hi => ?_) h3
  rw [List.length_take] at hi
  rw [mth_take (by omega)]
  exact mcE_zero h2 i (by omega)
theorem frE_drop {l : List Mc} {t : Tc} (k : Nat) (h : frE l t = 0) : frE (l.drop k) t = 0 := by
  obtain ⟨h1, h2, h3⟩ := frE_ok h
  refine frE_mk (by rw [List.length_drop]; omega) (mcE_mk fun i hi => ?_) h3
  rw [List.length_drop] at hi
  rw [mth_drop]
  exact mcE_zero h2 _ (by omega)
theorem thE_lets {m : Mc} {t : Tc} (hm : chkM m = 0) (ht : ckT t = 0) : thE m.zs (m.b.with []) t.1 (t.2.1 / 8) = 0 := by
  obtain ⟨h1, h2, h3⟩ := chkM_ok hm
  obtain ⟨k1, k2, k3, k4, k5⟩ := ckT_ok ht
  exact thE_mk h1 (chkB_with h3 chkC_nil) k1 (by omega)
theorem infoM : (Try.prog.info? 39).map (·.size) = some 16 := by kernel_rfl
theorem yields_row {ops : Array Oper} {S : World → Prop} {o : Oper} {a : Act} (hw : Region.wanted o (yielded ops a.tmps) = true) (ty : TypeId) (x : Operand) (ho : o.op = .load ty x) {n : Nat} {cs : Array Value} (hx : a.eval x = .pointer (some ⟨n, 0, none⟩)) (hS : ∀ w, S w → (loadVar ty ⟨n, 0, none⟩).run Try.prog w = .ok (.agg cs) w) : YieldsIf Try.prog ops S o (.agg cs) a :=
  .inl ⟨hw, fun w hw' => by
    unfold execOp
    simp only [ho, hx, Instr.loadAt, Instr.sureAddr, Sem.run_bind, Sem.run_pure, Result.andThen_ok, hS w hw']⟩
def IsM (w : World) (m : Mc) (cs : Array Value) : Prop :=
  ∃ a1 n1 c1 a2 n2 c2 a3 n3 c3, cs = #[.slice a1 n1 c1, .int .i64 m.h.pc, .slice a2 n2 c2, .bool m.h.done, .int .i64 m.b.mode, .int .i64 m.b.base, .slice a3 n3 c3, .int .i64 m.b.op, .int .i64 m.b.oh, .int .i64 m.b.ot, .bool m.b.stop, .int .i64 m.b.fen, .int .i64 m.b.fp, .int .i64 m.b.fh, .int .i64 m.b.ft, .bool m.b.lost] ∧
    Sl w (.slice a1 n1 c1) m.zs ∧ Sl w (.slice a2 n2 c2) m.h.r ∧ Ls w (.slice a3 n3 c3) m.b.cache
theorem IsM.size {w : World} {m : Mc} {cs : Array Value} (h : IsM w m cs) : cs.size = 16 ∧ cs.all (·.oneCell') = true := by
  obtain ⟨a1, n1, c1, a2, n2, c2, a3, n3, c3, rfl, -⟩ := h; exact ⟨rfl, by simp [Value.oneCell']⟩
theorem IsM.keep {w w' : World} {m : Mc} {cs : Array Value} (h : IsM w m cs) (hb : Below w.heap.size w w') : IsM w' m cs := by
  obtain ⟨a1, n1, c1, a2, n2, c2, a3, n3, c3, rfl, h1, h2, h3⟩ := h; exact ⟨a1, n1, c1, a2, n2, c2, a3, n3, c3, rfl, h1.keep hb, h2.keep hb, h3.keep hb⟩
theorem isM_any {u : Value} {zs : List Int} {p : Int} {v : Value} {r : List Int} {d : Bool} {mo ba op oh ot fe fp fh ft : Int} {st lo : Bool} {vc : Value} {l : List Ln} {w : World} (h : Sl w u zs ∧ Sl w v r ∧ Ls w vc l) : IsM w ⟨zs, ⟨p, r, d⟩, ⟨mo, ba, l, op, oh, ot, st, fe, fp, fh, ft, lo⟩⟩ #[u, .int .i64 p, v, .bool d, .int .i64 mo, .int .i64 ba, vc, .int .i64 op, .int .i64 oh, .int .i64 ot, .bool st, .int .i64 fe, .int .i64 fp, .int .i64 fh, .int .i64 ft, .bool lo] := by
  obtain ⟨h1, h2, h3⟩ := h
  obtain ⟨a1, n1, c1, rfl⟩ : ∃ a k c, u = .slice a k c := let ⟨a, c, e, _⟩ := h1; ⟨a, _, c, e⟩
  obtain ⟨a2, n2, c2, rfl⟩ : ∃ a k c, v = .slice a k c := let ⟨a, c, e, _⟩ := h2; ⟨a, _, c, e⟩
  obtain ⟨a3, n3, c3, rfl⟩ : ∃ a k c, vc = .slice a k c := let ⟨a, c, e, _⟩ := h3; ⟨a, _, c, e⟩
  exact ⟨a1, n1, c1, a2, n2, c2, a3, n3, c3, rfl, h1, h2, h3⟩
theorem Box.sixteen {w : World} {n : Nat} {t : TypeId} {a0 a1 a2 a3 a4 a5 a6 a7 a8 a9 a10 a11 a12 a13 a14 a15 : Value} (h : Box w n t #[a0, a1, a2, a3, a4, a5, a6, a7, a8, a9, a10, a11, a12, a13, a14, a15]) :
    (w.cell? ⟨n, 0, none⟩ = some a0 ∧ w.cell? ⟨n, 1, none⟩ = some a1 ∧ w.cell? ⟨n, 2, none⟩ = some a2 ∧ w.cell? ⟨n, 3, none⟩ = some a3) ∧ (w.cell? ⟨n, 4, none⟩ = some a4 ∧ w.cell? ⟨n, 5, none⟩ = some a5 ∧ w.cell? ⟨n, 6, none⟩ = some a6 ∧ w.cell? ⟨n, 7, none⟩ = some a7 ∧ w.cell? ⟨n, 8, none⟩ = some a8 ∧ w.cell? ⟨n, 9, none⟩ = some a9 ∧ w.cell? ⟨n, 10, none⟩ = some a10 ∧ w.cell? ⟨n, 11, none⟩ = some a11 ∧ w.cell? ⟨n, 12, none⟩ = some a12 ∧ w.cell? ⟨n, 13, none⟩ = some a13 ∧ w.cell? ⟨n, 14, none⟩ = some a14 ∧ w.cell? ⟨n, 15, none⟩ = some a15) ∧ n < w.heap.size :=
  ⟨⟨h.cell 0, h.cell 1, h.cell 2, h.cell 3⟩, ⟨h.cell 4, h.cell 5, h.cell 6, h.cell 7, h.cell 8, h.cell 9, h.cell 10, h.cell 11, h.cell 12, h.cell 13, h.cell 14, h.cell 15⟩, h.lt⟩
def AtRow (w : World) (b o : Nat) (cs : Array Value) : Prop := ∀ j v, cs[j]? = some v → w.cell? ⟨b, o + j, none⟩ = some v
theorem AtRow.keep {w w' : World} {b o : Nat} {cs : Array Value} (h : AtRow w b o cs) (hb : Below w.heap.size w w') (hl : b < w.heap.size) : AtRow w' b o cs := fun j v hv => ((bcell hb).1 b _ hl).trans (h j v hv)
def AtM (w : World) (b o : Nat) (m : Mc) : Prop := ∃ cs, IsM w m cs ∧ AtRow w b o cs
theorem AtM.keep {w w' : World} {b o : Nat} {m : Mc} (h : AtM w b o m) (hb : Below w.heap.size w w') (hl : b < w.heap.size) : AtM w' b o m := by
  obtain ⟨cs, h1, h2⟩ := h; exact ⟨cs, h1.keep hb, h2.keep hb hl⟩
def Ms (w : World) (v : Value) (l : List Mc) : Prop :=
  ∃ a cap, v = .slice a l.length cap ∧ l.length ≤ cap ∧ cap ≤ maxLen ∧
    (l = [] ∨ ∃ b o, a = some ⟨b, o, none⟩ ∧ b < w.heap.size ∧ ∀ i, i < l.length → AtM w b (o + i * 16) (mth l i))
theorem Ms.nil (w : World) (a : Option Addr) (cap : Nat) (h : cap ≤ maxLen) : Ms w (.slice a 0 cap) [] := ⟨a, cap, rfl, Nat.zero_le _, h, .inl rfl⟩
theorem Ms.keep {w w' : World} {v : Value} {l : List Mc} (h : Ms w v l) (hb : Below w.heap.size w w') : Ms w' v l := by
  obtain ⟨a, cap, rfl, hl, hm, h⟩ := h
  refine ⟨a, cap, rfl, hl, hm, h.imp id ?_⟩
  rintro ⟨b, o, rfl, hbl, hc⟩
  exact ⟨b, o, rfl, Nat.lt_of_lt_of_le hbl hb.size, fun i hi => (hc i hi).keep hb hbl⟩
theorem Ms.shape {w : World} {v : Value} {l : List Mc} (h : Ms w v l) : ∃ a cap, v = .slice a l.length cap ∧ l.length ≤ cap ∧ cap ≤ maxLen := by
  obtain ⟨a, cap, h, k1, k2, _⟩ := h; exact ⟨a, cap, h, k1, k2⟩
theorem Ms.at {w w' : World} {a : Option Addr} {n cap : Nat} {l : List Mc} (h : Ms w (.slice a n cap) l) (hb : Below w.heap.size w w') {i : Nat} (hi : i < l.length) :
    ∃ b o cs, a = some ⟨b, o, none⟩ ∧ b < w'.heap.size ∧ IsM w' (mth l i) cs ∧ AtRow w' b (o + i * 16) cs := by
  obtain ⟨a', c', e', -, -, q⟩ := h
  simp only [Value.slice.injEq] at e'
  rcases q with q | ⟨b', o', q, q2, q3⟩
  · rw [q] at hi; simp at hi
  · obtain ⟨cs, h1, h2⟩ := (q3 i hi).keep hb q2
    exact ⟨b', o', cs, by rw [e'.1, q], Nat.lt_of_lt_of_le q2 hb.size, h1, h2⟩
theorem Ms.take {w : World} {a : Option Addr} {n cap : Nat} {l : List Mc} (h : Ms w (.slice a n cap) l) {k : Nat} (hk : k ≤ l.length) : Ms w (.slice a k cap) (l.take k) := by
  obtain ⟨a', c', e', h1, h2, q⟩ := h
  simp only [Value.slice.injEq] at e'
  obtain ⟨rfl, rfl, rfl⟩ := e'
  refine ⟨a, cap, by rw [List.length_take, Nat.min_eq_left hk], by rw [List.length_take]; omega, h2, ?_⟩
  rcases q with q | ⟨b, o, q, q2, q3⟩
  · exact .inl (by rw [q]; simp)
  · refine .inr ⟨b, o, q, q2, fun i hi => ?_⟩
    rw [List.length_take] at hi
    rw [mth_take (by omega)]
    exact q3 i (by omega)
theorem Ms.drop {w : World} {b o n cap : Nat} {l : List Mc} (h : Ms w (.slice (some ⟨b, o, none⟩) n cap) l) {k : Nat} (hk : k ≤ l.length) : Ms w (.slice (some ⟨b, o + k * 16, none⟩) (l.length - k) (cap - k)) (l.drop k) := by
  obtain ⟨a', c', e', h1, h2, q⟩ := h
  simp only [Value.slice.injEq] at e'
  obtain ⟨rfl, rfl, rfl⟩ := e'
  refine ⟨_, _, by rw [List.length_drop], by rw [List.length_drop]; omega, by omega, ?_⟩
  rcases q with q | ⟨b', o', q, q2, q3⟩
  · exact .inl (by rw [q]; simp)
  · simp only [Option.some.injEq, Addr.mk.injEq] at q
    obtain ⟨rfl, rfl, -⟩ := q
    refine .inr ⟨b, _, rfl, q2, fun i hi => ?_⟩
    rw [List.length_drop] at hi
    rw [mth_drop, show o + k * 16 + i * 16 = o + (k + i) * 16 by omega]
    exact q3 _ (by omega)
section
variable {P : Program}
theorem run_loadVar_off (w : World) (g o : Nat) (ty : TypeId) (cs : Array Value) (d : TypeDesc) (hg : AtRow w g o cs)
    (hu : P.underlying ty = some d) (hd : (match d with | .struct _ | .array _ _ => true | _ => false) = true) (hi : (P.info? ty).map (·.size) = some cs.size) :
    (loadVar ty ⟨g, o, none⟩).run P w = .ok (.agg cs) w := by
  have hl : (loadCells ⟨g, o, none⟩ cs.toList.length).run P w = .ok cs.toList.toArray w :=
    run_loadCells_list (P := P) w ⟨g, o, none⟩ cs.toList (fun j v hv => by
      have hadd : (⟨g, o, none⟩ : Addr).add j = ⟨g, o + j, none⟩ := by unfold Addr.add; split <;> simp_all
      rw [hadd]
      exact hg j v (by simpa using hv))
  cases hq : P.info? ty with
  | none => simp [hq] at hi
  | some i =>
    have hs : i.size = cs.size := by simpa [hq] using hi
    have hagg : (isAgg ty).run P w = .ok true w := by
      unfold isAgg
      rw [Sem.run_bind, run_underlying hu w]
      cases d <;> simp_all
    simp only [Array.length_toList, Array.toArray_toList] at hl
    simp [loadVar, Sem.run_bind, hagg, sizeOf, typeInfo, hq, hs, hl]
theorem wp_load_off {o : Oper} {a : Act} {w : World} {K : Act → World → Prop} {Q : Exit → Act → World → Prop} (ty : TypeId) (x : Operand) (ho : o.op = .load ty x)
    (g q : Nat) (hx : a.eval x = .pointer (some ⟨g, q, none⟩)) (cs : Array Value) (d : TypeDesc) (hg : AtRow w g q cs)
    (hu : P.underlying ty = some d) (hd : (match d with | .struct _ | .array _ _ => true | _ => false) = true) (hi : (P.info? ty).map (·.size) = some cs.size)
    (h : K (a.put o.dst (.agg cs)) w) : o.wp P a w K Q := by
  unfold Oper.wp execOp
  simp only [ho, hx, Instr.loadAt, Instr.sureAddr, Sem.run_bind, Sem.run_pure, Result.andThen_ok, run_loadVar_off w g q ty cs d hg hu hd hi]
  exact h
theorem wpList_load_off {ops : Array Oper} {rest : List Oper} {o : Oper} {a : Act} {w : World} {Q : Exit → Act → World → Prop} (hgd : o.guard = none) (ty : TypeId) (x : Operand) (ho : o.op = .load ty x)
    (g q : Nat) (hx : a.eval x = .pointer (some ⟨g, q, none⟩)) (cs : Array Value) (d : TypeDesc) (hg : AtRow w g q cs)
    (hu : P.underlying ty = some d) (hd : (match d with | .struct _ | .array _ _ => true | _ => false) = true) (hi : (P.info? ty).map (·.size) = some cs.size)
    (h : wpList P ops Q rest (a.put o.dst (.agg cs)) w) : wpList P ops Q (o :: rest) a w :=
  wpList_plain hgd fun _ hK => wp_load_off ty x ho g q hx cs d hg hu hd hi (hK _ _ h)
end
theorem Box.twelve {w : World} {n : Nat} {t : TypeId} {a0 a1 a2 a3 a4 a5 a6 a7 a8 a9 a10 a11 : Value} (h : Box w n t #[a0, a1, a2, a3, a4, a5, a6, a7, a8, a9, a10, a11]) :
    (w.cell? ⟨n, 0, none⟩ = some a0 ∧ w.cell? ⟨n, 1, none⟩ = some a1 ∧ w.cell? ⟨n, 2, none⟩ = some a2 ∧ w.cell? ⟨n, 3, none⟩ = some a3 ∧ w.cell? ⟨n, 4, none⟩ = some a4 ∧ w.cell? ⟨n, 5, none⟩ = some a5 ∧ w.cell? ⟨n, 6, none⟩ = some a6 ∧ w.cell? ⟨n, 7, none⟩ = some a7 ∧ w.cell? ⟨n, 8, none⟩ = some a8 ∧ w.cell? ⟨n, 9, none⟩ = some a9 ∧ w.cell? ⟨n, 10, none⟩ = some a10 ∧ w.cell? ⟨n, 11, none⟩ = some a11) ∧ n < w.heap.size :=
  ⟨⟨h.cell 0, h.cell 1, h.cell 2, h.cell 3, h.cell 4, h.cell 5, h.cell 6, h.cell 7, h.cell 8, h.cell 9, h.cell 10, h.cell 11⟩, h.lt⟩
theorem Box.marks {w : World} {n : Nat} {t : TypeId} {a0 a1 a2 a3 a4 a5 a6 a7 a8 a9 a10 a11 : Value} (h : Box w n t #[a0, a1, a2, a3, a4, a5, a6, a7, a8, a9, a10, a11]) :
    w.frozen? ⟨n, 0, none⟩ = false ∧ w.frozen? ⟨n, 1, none⟩ = false ∧ w.frozen? ⟨n, 2, none⟩ = false ∧ w.frozen? ⟨n, 3, none⟩ = false ∧ w.frozen? ⟨n, 4, none⟩ = false ∧ w.frozen? ⟨n, 5, none⟩ = false ∧ w.frozen? ⟨n, 6, none⟩ = false ∧ w.frozen? ⟨n, 7, none⟩ = false ∧ w.frozen? ⟨n, 8, none⟩ = false ∧ w.frozen? ⟨n, 9, none⟩ = false ∧ w.frozen? ⟨n, 10, none⟩ = false ∧ w.frozen? ⟨n, 11, none⟩ = false :=
  ⟨h.frozen 0, h.frozen 1, h.frozen 2, h.frozen 3, h.frozen 4, h.frozen 5, h.frozen 6, h.frozen 7, h.frozen 8, h.frozen 9, h.frozen 10, h.frozen 11⟩
theorem Box.other12 {w : World} {n m : Nat} {t : TypeId} {cs : Array Value} (h : Box w n t cs) (hp : n ≠ m) (u0 u1 u2 u3 u4 u5 u6 u7 u8 u9 u10 u11 : Value) :
    Box ((((((((((((w.setCell ⟨m, 0, none⟩ u0).setCell ⟨m, 1, none⟩ u1).setCell ⟨m, 2, none⟩ u2).setCell ⟨m, 3, none⟩ u3).setCell ⟨m, 4, none⟩ u4).setCell ⟨m, 5, none⟩ u5).setCell ⟨m, 6, none⟩ u6).setCell ⟨m, 7, none⟩ u7).setCell ⟨m, 8, none⟩ u8).setCell ⟨m, 9, none⟩ u9).setCell ⟨m, 10, none⟩ u10).setCell ⟨m, 11, none⟩ u11) n t cs :=
  (((((((((((h.other (p := ⟨m, 0, none⟩) hp u0).other (p := ⟨m, 1, none⟩) hp u1).other (p := ⟨m, 2, none⟩) hp u2).other (p := ⟨m, 3, none⟩) hp u3).other (p := ⟨m, 4, none⟩) hp u4).other (p := ⟨m, 5, none⟩) hp u5).other (p := ⟨m, 6, none⟩) hp u6).other (p := ⟨m, 7, none⟩) hp u7).other (p := ⟨m, 8, none⟩) hp u8).other (p := ⟨m, 9, none⟩) hp u9).other (p := ⟨m, 10, none⟩) hp u10).other (p := ⟨m, 11, none⟩) hp u11
theorem bel_set12 {a w : World} {m : Nat} (hp : a.heap.size ≤ m) (h : Below a.heap.size a w) (u0 u1 u2 u3 u4 u5 u6 u7 u8 u9 u10 u11 : Value) :
    Below a.heap.size a ((((((((((((w.setCell ⟨m, 0, none⟩ u0).setCell ⟨m, 1, none⟩ u1).setCell ⟨m, 2, none⟩ u2).setCell ⟨m, 3, none⟩ u3).setCell ⟨m, 4, none⟩ u4).setCell ⟨m, 5, none⟩ u5).setCell ⟨m, 6, none⟩ u6).setCell ⟨m, 7, none⟩ u7).setCell ⟨m, 8, none⟩ u8).setCell ⟨m, 9, none⟩ u9).setCell ⟨m, 10, none⟩ u10).setCell ⟨m, 11, none⟩ u11) :=
  (((((((((((h.setCell (p := ⟨m, 0, none⟩) hp u0).setCell (p := ⟨m, 1, none⟩) hp u1).setCell (p := ⟨m, 2, none⟩) hp u2).setCell (p := ⟨m, 3, none⟩) hp u3).setCell (p := ⟨m, 4, none⟩) hp u4).setCell (p := ⟨m, 5, none⟩) hp u5).setCell (p := ⟨m, 6, none⟩) hp u6).setCell (p := ⟨m, 7, none⟩) hp u7).setCell (p := ⟨m, 8, none⟩) hp u8).setCell (p := ⟨m, 9, none⟩) hp u9).setCell (p := ⟨m, 10, none⟩) hp u10).setCell (p := ⟨m, 11, none⟩) hp u11
def tab : List Int := wth [9, 33, 10, 3, 16, 49, 24, 159, 25, 139] 5
theorem tab_len : tab.length = 512 := wth_len _ _
set_option maxHeartbeats 4000000 in
theorem tables_own (w : World) : Calls Try.prog 18 #[] w fun e w' =>
    ∃ g, e = .returned (.tuple #[.agg #[.slice (some ⟨g, 0, none⟩) 512 512], .agg #[.int .i64 2, .int .i64 1, .slice none 0 0, .int .i64 40, .int .i64 0, .int .i64 0, .bool false, .int .i64 0, .int .i64 41, .int .i64 0, .int .i64 0, .bool false]]) ∧ w'.heap[g]? = some (.cells (intCells tab) 3 (0, 0)) ∧ w.heap.size ≤ g ∧ Below w.heap.size w w' := by
  go_enter Try.func18, Try.ntmps18
  go_wp2_with fail
  refine (with_own _ 0 10 [9, 33, 10, 3, 16, 49, 24, 159, 25, 139] 5 _ ?_ rfl (by decide) (by decide)).mono ?_
  · exact sl_block (heap_at (by simp)) rfl rfl (by simp [maxLen])
  rintro e w1 ⟨g, rfl, hS, b1, hg, cs, hgc, hcs⟩
  have X0 := (((Box.newAt (n := w.heap.size) rfl 30 #[.slice none 0 0]).past _).past _).keep b1
  have X1 := ((Box.newAt (n := w.heap.size + 1) (by simp) 37 #[.int .i64 0, .int .i64 0, .slice none 0 0, .int .i64 0, .int .i64 0, .int .i64 0, .bool false, .int .i64 0, .int .i64 0, .int .i64 0, .int .i64 0, .bool false]).past _).keep b1
  have B1 : Hid (Below w.heap.size w w1) := bel_trans (bel_alloc (bel_alloc (bel_alloc (Below.refl _ _) _) _) _) b1
  have hg' : w.heap.size + 1 + 1 + 1 ≤ g := by simpa using hg
  have hcc : cs = intCells tab := by
    apply Array.ext'
    rw [hcs, intCells_list]; rfl
  have HG : Hid (w1.heap[g]? = some (.cells (intCells tab) 3 (0, 0))) := by show _ = _; rw [hgc, hcc]
  clear b1 hS hg hgc hcs hcc
  obtain ⟨r0, r1, s0⟩ := X0.one
  obtain ⟨⟨u0, u1, u2, u3, u4, u5, u6, u7, u8, u9, u10, u11⟩, s1⟩ := X1.twelve
  obtain ⟨y0, y1, y2, y3, y4, y5, y6, y7, y8, y9, y10, y11⟩ := X1.marks
  go_wp2
  refine bodyPost_ret (v := .tuple #[.agg #[.slice (some ⟨g, 0, none⟩) 512 512], .agg #[.int .i64 2, .int .i64 1, .slice none 0 0, .int .i64 40, .int .i64 0, .int .i64 0, .bool false, .int .i64 0, .int .i64 41, .int .i64 0, .int .i64 0, .bool false]]) (by simp [results, Try.results18, go_sem, *]) rfl ⟨g, rfl, ?_, by omega, ?_⟩
  · exact (Box.other (p := ⟨w.heap.size, 0, none⟩) HG.out (by dsimp only; omega) _).other12 (by omega) _ _ _ _ _ _ _ _ _ _ _ _
  · exact bel_set12 (by omega) (bel_set (p := ⟨w.heap.size, 0, none⟩) (Nat.le_refl _) B1.out _) _ _ _ _ _ _ _ _ _ _ _ _
theorem sl_tab {w : World} {g : Nat} {zs : List Int} (h : w.heap[g]? = some (.cells (intCells zs) 3 (0, 0))) (hl : zs.length = 512) : Sl w (.slice (some ⟨g, 0, none⟩) 512 512) zs :=
  sl_block h (intCells_list _) hl.symm (by rw [hl]; simp [maxLen])
end Go.Proofs.Ythlhocneggcekaa
