/-
  Laid together: AppendL, FillC, Ring1, Box, Ring2, Ring3, OrderMath, WordMath, BridgeMath, CodeMath.
-/
import Derived.Test.YtfbmmiikhkmpfacT2
import Derived.Deep.AppendLies
import Derived.Deep.RegionHeld3
import Derived.Deep.DrawnRows
import Derived.Deep.CutRange
/-
  append of lines to a row of its own: what it gives, as an operation of a region, drawn or not.
-/
namespace Go.Proofs.Ytfbmmiikhkmpfac
open Go.RowKit

theorem infoLine : ∃ i, Try.prog.info? 56 = some i ∧ i.zero = some (.agg #[.int .i64 0, .int .i64 0, .int .i64 0, .bool false, .bool false]) ∧ i.size = 5 ∧ i.bytes = 32 := by
  have h : (Try.prog.info? 56).map (fun i => (i.zero, i.size, i.bytes)) = some (some (.agg #[.int .i64 0, .int .i64 0, .int .i64 0, .bool false, .bool false]), 5, 32) := by kernel_rfl
  cases hi : Try.prog.info? 56 with
  | none => rw [hi] at h; simp at h
  | some i => rw [hi] at h; simp at h; exact ⟨i, rfl, h.1, h.2.1, h.2.2⟩

theorem cellsL_len (x : Ln) : (cellsL x).length = 5 := rfl
theorem flat_len (l : List Ln) : (l.flatMap cellsL).length = l.length * 5 := by
  induction l with
  | nil => rfl
  | cons x t ih => rw [List.flatMap_cons, List.length_append, ih, cellsL_len, List.length_cons]; omega
theorem lth_succ (x : Ln) (t : List Ln) (i : Nat) : lth (x :: t) (i + 1) = lth t i := by simp [lth]
theorem flat_at (l : List Ln) : ∀ (i r : Nat), i < l.length → r < 5 → (l.flatMap cellsL)[i * 5 + r]? = (cellsL (lth l i))[r]? := by
  induction l with
  | nil => intro i r hi _; exact absurd hi (Nat.not_lt_zero _)
  | cons x t ih =>
    intro i r hi hr
    rw [List.flatMap_cons]
    cases i with
    | zero =>
      rw [Nat.zero_mul, Nat.zero_add, List.getElem?_append_left (by rw [cellsL_len]; exact hr)]
      rfl
    | succ i =>
      rw [List.getElem?_append_right (by rw [cellsL_len]; omega), cellsL_len, lth_succ, ← ih i r (by simpa using hi) hr]
      congr 1; omega
theorem flat_of {l : List Ln} {j : Nat} {u : Value} (h : (l.flatMap cellsL)[j]? = some u) : ∃ i r, i < l.length ∧ r < 5 ∧ j = i * 5 + r ∧ (cellsL (lth l i))[r]? = some u := by
  have hj : j < l.length * 5 := by
    rw [← flat_len]
    rcases Nat.lt_or_ge j (l.flatMap cellsL).length with k | k
    · exact k
    · rw [List.getElem?_eq_none k] at h; cases h
  refine ⟨j / 5, j % 5, by omega, by omega, by omega, ?_⟩
  rw [← flat_at l (j / 5) (j % 5) (by omega) (by omega), ← h]
  congr 1; omega
theorem flat_one (l : List Ln) : ∀ u ∈ l.flatMap cellsL, u.oneCell' = true := by
  intro u hu
  obtain ⟨x, _, hx⟩ := List.mem_flatMap.1 hu
  simp only [cellsL, List.mem_cons, List.not_mem_nil, or_false] at hx
  rcases hx with rfl | rfl | rfl | rfl | rfl <;> rfl
theorem add_off (b o j : Nat) : Addr.add ⟨b, o, none⟩ j = ⟨b, o + j, none⟩ := by unfold Addr.add; split <;> simp_all
theorem atL_cell {w : World} {b o : Nat} {x : Ln} (h : AtL w b o x) {r : Nat} {u : Value} (hr : r < 5) (hu : (cellsL x)[r]? = some u) : w.cell? ⟨b, o + r, none⟩ = some u := by
  obtain ⟨h0, h1, h2, h3, h4⟩ := h
  match r, hr with
  | 0, _ => simp [cellsL] at hu; subst hu; exact h0
  | 1, _ => simp [cellsL] at hu; subst hu; exact h1
  | 2, _ => simp [cellsL] at hu; subst hu; exact h2
  | 3, _ => simp [cellsL] at hu; subst hu; exact h3
  | 4, _ => simp [cellsL] at hu; subst hu; exact h4

/-- A row of its own that holds these lines. -/
def OwnL (w : World) (base : Nat) (v : Value) (l : List Ln) : Prop := w.ownsRow base 56 5 v l.length (l.flatMap cellsL)

theorem OwnL.lit (w : World) (base : Nat) (h : base ≤ w.heap.size) : OwnL (w.alloc (.cells #[] 56)) base (.slice (some ⟨w.heap.size, 0, none⟩) 0 0) [] :=
  World.ownsRow_lit (base := base) (e := 56) (size := 5) w #[] 0 h (by simp [maxLen]) rfl
theorem OwnL.litAt {w : World} {n : Nat} (e : n = w.heap.size) (base : Nat) (h : base ≤ w.heap.size) : OwnL (w.alloc (.cells #[] 56)) base (.slice (some ⟨n, 0, none⟩) 0 0) [] := by
  subst e; exact OwnL.lit w base h
theorem OwnL.nothing (w : World) (base : Nat) : OwnL w base (.slice none 0 0) [] := World.ownsRow_nil w base _ _
theorem OwnL.alloc {w : World} {base : Nat} {v : Value} {l : List Ln} (h : OwnL w base v l) (o : Obj) : OwnL (w.alloc o) base v l := World.ownsRow.alloc h o
theorem OwnL.drew {w : World} {base : Nat} {v : Value} {l : List Ln} (h : OwnL w base v l) : OwnL w.drew base v l := h
theorem OwnL.ls {w : World} {base : Nat} {v : Value} {l : List Ln} (h : OwnL w base v l) : Ls w v l := by
  have h' := h
  rcases h.2 with ⟨rfl, h0⟩ | ⟨g, cap, cur, rfl, hb, hg, hnc, hcm, hcs, htake⟩
  · obtain rfl : l = [] := List.eq_nil_of_length_eq_zero h0
    exact Ls.nothing w
  · refine ⟨_, cap, rfl, hnc, hcm, .inr ⟨g, 0, rfl, ?_, fun i hi => ?_⟩⟩
    · exact (h.lt g rfl).2
    · have hc : ∀ r, r < 5 → w.cell? ⟨g, 0 + i * 5 + r, none⟩ = (cellsL (lth l i))[r]? := fun r hr => by
        rw [Nat.zero_add]
        have := h.cellAt (i * 5 + r) (by omega)
        rw [this, flat_at l i r hi hr]
      exact ⟨hc 0 (by omega), hc 1 (by omega), hc 2 (by omega), hc 3 (by omega), hc 4 (by omega)⟩
/-- A row's block lies where the base is, or behind. -/
theorem OwnL.base {w : World} {base : Nat} {v : Value} {l : List Ln} (h : OwnL w base v l) : ∀ k, v.ownBlock = some k → base ≤ k := fun k hk => (World.ownsRow.lt h k hk).1

theorem run_append_L (w : World) (ty : TypeId) (base : Nat) (v x : Value) (l1 l2 : List Ln) (hown : OwnL w base v l1) (hx : Ls w x l2) (hn : l1.length + l2.length ≤ 1000) (hbase : base ≤ w.heap.size) (hne : (∃ c m n, v = .slice (some c) m n) ∨ l2 ≠ []) :
    ∃ g cap w', (Builtin.append_ #[36, 36] ty #[v, x]).run Try.prog w = .ok (.slice (some ⟨g, 0, none⟩) (l1 ++ l2).length cap) w' ∧ OwnL w' base (.slice (some ⟨g, 0, none⟩) (l1 ++ l2).length cap) (l1 ++ l2) ∧ w.grownBy w' v.ownBlock ∧ (v.ownBlock = some g ∨ g = w.heap.size) := by
  obtain ⟨i, hi, hz, hsz, hby⟩ := infoLine
  obtain ⟨a, cap, rfl, hl, hm, h⟩ := hx
  rcases h with rfl | ⟨b, o, rfl, hb, hc⟩
  · rcases hown.2 with ⟨rfl, h0⟩ | ⟨g, c, cur, rfl, hbg, hg, hnc, hcm, hcs, htake⟩
    · rcases hne with ⟨_, _, _, hne⟩ | hne
      · simp at hne
      · exact absurd rfl hne
    · refine ⟨g, c, w, ?_, ?_, ⟨rfl, rfl, rfl, Nat.le_refl _, fun _ _ _ => rfl⟩, .inl rfl⟩
      · cases a <;>
        simp [Builtin.append_, run_underlying Try.underlying36, sizeOf, typeInfo, hi, Builtin.lenOf, Builtin.firstCells, loadCells, loadCellsFrom, hnc, storeCells]
      · simpa using hown
  · by_cases h0 : l2 = []
    · subst h0
      rcases hown.2 with ⟨rfl, h0⟩ | ⟨g, c, cur, rfl, hbg, hg, hnc, hcm, hcs, htake⟩
      · rcases hne with ⟨_, _, _, hne⟩ | hne
        · simp at hne
        · exact absurd rfl hne
      · refine ⟨g, c, w, ?_, ?_, ⟨rfl, rfl, rfl, Nat.le_refl _, fun _ _ _ => rfl⟩, .inl rfl⟩
        · simp [Builtin.append_, run_underlying Try.underlying36, sizeOf, typeInfo, hi, Builtin.lenOf, Builtin.firstCells, loadCells, loadCellsFrom, hnc, storeCells]
        · simpa using hown
    · have hpos : 0 < l2.length := List.length_pos_iff.2 h0
      obtain ⟨g, c, w', hr, ho, hgr, hat, _⟩ := run_append_lies (P := Try.prog) w 36 ty base 56 i _ 5 32 Try.underlying36 hi hz hsz hby rfl (by omega) v l1.length (l1.flatMap cellsL) hown ⟨b, o, none⟩ l2.length cap (l2.flatMap cellsL) (flat_len l2)
        (fun j u hu => by
          obtain ⟨i', r, h1, h2, rfl, h4⟩ := flat_of hu
          rw [add_off, ← Nat.add_assoc]
          exact atL_cell (hc i' h1) h2 h4)
        (flat_one l2) hpos (by unfold maxLen; omega) (by omega) hbase w.heap.size rfl
      refine ⟨g, c, w', ?_, ?_, hgr, hat⟩
      · rw [List.length_append]; exact hr
      · unfold OwnL; rw [List.length_append, List.flatMap_append]; exact ho

theorem wp_append_L {w : World} {o : Oper} {a : Act} {K : Act → World → Prop} {Q : Exit → Act → World → Prop} (s x : Operand)
    (ho : o.op = .call { callee := .builtin .append, args := #[s, x], argTypes := #[36, 36] })
    (base : Nat) (v u : Value) (l1 l2 : List Ln) (hs : a.eval s = v) (hu : a.eval x = u) (hown : OwnL w base v l1) (hx : Ls w u l2) (hn : l1.length + l2.length ≤ 1000) (hbase : base ≤ w.heap.size) (hne : (∃ c m n, v = .slice (some c) m n) ∨ l2 ≠ [])
    (h : ∀ g cap w', OwnL w' base (.slice (some ⟨g, 0, none⟩) (l1 ++ l2).length cap) (l1 ++ l2) → w.grownBy w' v.ownBlock → Below base w w' → (v.ownBlock = some g ∨ g = w.heap.size) → K (a.put o.dst (.slice (some ⟨g, 0, none⟩) (l1 ++ l2).length cap)) w') : o.wp Try.prog a w K Q := by
  obtain ⟨g, cap, w', hr, h2, h3, h4⟩ := run_append_L w o.type base v u l1 l2 hown hx hn hbase hne
  unfold Oper.wp execOp
  simp only [ho, resolve, invoke, builtin, Sem.run_bind, Sem.run_pure, Result.andThen_ok, List.map_toArray, List.map_cons, List.map_nil, hs, hu, hr]
  exact h g cap w' h2 h3 ((Below.refl base w).grown h3 hbase hown.base) h4

theorem wpList_append_L {w : World} {ops : Array Oper} {rest : List Oper} {o : Oper} {a : Act} {Q : Exit → Act → World → Prop} (hgd : o.guard = none) (s x : Operand)
    (ho : o.op = .call { callee := .builtin .append, args := #[s, x], argTypes := #[36, 36] })
    (base : Nat) (v u : Value) (l1 l2 : List Ln) (hs : a.eval s = v) (hu : a.eval x = u) (hown : OwnL w base v l1) (hx : Ls w u l2) (hn : l1.length + l2.length ≤ 1000) (hbase : base ≤ w.heap.size) (hne : (∃ c m n, v = .slice (some c) m n) ∨ l2 ≠ [])
    (h : ∀ g cap w', OwnL w' base (.slice (some ⟨g, 0, none⟩) (l1 ++ l2).length cap) (l1 ++ l2) → w.grownBy w' v.ownBlock → Below base w w' → (v.ownBlock = some g ∨ g = w.heap.size) → wpList Try.prog ops Q rest (a.put o.dst (.slice (some ⟨g, 0, none⟩) (l1 ++ l2).length cap)) w') :
    wpList Try.prog ops Q (o :: rest) a w :=
  wpList_plain hgd fun _ hK => wp_append_L s x ho base v u l1 l2 hs hu hown hx hn hbase hne fun g cap w' h2 h3 hb h4 => hK _ _ (h g cap w' h2 h3 hb h4)

theorem step_append_L {w : World} {ops : Array Oper} {o : Oper} {a : Act} {K : Act → World → Prop} {Q : Exit → Act → World → Prop} {E : Prop} (hgd : o.guard = none) (s x : Operand)
    (ho : o.op = .call { callee := .builtin .append, args := #[s, x], argTypes := #[36, 36] })
    (base : Nat) (v u : Value) (l1 l2 : List Ln) (hs : a.eval s = v) (hu : a.eval x = u) (hown : OwnL w base v l1) (hx : Ls w u l2) (hn : l1.length + l2.length ≤ 1000) (hbase : base ≤ w.heap.size) (hne : (∃ c m n, v = .slice (some c) m n) ∨ l2 ≠ [])
    (h : ∀ g cap w', OwnL w' base (.slice (some ⟨g, 0, none⟩) (l1 ++ l2).length cap) (l1 ++ l2) → w.grownBy w' v.ownBlock → Below base w w' → (v.ownBlock = some g ∨ g = w.heap.size) → K (a.put o.dst (.slice (some ⟨g, 0, none⟩) (l1 ++ l2).length cap)) w') :
    if Region.wanted o (yielded ops a.tmps) = true then Oper.wp Try.prog o a w K Q else E := by
  have hw : Region.wanted o (yielded ops a.tmps) = true := by simp [Region.wanted, hgd]
  rw [if_pos hw]
  exact wp_append_L s x ho base v u l1 l2 hs hu hown hx hn hbase hne h

/-- A line in a block of its own, as a slice. -/
theorem ls_one (w : World) (d p a : Int) (r x : Bool) (fr : Nat × Nat) : Ls (w.alloc (.cells #[.int .i64 d, .int .i64 p, .int .i64 a, .bool r, .bool x] 56 fr)) (.slice (some ⟨w.heap.size, 0, none⟩) 1 1) [(d, p, a, r, x)] := by
  have k := (Blk.new w #[.int .i64 d, .int .i64 p, .int .i64 a, .bool r, .bool x] 56 fr).five
  refine ⟨_, 1, rfl, Nat.le_refl _, by simp [maxLen], .inr ⟨w.heap.size, 0, rfl, by simp, fun i hi => ?_⟩⟩
  obtain rfl : i = 0 := by simpa using hi
  exact k
theorem ls_oneAt {w : World} {n : Nat} (h : n = w.heap.size) (d p a : Int) (r x : Bool) (fr : Nat × Nat) : Ls (w.alloc (.cells #[.int .i64 d, .int .i64 p, .int .i64 a, .bool r, .bool x] 56 fr)) (.slice (some ⟨n, 0, none⟩) 1 1) [(d, p, a, r, x)] := by
  subst h; exact ls_one w d p a r x fr
/-- What an append leaves of other slices. -/
theorem Ls.grown {w w' : World} {a : Addr} {n cap : Nat} {l : List Ln} {row : Option Nat} (h : Ls w (.slice (some a) n cap) l) (hg : w.grownBy w' row) (hne : some a.block ≠ row) : Ls w' (.slice (some a) n cap) l := by
  obtain ⟨a', cap', e, hl, hm, h⟩ := h
  refine ⟨a', cap', e, hl, hm, ?_⟩
  rcases h with h | ⟨b, o, rfl, hb, hc⟩
  · exact .inl h
  · simp only [Value.slice.injEq, Option.some.injEq] at e
    obtain ⟨rfl, _, rfl⟩ := e
    have hblk := hg.block b hb hne
    refine .inr ⟨b, o, rfl, Nat.lt_of_lt_of_le hb hg.size, fun i hi => ?_⟩
    have hcell : ∀ j, w'.cell? ⟨b, j, none⟩ = w.cell? ⟨b, j, none⟩ := fun j => World.cell?_of_block (a := ⟨b, j, none⟩) hblk
    unfold AtL
    rw [hcell, hcell, hcell, hcell, hcell]
    exact hc i hi
/-- Nothing below the base has turned by an append. -/
theorem bel_grown {a w w' : World} {v : Value} {l : List Ln} (h : Below a.heap.size a w) (hown : OwnL w a.heap.size v l) (hg : w.grownBy w' v.ownBlock) : Below a.heap.size a w' :=
  h.grown hg h.size hown.base
end Go.Proofs.Ytfbmmiikhkmpfac
/-
  cache.Fill: lines with one more behind them; nothing that was there turns.
-/
namespace Go.Proofs.Ytfbmmiikhkmpfac
open Go.RowKit

theorem chkC_one (y : Ln) : chkC [y] = own y := by
  by_cases h : own y = 0
  · rw [h]
    refine chkC_all (by simp) fun j hj => ?_
    obtain rfl : j = 0 := by simpa using hj
    exact errL_fine (by simpa [lth] using h) (by simp [fndC])
  · exact chkC_at (j := 0) (by simp) (by simp) (fun i hi => absurd hi (Nat.not_lt_zero _)) (by rw [errL_own (by simpa [lth] using h)]; simp [lth]) h
/-- Five cells that are read, and nothing that has turned. -/
theorem keep5 {W w' : World} {n : Nat} {u0 u1 u2 u3 u4 : Value} (h0 : W.cell? ⟨n, 0, none⟩ = some u0) (h1 : W.cell? ⟨n, 1, none⟩ = some u1) (h2 : W.cell? ⟨n, 2, none⟩ = some u2) (h3 : W.cell? ⟨n, 3, none⟩ = some u3) (h4 : W.cell? ⟨n, 4, none⟩ = some u4) (hn : n < W.heap.size) (hb : Below W.heap.size W w') :
    w'.cell? ⟨n, 0, none⟩ = some u0 ∧ w'.cell? ⟨n, 1, none⟩ = some u1 ∧ w'.cell? ⟨n, 2, none⟩ = some u2 ∧ w'.cell? ⟨n, 3, none⟩ = some u3 ∧ w'.cell? ⟨n, 4, none⟩ = some u4 ∧ Below W.heap.size W w' :=
  ⟨((bcell hb).1 n 0 hn).trans h0, ((bcell hb).1 n 1 hn).trans h1, ((bcell hb).1 n 2 hn).trans h2, ((bcell hb).1 n 3 hn).trans h3, ((bcell hb).1 n 4 hn).trans h4, hb⟩
theorem limb5 {A B C D E F : Prop} (h : A ∧ B ∧ C ∧ D ∧ E ∧ F) : F := h.2.2.2.2.2

end Go.Proofs.Ytfbmmiikhkmpfac
/-
  Package ring: what isPage, isStep, Check, Length, place, next, checkBoth answer; none turns memory that was there.
-/
namespace Go.Proofs.Ytfbmmiikhkmpfac
open Go.RowKit

/-- Is it a page, a step of a ring? -/
def pageR (z : Int) : Bool := decide (0 ≤ z ∧ z < 64)
def stepR (z : Int) : Bool := decide (0 ≤ z ∧ z < 8)
/-- What Check says of a ring. -/
def chkR (p h t : Int) : Int := if pageR p = true then (if stepR h = true then (if stepR t = true then 0 else 2) else 2) else 2
/-- How many wait. -/
def lenR (h t : Int) : Int := (t - h + 8) % 8
/-- What is wrong with a memory, or a ring in it. -/
def bothR (zs : List Int) (p h t : Int) : Int := if chk zs = 0 then chkR p h t else chk zs

theorem pageR_in {z : Int} (h : pageR z = true) : 0 ≤ z ∧ z < 64 := by simpa [pageR] using h
theorem stepR_in {z : Int} (h : stepR z = true) : 0 ≤ z ∧ z < 8 := by simpa [stepR] using h
theorem chkR_ok {p h t : Int} (k : chkR p h t = 0) : pageR p = true ∧ stepR h = true ∧ stepR t = true := by
  unfold chkR at k
  by_cases a : pageR p = true
  · by_cases b : stepR h = true
    · by_cases c : stepR t = true
      · exact ⟨a, b, c⟩
      · simp [a, b, c] at k
    · simp [a, b] at k
  · simp [a] at k
theorem chkR_mk {p h t : Int} (a : pageR p = true) (b : stepR h = true) (c : stepR t = true) : chkR p h t = 0 := by simp [chkR, a, b, c]
theorem chkR_cases (p h t : Int) : chkR p h t = 0 ∨ chkR p h t = 2 := by
  unfold chkR
  by_cases a : pageR p = true
  · by_cases b : stepR h = true
    · by_cases c : stepR t = true
      · simp [a, b, c]
      · simp [a, b, c]
    · simp [a, b]
  · simp [a]
theorem lenR_in (h t : Int) : 0 ≤ lenR h t ∧ lenR h t < 8 := by unfold lenR; omega

theorem isPageR_any (z : Int) (w : World) : Calls Try.prog 53 #[.int .i64 z] w fun e w' => e = .returned (.bool (pageR z)) ∧ w' = w := by
  by_cases h1 : 0 ≤ z
  · by_cases h2 : z < 64
    · have : pageR z = true := by simp [pageR, h1, h2]
      rw [this]
      go_enter Try.func53, Try.ntmps53
      go_wp2
      go_ret
      exact ⟨rfl, rfl⟩
    · have : pageR z = false := by simp [pageR, h2]
      rw [this]
      go_enter Try.func53, Try.ntmps53
      go_wp2
      go_ret
      exact ⟨rfl, rfl⟩
  · have : pageR z = false := by simp [pageR, h1]
    rw [this]
    go_enter Try.func53, Try.ntmps53
    go_wp2
    go_ret
    exact ⟨rfl, rfl⟩
theorem isStep_any (z : Int) (w : World) : Calls Try.prog 54 #[.int .i64 z] w fun e w' => e = .returned (.bool (stepR z)) ∧ w' = w := by
  by_cases h1 : 0 ≤ z
  · by_cases h2 : z < 8
    · have : stepR z = true := by simp [stepR, h1, h2]
      rw [this]
      go_enter Try.func54, Try.ntmps54
      go_wp2
      go_ret
      exact ⟨rfl, rfl⟩
    · have : stepR z = false := by simp [stepR, h2]
      rw [this]
      go_enter Try.func54, Try.ntmps54
      go_wp2
      go_ret
      exact ⟨rfl, rfl⟩
  · have : stepR z = false := by simp [stepR, h1]
    rw [this]
    go_enter Try.func54, Try.ntmps54
    go_wp2
    go_ret
    exact ⟨rfl, rfl⟩

/-- The block of a ring that is handed in. -/
abbrev ringB (p h t : Int) : Obj := .cells #[.int .i64 p, .int .i64 h, .int .i64 t] 38

set_option maxHeartbeats 1000000 in
theorem rCheck_any (p h t : Int) (w : World) :
    Calls Try.prog 47 #[.agg #[.int .i64 p, .int .i64 h, .int .i64 t]] w fun e w' => e = .returned (.int .i64 (chkR p h t)) ∧ w' = w.alloc (ringB p h t) := by
  cases a : pageR p
  · have : chkR p h t = 2 := by simp [chkR, a]
    rw [this]
    go_enter Try.func47, Try.ntmps47
    go_wp2_with (first | (go_at_call 53; refine (isPageR_any _ _).mono ?_; rintro e w' ⟨rfl, rfl⟩) | (go_at_call 54; refine (isStep_any _ _).mono ?_; rintro e w' ⟨rfl, rfl⟩))
    go_ret
    exact ⟨rfl, rfl⟩
  cases b : stepR h
  · have : chkR p h t = 2 := by simp [chkR, a, b]
    rw [this]
    go_enter Try.func47, Try.ntmps47
    go_wp2_with (first | (go_at_call 53; refine (isPageR_any _ _).mono ?_; rintro e w' ⟨rfl, rfl⟩) | (go_at_call 54; refine (isStep_any _ _).mono ?_; rintro e w' ⟨rfl, rfl⟩))
    go_ret
    exact ⟨rfl, rfl⟩
  cases c : stepR t
  · have : chkR p h t = 2 := by simp [chkR, a, b, c]
    rw [this]
    go_enter Try.func47, Try.ntmps47
    go_wp2_with (first | (go_at_call 53; refine (isPageR_any _ _).mono ?_; rintro e w' ⟨rfl, rfl⟩) | (go_at_call 54; refine (isStep_any _ _).mono ?_; rintro e w' ⟨rfl, rfl⟩))
    go_ret
    exact ⟨rfl, rfl⟩
  have : chkR p h t = 0 := by simp [chkR, a, b, c]
  rw [this]
  go_enter Try.func47, Try.ntmps47
  go_wp2_with (first | (go_at_call 53; refine (isPageR_any _ _).mono ?_; rintro e w' ⟨rfl, rfl⟩) | (go_at_call 54; refine (isStep_any _ _).mono ?_; rintro e w' ⟨rfl, rfl⟩))
  go_ret
  exact ⟨rfl, rfl⟩

end Go.Proofs.Ytfbmmiikhkmpfac
/-
  A variable's own block: the cells it holds, none of them frozen; carried over calls, new blocks, stores.
-/
namespace Go.Proofs.Ytfbmmiikhkmpfac
open Go.RowKit

/-- This block holds these cells, and may be written. -/
def Box (w : World) (n : Nat) (t : TypeId) (cs : Array Value) : Prop := w.heap[n]? = some (.cells cs t (0, 0))

theorem Box.blk {w : World} {n : Nat} {t : TypeId} {cs : Array Value} (h : Box w n t cs) : Blk w n cs := ⟨t, (0, 0), h⟩
theorem Box.lt {w : World} {n : Nat} {t : TypeId} {cs : Array Value} (h : Box w n t cs) : n < w.heap.size := h.blk.lt
theorem Box.keep {w w' : World} {n : Nat} {t : TypeId} {cs : Array Value} (h : Box w n t cs) (hb : Below w.heap.size w w') : Box w' n t cs := heap_kept hb h.lt h
theorem Box.newAt {w : World} {n : Nat} (h : n = w.heap.size) (t : TypeId) (cs : Array Value) : Box (w.alloc (.cells cs t)) n t cs := heap_at h
theorem Box.past {w : World} {n : Nat} {t : TypeId} {cs : Array Value} (h : Box w n t cs) (o : Obj) : Box (w.alloc o) n t cs := heap_past h.lt h
theorem Box.cell {w : World} {n : Nat} {t : TypeId} {cs : Array Value} (h : Box w n t cs) (i : Nat) : w.cell? ⟨n, i, none⟩ = cs[i]? := h.blk.cell i
theorem Box.frozen {w : World} {n : Nat} {t : TypeId} {cs : Array Value} (h : Box w n t cs) (i : Nat) : w.frozen? ⟨n, i, none⟩ = false := frozen_of_row w n _ _ _ h
theorem Box.set {w : World} {n : Nat} {t : TypeId} {cs : Array Value} (h : Box w n t cs) (i : Nat) (u : Value) : Box (w.setCell ⟨n, i, none⟩ u) n t (cs.setIfInBounds i u) := heap_setCell_same w n i cs t u h
theorem Box.other {w : World} {n : Nat} {t : TypeId} {cs : Array Value} (h : Box w n t cs) {p : Addr} (hp : n ≠ p.block) (u : Value) : Box (w.setCell p u) n t cs := by
  unfold Box; rw [heap_setCell_other w p n u hp]; exact h
theorem Box.drew {w : World} {n : Nat} {t : TypeId} {cs : Array Value} (h : Box w n t cs) : Box w.drew n t cs := h
theorem Box.drewN {w : World} {n : Nat} {t : TypeId} {cs : Array Value} (h : Box w n t cs) (k : Nat) : Box (w.drewN k) n t cs := h
/-- One cell, three cells, with their marks. -/
theorem Box.one {w : World} {n : Nat} {t : TypeId} {a : Value} (h : Box w n t #[a]) : w.cell? ⟨n, 0, none⟩ = some a ∧ w.frozen? ⟨n, 0, none⟩ = false ∧ n < w.heap.size := ⟨h.cell 0, h.frozen 0, h.lt⟩
theorem Box.three {w : World} {n : Nat} {t : TypeId} {a b c : Value} (h : Box w n t #[a, b, c]) :
    w.cell? ⟨n, 0, none⟩ = some a ∧ w.cell? ⟨n, 1, none⟩ = some b ∧ w.cell? ⟨n, 2, none⟩ = some c ∧ w.frozen? ⟨n, 0, none⟩ = false ∧ w.frozen? ⟨n, 1, none⟩ = false ∧ w.frozen? ⟨n, 2, none⟩ = false ∧ n < w.heap.size :=
  ⟨h.cell 0, h.cell 1, h.cell 2, h.frozen 0, h.frozen 1, h.frozen 2, h.lt⟩
theorem Box.set1 {w : World} {n : Nat} {t : TypeId} {a : Value} (h : Box w n t #[a]) (u : Value) : Box (w.setCell ⟨n, 0, none⟩ u) n t #[u] := h.set 0 u
theorem Box.set3 {w : World} {n : Nat} {t : TypeId} {a b c : Value} (h : Box w n t #[a, b, c]) (u0 u1 u2 : Value) :
    Box (((w.setCell ⟨n, 0, none⟩ u0).setCell ⟨n, 1, none⟩ u1).setCell ⟨n, 2, none⟩ u2) n t #[u0, u1, u2] := ((h.set 0 u0).set 1 u1).set 2 u2
theorem Box.other3 {w : World} {n m : Nat} {t : TypeId} {cs : Array Value} (h : Box w n t cs) (hp : n ≠ m) (u0 u1 u2 : Value) :
    Box (((w.setCell ⟨m, 0, none⟩ u0).setCell ⟨m, 1, none⟩ u1).setCell ⟨m, 2, none⟩ u2) n t cs :=
  ((h.other (p := ⟨m, 0, none⟩) hp u0).other (p := ⟨m, 1, none⟩) hp u1).other (p := ⟨m, 2, none⟩) hp u2
theorem bel_set3 {a w : World} {n : Nat} (hp : a.heap.size ≤ n) (h : Below a.heap.size a w) (u0 u1 u2 : Value) :
    Below a.heap.size a (((w.setCell ⟨n, 0, none⟩ u0).setCell ⟨n, 1, none⟩ u1).setCell ⟨n, 2, none⟩ u2) :=
  ((h.setCell (p := ⟨n, 0, none⟩) hp u0).setCell (p := ⟨n, 1, none⟩) hp u1).setCell (p := ⟨n, 2, none⟩) hp u2
theorem bel_set1 {a w : World} {n : Nat} (hp : a.heap.size ≤ n) (h : Below a.heap.size a w) (u0 : Value) : Below a.heap.size a (w.setCell ⟨n, 0, none⟩ u0) := h.setCell (p := ⟨n, 0, none⟩) hp u0
/-- Four cells. -/
theorem Box.four {w : World} {n : Nat} {t : TypeId} {a b c d : Value} (h : Box w n t #[a, b, c, d]) :
    w.cell? ⟨n, 0, none⟩ = some a ∧ w.cell? ⟨n, 1, none⟩ = some b ∧ w.cell? ⟨n, 2, none⟩ = some c ∧ w.cell? ⟨n, 3, none⟩ = some d ∧ w.frozen? ⟨n, 0, none⟩ = false ∧ w.frozen? ⟨n, 1, none⟩ = false ∧ w.frozen? ⟨n, 2, none⟩ = false ∧ w.frozen? ⟨n, 3, none⟩ = false ∧ n < w.heap.size :=
  ⟨h.cell 0, h.cell 1, h.cell 2, h.cell 3, h.frozen 0, h.frozen 1, h.frozen 2, h.frozen 3, h.lt⟩
theorem Box.set4 {w : World} {n : Nat} {t : TypeId} {a b c d : Value} (h : Box w n t #[a, b, c, d]) (u0 u1 u2 u3 : Value) :
    Box ((((w.setCell ⟨n, 0, none⟩ u0).setCell ⟨n, 1, none⟩ u1).setCell ⟨n, 2, none⟩ u2).setCell ⟨n, 3, none⟩ u3) n t #[u0, u1, u2, u3] := (((h.set 0 u0).set 1 u1).set 2 u2).set 3 u3
theorem bel_set4 {a w : World} {n : Nat} (hp : a.heap.size ≤ n) (h : Below a.heap.size a w) (u0 u1 u2 u3 : Value) :
    Below a.heap.size a ((((w.setCell ⟨n, 0, none⟩ u0).setCell ⟨n, 1, none⟩ u1).setCell ⟨n, 2, none⟩ u2).setCell ⟨n, 3, none⟩ u3) :=
  (bel_set3 hp h u0 u1 u2).setCell (p := ⟨n, 3, none⟩) hp u3
end Go.Proofs.Ytfbmmiikhkmpfac
/-
  ring.Push: a memory of its own with a word more in the ring, and the ring then; nothing that was there turns.
-/
namespace Go.Proofs.Ytfbmmiikhkmpfac
open Go.RowKit

/-- What Push answers: the error, the words, the ring. -/
def psE (zs : List Int) (p h t x : Int) : Int := if bothR zs p h t = 0 then (if wordB x = true then (if lenR h t = 7 then 1 else 0) else 2) else bothR zs p h t
def psM (zs : List Int) (p h t x : Int) : List Int := if psE zs p h t x = 0 then zs.set (p * 8 + t).toNat x else []
def psR (zs : List Int) (p h t x : Int) : Int × Int × Int := if psE zs p h t x = 0 then (p, h, (t + 1) % 8) else (0, 0, 0)

theorem bothR_ok {zs : List Int} {p h t : Int} (k : bothR zs p h t = 0) : chk zs = 0 ∧ chkR p h t = 0 := by
  unfold bothR at k
  by_cases hk : chk zs = 0
  · rw [if_pos hk] at k; exact ⟨hk, k⟩
  · rw [if_neg hk] at k; exact absurd k hk
theorem bothR_mk {zs : List Int} {p h t : Int} (a : chk zs = 0) (b : chkR p h t = 0) : bothR zs p h t = 0 := by rw [bothR, if_pos a, b]
theorem place_ok {p t : Int} (hp : pageR p = true) (ht : stepR t = true) : placeB (p * 8 + t) = true := by
  obtain ⟨a, b⟩ := pageR_in hp
  obtain ⟨c, d⟩ := stepR_in ht
  simp [placeB]; omega

/-- Four cells that are read, and nothing that has turned. -/
theorem keep31 {W w' : World} {m n : Nat} {v u0 u1 u2 : Value} (hv : W.cell? ⟨m, 0, none⟩ = some v) (h0 : W.cell? ⟨n, 0, none⟩ = some u0) (h1 : W.cell? ⟨n, 1, none⟩ = some u1) (h2 : W.cell? ⟨n, 2, none⟩ = some u2) (hm : m < W.heap.size) (hn : n < W.heap.size) (hb : Below W.heap.size W w') :
    w'.cell? ⟨m, 0, none⟩ = some v ∧ w'.cell? ⟨n, 0, none⟩ = some u0 ∧ w'.cell? ⟨n, 1, none⟩ = some u1 ∧ w'.cell? ⟨n, 2, none⟩ = some u2 ∧ Below W.heap.size W w' :=
  ⟨((bcell hb).1 m 0 hm).trans hv, ((bcell hb).1 n 0 hn).trans h0, ((bcell hb).1 n 1 hn).trans h1, ((bcell hb).1 n 2 hn).trans h2, hb⟩
theorem limb4 {A B C D E : Prop} (h : A ∧ B ∧ C ∧ D ∧ E) : E := h.2.2.2.2

end Go.Proofs.Ytfbmmiikhkmpfac
/-
  ring.Pop: the word that waits longest, and the ring without it; nothing that was there turns.
-/
namespace Go.Proofs.Ytfbmmiikhkmpfac
open Go.RowKit

/-- What Pop answers: the error, the word, the ring. -/
def ppE (zs : List Int) (p h t : Int) : Int := if bothR zs p h t = 0 then (if h = t then 6 else 0) else bothR zs p h t
def ppV (zs : List Int) (p h t : Int) : Int := if ppE zs p h t = 0 then nth zs (p * 8 + h).toNat else 0
def ppR (zs : List Int) (p h t : Int) : Int × Int × Int := if ppE zs p h t = 0 then (p, (h + 1) % 8, t) else (0, 0, 0)

theorem lenR_zero {h t : Int} (hh : 0 ≤ h ∧ h < 8) (ht : 0 ≤ t ∧ t < 8) : lenR h t = 0 ↔ h = t := by unfold lenR; omega

/-- Five cells that are read, and nothing that has turned. -/
theorem keep32 {W w' : World} {m n b o : Nat} {v u0 u1 u2 u3 : Value} (hv : W.cell? ⟨m, 0, none⟩ = some v) (h0 : W.cell? ⟨n, 0, none⟩ = some u0) (h1 : W.cell? ⟨n, 1, none⟩ = some u1) (h2 : W.cell? ⟨n, 2, none⟩ = some u2) (h3 : W.cell? ⟨b, o, none⟩ = some u3) (hm : m < W.heap.size) (hn : n < W.heap.size) (ho : b < W.heap.size) (hb : Below W.heap.size W w') :
    w'.cell? ⟨m, 0, none⟩ = some v ∧ w'.cell? ⟨n, 0, none⟩ = some u0 ∧ w'.cell? ⟨n, 1, none⟩ = some u1 ∧ w'.cell? ⟨n, 2, none⟩ = some u2 ∧ w'.cell? ⟨b, o, none⟩ = some u3 ∧ Below W.heap.size W w' :=
  ⟨((bcell hb).1 m 0 hm).trans hv, ((bcell hb).1 n 0 hn).trans h0, ((bcell hb).1 n 1 hn).trans h1, ((bcell hb).1 n 2 hn).trans h2, ((bcell hb).1 b o ho).trans h3, hb⟩
theorem limbV {A B C D E F : Prop} (h : A ∧ B ∧ C ∧ D ∧ E ∧ F) : F := h.2.2.2.2.2

end Go.Proofs.Ytfbmmiikhkmpfac
/-
  What waits in a ring, as a list: numbers alone.
-/
namespace Go.Proofs.Ytfbmmiikhkmpfac
open Go.RowKit

/-- The place of a ring's step, so many steps behind its head. -/
def stp (p h : Int) (i : Nat) : Nat := (p * 8 + (h + (i : Int)) % 8).toNat
/-- The first so many words from the head on. -/
def wl (zs : List Int) (p h : Int) (n : Nat) : List Int := (List.range n).map (fun i => nth zs (stp p h i))
/-- These words lie in the ring, from the head on. -/
def Lies (zs : List Int) (p h : Int) (ws : List Int) : Prop := ∀ i, i < ws.length → nth zs (stp p h i) = nth ws i

theorem wl_len (zs : List Int) (p h : Int) (n : Nat) : (wl zs p h n).length = n := by simp [wl]
theorem wl_zero (zs : List Int) (p h : Int) : wl zs p h 0 = [] := rfl
theorem wl_succ (zs : List Int) (p h : Int) (n : Nat) : wl zs p h (n + 1) = wl zs p h n ++ [nth zs (stp p h n)] := by simp [wl, List.range_succ]
theorem wl_lies (zs : List Int) (p h : Int) (n : Nat) : Lies zs p h (wl zs p h n) := by
  intro i hi
  rw [wl_len] at hi
  simp [wl, nth, hi]
theorem stp_lt {p h : Int} (hp : 0 ≤ p ∧ p < 64) (i : Nat) : stp p h i < 512 := by unfold stp; omega
theorem stp_ne {p h : Int} (hp : 0 ≤ p ∧ p < 64) {i j : Nat} (hij : i < j) (hj : j < 8) : stp p h j ≠ stp p h i := by unfold stp; omega
theorem lies_push {zs ws : List Int} {p h x : Int} (hl : zs.length = 512) (hp : 0 ≤ p ∧ p < 64) (h7 : ws.length < 8) (hw : Lies zs p h ws) : Lies (zs.set (stp p h ws.length) x) p h (ws ++ [x]) := by
  intro i hi
  simp at hi
  by_cases e : i < ws.length
  · rw [nth_set_other (stp_ne hp e h7), hw i e]
    simp [nth, List.getElem?_append_left e]
  · obtain rfl : i = ws.length := by omega
    rw [nth_set_same (by rw [hl]; exact stp_lt hp _)]
    simp [nth]

/-- A ring's tail and length behind so many steps. -/
theorem len_steps {h : Int} {n : Nat} (hn : n < 8) : lenR h ((h + (n : Int)) % 8) = n := by unfold lenR; omega
theorem step_in (h : Int) (n : Nat) : stepR ((h + (n : Int)) % 8) = true := by simp [stepR]; omega
theorem step_next (h : Int) (n : Nat) : ((h + (n : Int)) % 8 + 1) % 8 = (h + ((n + 1 : Nat) : Int)) % 8 := by omega
theorem step_zero {h : Int} (hh : 0 ≤ h ∧ h < 8) : (h + ((0 : Nat) : Int)) % 8 = h := by omega
theorem step_tail {h t : Int} (ht : 0 ≤ t ∧ t < 8) : (h + ((lenR h t).toNat : Int)) % 8 = t := by unfold lenR; omega
theorem step_ne {h : Int} {i j : Nat} (hij : i < j) (hj : j < 8) : ¬ (h + (i : Int)) % 8 = (h + (j : Int)) % 8 := by omega
theorem stp_place (p h : Int) (n : Nat) : (p * 8 + (h + (n : Int)) % 8).toNat = stp p h n := rfl
end Go.Proofs.Ytfbmmiikhkmpfac
/-
  Orders and faults as words: numbers alone.
-/
namespace Go.Proofs.Ytfbmmiikhkmpfac
open Go.RowKit

/-- What is wrong with an order; its word. -/
def oE (k d p : Int) : Int := if (0 ≤ k ∧ k ≤ 3) ∧ (0 ≤ d ∧ d ≤ 7) ∧ (0 ≤ p ∧ p ≤ 63) then (if (0 < d ∧ k < 2) ∨ (0 < p ∧ k < 3) then 3 else 0) else 2
def oW (k d p : Int) : Int := if oE k d p = 0 then k + 4 * d + 32 * p else 0
/-- A word that is read as an order. -/
def roE (w : Int) : Int := if 0 ≤ w ∧ w ≤ 65535 then (if oE (w % 4) (w / 4 % 8) (w / 32) = 0 then 0 else 3) else 2
def roO (w : Int) : Int × Int × Int := if roE w = 0 then (w % 4, w / 4 % 8, w / 32) else (0, 0, 0)

theorem oE_cases (k d p : Int) : oE k d p = 0 ∨ oE k d p = 2 ∨ oE k d p = 3 := by
  unfold oE; split
  · split
    · exact .inr (.inr rfl)
    · exact .inl rfl
  · exact .inr (.inl rfl)
theorem oE_ok {k d p : Int} (h : oE k d p = 0) : (0 ≤ k ∧ k ≤ 3) ∧ (0 ≤ d ∧ d ≤ 7) ∧ (0 ≤ p ∧ p ≤ 63) ∧ ¬ (0 < d ∧ k < 2) ∧ ¬ (0 < p ∧ k < 3) := by
  unfold oE at h
  split at h
  · rename_i h1
    split at h
    · exact absurd h (by decide)
    · rename_i h2
      exact ⟨h1.1, h1.2.1, h1.2.2, fun x => h2 (.inl x), fun x => h2 (.inr x)⟩
  · exact absurd h (by decide)
theorem oE_mk {k d p : Int} (h1 : 0 ≤ k ∧ k ≤ 3) (h2 : 0 ≤ d ∧ d ≤ 7) (h3 : 0 ≤ p ∧ p ≤ 63) (h4 : ¬ (0 < d ∧ k < 2)) (h5 : ¬ (0 < p ∧ k < 3)) : oE k d p = 0 := by
  unfold oE; rw [if_pos ⟨h1, h2, h3⟩, if_neg (fun h => h.elim h4 h5)]
theorem oW_ok {k d p : Int} (h : oE k d p = 0) : oW k d p = k + 4 * d + 32 * p := if_pos h
theorem roE_ok {w : Int} (h : roE w = 0) : (0 ≤ w ∧ w ≤ 65535) ∧ oE (w % 4) (w / 4 % 8) (w / 32) = 0 := by
  unfold roE at h
  split at h
  · rename_i h1
    split at h
    · rename_i h2; exact ⟨h1, h2⟩
    · exact absurd h (by decide)
  · exact absurd h (by decide)
theorem roE_mk {w : Int} (h1 : 0 ≤ w ∧ w ≤ 65535) (h2 : oE (w % 4) (w / 4 % 8) (w / 32) = 0) : roE w = 0 := by unfold roE; rw [if_pos h1, if_pos h2]

/-- What is put is read; what is read is put as it was; unlike ones have unlike words. -/
theorem o_back {k d p : Int} (h : oE k d p = 0) : roE (oW k d p) = 0 ∧ roO (oW k d p) = (k, d, p) := by
  obtain ⟨h1, h2, h3, h4, h5⟩ := oE_ok h
  have e1 : oW k d p % 4 = k := by rw [oW_ok h]; omega
  have e2 : oW k d p / 4 % 8 = d := by rw [oW_ok h]; omega
  have e3 : oW k d p / 32 = p := by rw [oW_ok h]; omega
  have hr : roE (oW k d p) = 0 := roE_mk (by rw [oW_ok h]; omega) (by rw [e1, e2, e3]; exact h)
  exact ⟨hr, by rw [roO, if_pos hr, e1, e2, e3]⟩
theorem o_read {w k d p : Int} (h : roE w = 0) (e : roO w = (k, d, p)) : oE k d p = 0 ∧ oW k d p = w := by
  obtain ⟨h1, h2⟩ := roE_ok h
  rw [roO, if_pos h] at e
  simp only [Prod.mk.injEq] at e
  obtain ⟨rfl, rfl, rfl⟩ := e
  exact ⟨h2, by rw [oW_ok h2]; omega⟩
theorem o_like {k d p k' d' p' : Int} (h : oE k d p = 0) (h' : oE k' d' p' = 0) : oW k d p = oW k' d' p' ↔ k = k' ∧ d = d' ∧ p = p' := by
  constructor
  · intro e
    have a := (o_back h).2
    rw [e, (o_back h').2] at a
    simp only [Prod.mk.injEq] at a
    exact ⟨a.1.symm, a.2.1.symm, a.2.2.symm⟩
  · rintro ⟨rfl, rfl, rfl⟩; rfl

/-- What is wrong with a fault; its word. -/
def fE (c d p : Int) : Int := if (1 ≤ c ∧ c ≤ 5) ∧ (0 ≤ d ∧ d ≤ 7) ∧ (0 ≤ p ∧ p ≤ 63) then 0 else 2
def fX (x : Bool) : Int := if x = true then 4096 else 0
def fW (c d p : Int) (x : Bool) : Int := if fE c d p = 0 then c + 8 * d + 64 * p + fX x else 0
/-- A word that is read as a fault. -/
def rfE (w : Int) : Int := if 0 ≤ w ∧ w ≤ 65535 then (if fE (w % 8) (w / 8 % 8) (w / 64 % 64) = 0 ∧ w < 8192 then 0 else 3) else 2
def rfF (w : Int) : Int × Int × Int × Bool := if rfE w = 0 then (w % 8, w / 8 % 8, w / 64 % 64, decide (w / 4096 = 1)) else (0, 0, 0, false)

theorem fE_ok {c d p : Int} (h : fE c d p = 0) : (1 ≤ c ∧ c ≤ 5) ∧ (0 ≤ d ∧ d ≤ 7) ∧ (0 ≤ p ∧ p ≤ 63) := by
  unfold fE at h; split at h
  · rename_i h1; exact h1
  · exact absurd h (by decide)
theorem fE_mk {c d p : Int} (h1 : 1 ≤ c ∧ c ≤ 5) (h2 : 0 ≤ d ∧ d ≤ 7) (h3 : 0 ≤ p ∧ p ≤ 63) : fE c d p = 0 := if_pos ⟨h1, h2, h3⟩
theorem fE_cases (c d p : Int) : fE c d p = 0 ∨ fE c d p = 2 := by
  unfold fE; split
  · exact .inl rfl
  · exact .inr rfl
theorem fW_ok {c d p : Int} {x : Bool} (h : fE c d p = 0) : fW c d p x = c + 8 * d + 64 * p + fX x := if_pos h
theorem fX_cases (x : Bool) : (x = true ∧ fX x = 4096) ∨ (x = false ∧ fX x = 0) := by cases x <;> simp [fX]
theorem rfE_ok {w : Int} (h : rfE w = 0) : (0 ≤ w ∧ w ≤ 65535) ∧ fE (w % 8) (w / 8 % 8) (w / 64 % 64) = 0 ∧ w < 8192 := by
  unfold rfE at h
  split at h
  · rename_i h1
    split at h
    · rename_i h2; exact ⟨h1, h2⟩
    · exact absurd h (by decide)
  · exact absurd h (by decide)
theorem rfE_mk {w : Int} (h1 : 0 ≤ w ∧ w ≤ 65535) (h2 : fE (w % 8) (w / 8 % 8) (w / 64 % 64) = 0) (h3 : w < 8192) : rfE w = 0 := by unfold rfE; rw [if_pos h1, if_pos ⟨h2, h3⟩]
theorem f_back {c d p : Int} {x : Bool} (h : fE c d p = 0) : rfE (fW c d p x) = 0 ∧ rfF (fW c d p x) = (c, d, p, x) := by
  obtain ⟨h1, h2, h3⟩ := fE_ok h
  obtain ⟨w, hw⟩ : ∃ w, fW c d p x = w := ⟨_, rfl⟩
  have ew := fW_ok (x := x) h
  rw [hw] at ew ⊢
  have hx := fX_cases x
  have e1 : w % 8 = c := by rcases hx with ⟨_, hx⟩ | ⟨_, hx⟩ <;> rw [hx] at ew <;> omega
  have e2 : w / 8 % 8 = d := by rcases hx with ⟨_, hx⟩ | ⟨_, hx⟩ <;> rw [hx] at ew <;> omega
  have e3 : w / 64 % 64 = p := by rcases hx with ⟨_, hx⟩ | ⟨_, hx⟩ <;> rw [hx] at ew <;> omega
  have e4 : decide (w / 4096 = 1) = x := by
    rcases hx with ⟨hb, hx⟩ | ⟨hb, hx⟩
    · rw [hx] at ew; rw [hb]; exact decide_eq_true (by omega)
    · rw [hx] at ew; rw [hb]; exact decide_eq_false (by omega)
  have hr : rfE w = 0 := rfE_mk (by rcases hx with ⟨_, hx⟩ | ⟨_, hx⟩ <;> rw [hx] at ew <;> omega) (by rw [e1, e2, e3]; exact h) (by rcases hx with ⟨_, hx⟩ | ⟨_, hx⟩ <;> rw [hx] at ew <;> omega)
  exact ⟨hr, by rw [rfF, if_pos hr, e1, e2, e3, e4]⟩
theorem f_read {w c d p : Int} {x : Bool} (h : rfE w = 0) (e : rfF w = (c, d, p, x)) : fE c d p = 0 ∧ fW c d p x = w := by
  obtain ⟨h1, h2, h3⟩ := rfE_ok h
  rw [rfF, if_pos h] at e
  simp only [Prod.mk.injEq] at e
  obtain ⟨rfl, rfl, rfl, rfl⟩ := e
  refine ⟨h2, ?_⟩
  rw [fW_ok h2]
  by_cases hx : w / 4096 = 1
  · rw [show decide (w / 4096 = 1) = true from decide_eq_true hx, show fX true = 4096 from rfl]; omega
  · rw [show decide (w / 4096 = 1) = false from decide_eq_false hx, show fX false = 0 from rfl]; omega
end Go.Proofs.Ytfbmmiikhkmpfac
/-
  The bridge, as data alone: what Check, Through, Plain, Tell, Obey answer, and what holds of it.
-/
namespace Go.Proofs.Ytfbmmiikhkmpfac
open Go.RowKit

/-- A bridge. -/
structure Br where
  mode : Int
  base : Int
  cache : List Ln
  op : Int
  oh : Int
  ot : Int
  stop : Bool
  fen : Int
  fp : Int
  fh : Int
  ft : Int
  lost : Bool
def B0 : Br := ⟨0, 0, [], 0, 0, 0, false, 0, 0, 0, 0, false⟩
/-- The same with other lines. -/
def Br.with (b : Br) (l : List Ln) : Br := { b with cache := l }
/-- What Check says. -/
def rngBr (b : Br) : Bool := decide (0 ≤ b.mode ∧ b.mode ≤ 2) && decide (0 ≤ b.base ∧ b.base ≤ 63) && decide (0 ≤ b.fen ∧ b.fen ≤ 999)
def chkB (b : Br) : Int := if rngBr b = true then (if chkC b.cache = 0 then (if chkR b.op b.oh b.ot = 0 then chkR b.fp b.fh b.ft else chkR b.op b.oh b.ot) else chkC b.cache) else 2
/-- What is wrong with a memory, or a bridge beside it. -/
def bothB (zs : List Int) (b : Br) : Int := if chk zs = 0 then chkB b else chk zs
def whoB (d p : Int) : Bool := decide ((0 ≤ d ∧ d ≤ 7) ∧ (0 ≤ p ∧ p ≤ 63))
def thE (zs : List Int) (b : Br) (d p : Int) : Int := if bothB zs b = 0 then (if whoB d p = true then 0 else 4) else bothB zs b

/-- The word of a device's context. -/
def ctxW (zs : List Int) (b : Br) (d : Int) : Int := nth zs (8 * b.base + d).toNat
/-- Through by the tables: the bridge, the page, the fault. -/
def byT (zs : List Int) (b : Br) (d p : Int) (wr : Bool) : Br × Int × Int :=
  if vC (ctxW zs b d) = true then
    (if aC (ctxW zs b d) = true then (b, p, 0)
    else if (wkd zs (pC (ctxW zs b d)) p wr).2.1 = 0 then (b.with (flC b.cache (d, p, (wkd zs (pC (ctxW zs b d)) p wr).1.2.2.2.2, true, (wkd zs (pC (ctxW zs b d)) p wr).1.2.2.1)), (wkd zs (pC (ctxW zs b d)) p wr).1.2.2.2.2, 0)
    else (b, 0, (wkd zs (pC (ctxW zs b d)) p wr).2.1))
  else (b, 0, 2)
/-- The line that is found. -/
def lineC (l : List Ln) (d p : Int) : Ln := lth l (fndC l d p).toNat
/-- Through, of right memory and bridge. -/
def goT (zs : List Int) (b : Br) (d p : Int) (wr : Bool) : Br × Int × Int :=
  if b.mode = 0 then (b, 0, 1)
  else if b.mode = 1 then (b, p, 0)
  else if 0 ≤ fndC b.cache d p then (if (wr && !(lineC b.cache d p).2.2.2.2) = true then (b, 0, 5) else (b, (lineC b.cache d p).2.2.1, 0))
  else byT zs b d p wr
def thR (zs : List Int) (b : Br) (d p : Int) (wr : Bool) : Br × Int × Int := if thE zs b d p = 0 then goT zs b d p wr else (B0, 0, 0)

theorem chkB_ok {b : Br} (h : chkB b = 0) : (0 ≤ b.mode ∧ b.mode ≤ 2) ∧ (0 ≤ b.base ∧ b.base ≤ 63) ∧ (0 ≤ b.fen ∧ b.fen ≤ 999) ∧ chkC b.cache = 0 ∧ chkR b.op b.oh b.ot = 0 ∧ chkR b.fp b.fh b.ft = 0 := by
  unfold chkB at h
  by_cases h1 : rngBr b = true
  · rw [if_pos h1] at h
    by_cases h2 : chkC b.cache = 0
    · rw [if_pos h2] at h
      by_cases h3 : chkR b.op b.oh b.ot = 0
      · rw [if_pos h3] at h
        simp only [rngBr, Bool.and_eq_true, decide_eq_true_eq] at h1
        exact ⟨h1.1.1, h1.1.2, h1.2, h2, h3, h⟩
      · rw [if_neg h3] at h; exact absurd h h3
    · rw [if_neg h2] at h; exact absurd h h2
  · rw [if_neg h1] at h; exact absurd h (by decide)
theorem chkB_mk {b : Br} (h1 : 0 ≤ b.mode ∧ b.mode ≤ 2) (h2 : 0 ≤ b.base ∧ b.base ≤ 63) (h3 : 0 ≤ b.fen ∧ b.fen ≤ 999) (h4 : chkC b.cache = 0) (h5 : chkR b.op b.oh b.ot = 0) (h6 : chkR b.fp b.fh b.ft = 0) : chkB b = 0 := by
  have : rngBr b = true := by simp [rngBr, h1, h2, h3]
  rw [chkB, if_pos this, if_pos h4, if_pos h5, h6]
theorem chkB_with {b : Br} (h : chkB b = 0) {l : List Ln} (hl : chkC l = 0) : chkB (b.with l) = 0 := by
  obtain ⟨h1, h2, h3, _, h5, h6⟩ := chkB_ok h
  exact chkB_mk h1 h2 h3 hl h5 h6
theorem chkC_nil : chkC [] = 0 := by decide
theorem bothB_ok {zs : List Int} {b : Br} (h : bothB zs b = 0) : chk zs = 0 ∧ chkB b = 0 := by
  unfold bothB at h
  by_cases hk : chk zs = 0
  · rw [if_pos hk] at h; exact ⟨hk, h⟩
  · rw [if_neg hk] at h; exact absurd h hk
theorem bothB_mk {zs : List Int} {b : Br} (h : chk zs = 0) (k : chkB b = 0) : bothB zs b = 0 := by rw [bothB, if_pos h, k]
theorem thE_ok {zs : List Int} {b : Br} {d p : Int} (h : thE zs b d p = 0) : chk zs = 0 ∧ chkB b = 0 ∧ (0 ≤ d ∧ d ≤ 7) ∧ (0 ≤ p ∧ p ≤ 63) := by
  unfold thE at h
  by_cases hb : bothB zs b = 0
  · rw [if_pos hb] at h
    by_cases hw : whoB d p = true
    · obtain ⟨a, c⟩ := bothB_ok hb
      simp only [whoB, decide_eq_true_eq] at hw
      exact ⟨a, c, hw.1, hw.2⟩
    · rw [if_neg hw] at h; exact absurd h (by decide)
  · rw [if_neg hb] at h; exact absurd h hb
theorem thE_mk {zs : List Int} {b : Br} {d p : Int} (h : chk zs = 0) (k : chkB b = 0) (hd : 0 ≤ d ∧ d ≤ 7) (hp : 0 ≤ p ∧ p ≤ 63) : thE zs b d p = 0 := by
  rw [thE, if_pos (bothB_mk h k), if_pos (by simp [whoB, hd, hp])]
theorem thE_with {zs : List Int} {b : Br} {d p : Int} (h : thE zs b d p = 0) {l : List Ln} (hl : chkC l = 0) : thE zs (b.with l) d p = 0 := by
  obtain ⟨h1, h2, h3, h4⟩ := thE_ok h
  exact thE_mk h1 (chkB_with h2 hl) h3 h4

/-- The page that find tells is one. -/
theorem fnd_page {zs : List Int} {root page : Int} {b r x l : Bool} {p : Int} (h : fnd zs root page = ((b, r, x, l, p), 0)) : 0 ≤ p ∧ p ≤ 63 := by
  unfold fnd at h
  by_cases h1 : fltR (one zs root page) = 0
  · rw [if_pos h1] at h
    by_cases h2 : lE (one zs root page) = true
    · rw [if_pos h2] at h
      by_cases h3 : pE (one zs root page) % 8 = 0
      · rw [if_pos h3] at h
        simp only [Prod.mk.injEq] at h
        have := pE_in (one zs root page)
        omega
      · rw [if_neg h3] at h
        simp only [Prod.mk.injEq] at h
        omega
    · rw [if_neg h2] at h
      by_cases h3 : fltR (two zs root page) = 0
      · rw [if_pos h3] at h
        by_cases h4 : lE (two zs root page) = true
        · rw [if_pos h4, entE] at h
          simp only [Prod.mk.injEq] at h
          have := pE_in (two zs root page)
          omega
        · rw [if_neg h4] at h
          simp only [Prod.mk.injEq] at h
          omega
      · rw [if_neg h3] at h
        simp only [Prod.mk.injEq] at h
        exact absurd h.2 h3
  · rw [if_neg h1] at h
    simp only [Prod.mk.injEq] at h
    exact absurd h.2 h1
theorem fltR_cases (z : Int) : fltR z = 0 ∨ fltR z = 3 ∨ fltR z = 4 := by
  unfold fltR; split
  · split <;> simp
  · simp
theorem fnd_fault (zs : List Int) (root page : Int) : (fnd zs root page).2 = 0 ∨ (fnd zs root page).2 = 3 ∨ (fnd zs root page).2 = 4 := by
  unfold fnd
  by_cases h1 : fltR (one zs root page) = 0
  · rw [if_pos h1]
    by_cases h2 : lE (one zs root page) = true
    · rw [if_pos h2]
      by_cases h3 : pE (one zs root page) % 8 = 0
      · rw [if_pos h3]; simp
      · rw [if_neg h3]; simp
    · rw [if_neg h2]
      by_cases h3 : fltR (two zs root page) = 0
      · rw [if_pos h3]
        by_cases h4 : lE (two zs root page) = true
        · rw [if_pos h4]; simp
        · rw [if_neg h4]; simp
      · rw [if_neg h3]; exact fltR_cases _
  · rw [if_neg h1]; exact fltR_cases _
/-- Walk of right memory and pages: a fault and nothing else; or a leaf that may be used so. -/
theorem wkd_two {zs : List Int} {root page : Int} {wr : Bool} (hk : chk zs = 0) (hr : pageB root = true) (hp : pageB page = true) :
    (∃ f, (3 ≤ f ∧ f ≤ 5) ∧ wkd zs root page wr = ((false, false, false, false, 0), f, 0)) ∨
    (∃ x p, (0 ≤ p ∧ p ≤ 63) ∧ (wr = true → x = true) ∧ wkd zs root page wr = ((true, true, x, true, p), 0, 0)) := by
  obtain ⟨⟨⟨b, r, x, l, p⟩, f⟩, hF⟩ : ∃ F, fnd zs root page = F := ⟨_, rfl⟩
  have hff := fnd_fault zs root page
  rw [hF] at hff
  rw [wkd, if_pos hk, if_pos ⟨hr, hp⟩, wkF, hF]
  by_cases h : f = 0
  · subst h
    obtain ⟨rfl, rfl⟩ := fnd_good hF
    simp only [if_true]
    by_cases hq : (r && (x || !wr)) = true
    · rw [if_pos hq]
      simp only [Bool.and_eq_true, Bool.or_eq_true, Bool.not_eq_true'] at hq
      obtain ⟨rfl, hx⟩ := hq
      refine .inr ⟨x, p, fnd_page hF, fun e => ?_, rfl⟩
      rcases hx with hx | hx
      · exact hx
      · rw [e] at hx; exact absurd hx (by decide)
    · rw [if_neg hq]
      exact .inl ⟨5, by omega, rfl⟩
  · simp only [h, if_false]
    have hff : f = 0 ∨ f = 3 ∨ f = 4 := hff
    exact .inl ⟨f, by omega, rfl⟩

theorem pC_page (z : Int) : pageB (pC z) = true := by
  unfold pC pageB; split <;> simp <;> omega
theorem page_of {p : Int} (h : 0 ≤ p ∧ p ≤ 63) : pageB p = true := by simp [pageB]; omega

/-- By the tables: no way; memory as it is; a fault of the tables; a page, which is remembered. -/
theorem byT_ways {zs : List Int} {b : Br} {d p : Int} {wr : Bool} (hk : chk zs = 0) (hp : 0 ≤ p ∧ p ≤ 63) :
    (∃ f, (2 ≤ f ∧ f ≤ 5) ∧ ∀ l, byT zs (b.with l) d p wr = (b.with l, 0, f)) ∨
    (∀ l, byT zs (b.with l) d p wr = (b.with l, p, 0)) ∨
    (∃ a x, (0 ≤ a ∧ a ≤ 63) ∧ (wr = true → x = true) ∧ ∀ l, byT zs (b.with l) d p wr = (b.with (flC l (d, p, a, true, x)), a, 0)) := by
  have hc : ∀ l, ctxW zs (b.with l) d = ctxW zs b d := fun l => rfl
  unfold byT
  by_cases h1 : vC (ctxW zs b d) = true
  · by_cases h2 : aC (ctxW zs b d) = true
    · exact .inr (.inl fun l => by rw [hc, if_pos h1, if_pos h2])
    · rcases wkd_two (wr := wr) hk (pC_page (ctxW zs b d)) (page_of hp) with ⟨f, hf, e⟩ | ⟨x, a, ha, hx, e⟩
      · refine .inl ⟨f, by omega, fun l => ?_⟩
        rw [hc, if_pos h1, if_neg h2, e]
        exact if_neg (show ¬ f = 0 by omega)
      · refine .inr (.inr ⟨a, x, ha, hx, fun l => ?_⟩)
        rw [hc, if_pos h1, if_neg h2, e]
        exact if_pos rfl
  · exact .inl ⟨2, by omega, fun l => by rw [hc, if_neg h1]⟩
theorem with_self (b : Br) : b.with b.cache = b := rfl

theorem fnd_line {l : List Ln} {d p : Int} (h : 0 ≤ fndC l d p) : (fndC l d p).toNat < l.length ∧ hasB d p (lineC l d p) = true ∧ lineC l d p ∈ l := by
  unfold lineC
  unfold fndC at h ⊢
  cases e : l.findIdx? (hasB d p) with
  | none => rw [e] at h; exact absurd h (by decide)
  | some i =>
    rw [List.findIdx?_eq_some_iff_getElem] at e
    obtain ⟨hi, h1, _⟩ := e
    have hn : ((i : Int)).toNat = i := by simp
    simp only [hn]
    exact ⟨hi, by rw [lth_get hi]; exact h1, by rw [lth_get hi]; exact List.getElem_mem hi⟩
theorem line_at {l : List Ln} (h : chkC l = 0) {x : Ln} (hx : x ∈ l) : (0 ≤ x.2.2.1 ∧ x.2.2.1 ≤ 63) ∧ x.2.2.2.1 = true := by
  obtain ⟨g1, g2, _⟩ := chkC_zero.1 h
  obtain ⟨a, b⟩ := g2 x hx
  simp only [rngB, Bool.and_eq_true, decide_eq_true_eq] at a
  exact ⟨by omega, b⟩
/-- A line that is filled in: there is none of that key, so it goes well. -/
theorem fl_ok {l : List Ln} {d p a : Int} {x : Bool} (hl : chkC l = 0) (hd : 0 ≤ d ∧ d ≤ 7) (hp : 0 ≤ p ∧ p ≤ 63) (ha : 0 ≤ a ∧ a ≤ 63) (hn : ¬ 0 ≤ fndC l d p) : flE l (d, p, a, true, x) = 0 := by
  have h1 : chkC [((d, p, a, true, x) : Ln)] = 0 := chkC_zero.2 ⟨by simp, fun y hy => by
    obtain rfl := List.mem_singleton.1 hy
    exact ⟨by simp [rngB]; omega, rfl⟩, List.pairwise_singleton _ _⟩
  rw [flE, if_pos hl, if_pos h1, if_neg hn]

/-- Through, of right things: the ways. -/
theorem goT_ways {zs : List Int} {b : Br} {d p : Int} {wr : Bool} (h : thE zs b d p = 0) :
    (∃ f, (1 ≤ f ∧ f ≤ 5) ∧ goT zs b d p wr = (b, 0, f)) ∨
    (∃ k, (0 ≤ k ∧ k ≤ 63) ∧ goT zs b d p wr = (b, k, 0) ∧ (b.mode = 2 → 0 ≤ fndC b.cache d p → (lineC b.cache d p).2.2.1 = k ∧ (wr && !(lineC b.cache d p).2.2.2.2) = false)) ∨
    (∃ a x, b.mode = 2 ∧ ¬ 0 ≤ fndC b.cache d p ∧ (0 ≤ a ∧ a ≤ 63) ∧ (wr = true → x = true) ∧ flE b.cache (d, p, a, true, x) = 0 ∧ goT zs b d p wr = (b.with (flC b.cache (d, p, a, true, x)), a, 0)) := by
  obtain ⟨hk, hb, hd, hp⟩ := thE_ok h
  obtain ⟨m1, _, _, hc, _, _⟩ := chkB_ok hb
  unfold goT
  by_cases h0 : b.mode = 0
  · rw [if_pos h0]; exact .inl ⟨1, by omega, rfl⟩
  rw [if_neg h0]
  by_cases h1 : b.mode = 1
  · rw [if_pos h1]; exact .inr (.inl ⟨p, hp, rfl, fun e => by omega⟩)
  rw [if_neg h1]
  by_cases hf : 0 ≤ fndC b.cache d p
  · rw [if_pos hf]
    by_cases hq : (wr && !(lineC b.cache d p).2.2.2.2) = true
    · rw [if_pos hq]; exact .inl ⟨5, by omega, rfl⟩
    · rw [if_neg hq]
      exact .inr (.inl ⟨_, (line_at hc (fnd_line hf).2.2).1, rfl, fun _ _ => ⟨rfl, by simpa using hq⟩⟩)
  · rw [if_neg hf]
    rcases byT_ways (b := b) (d := d) (wr := wr) hk hp with ⟨f, hff, e⟩ | e | ⟨a, x, ha, hx, e⟩
    · exact .inl ⟨f, by omega, e b.cache⟩
    · exact .inr (.inl ⟨p, hp, e b.cache, fun _ g => absurd g hf⟩)
    · exact .inr (.inr ⟨a, x, by omega, hf, ha, hx, fl_ok hc hd hp ha hf, e b.cache⟩)
theorem goT_good {zs : List Int} {b c : Br} {d p k f : Int} {wr : Bool} (h : thE zs b d p = 0) (hg : goT zs b d p wr = (c, k, f)) :
    chkB c = 0 ∧ (¬ f = 0 → c = b) ∧ (0 ≤ k ∧ k ≤ 63) ∧ (0 ≤ f ∧ f ≤ 5) ∧ ∃ l, c = b.with l := by
  obtain ⟨hk, hb, hd, hp⟩ := thE_ok h
  rcases goT_ways (wr := wr) h with ⟨f', hf, e⟩ | ⟨k', hk', e, _⟩ | ⟨a, x, hm, hn, ha, hx, hl, e⟩
  all_goals
    rw [e] at hg
    simp only [Prod.mk.injEq] at hg
    obtain ⟨rfl, rfl, rfl⟩ := hg
  · exact ⟨hb, fun _ => rfl, by omega, by omega, _, (with_self b).symm⟩
  · exact ⟨hb, fun _ => rfl, hk', by omega, _, (with_self b).symm⟩
  · exact ⟨chkB_with hb (fill_good hl).1, fun g => absurd rfl g, ha, by omega, _, rfl⟩
/-- Who was let through is let through again, to the same page, whatever memory says. -/
theorem goT_again {zs ns : List Int} {b c : Br} {d p k : Int} {wr : Bool} (h : thE zs b d p = 0) (hg : goT zs b d p wr = (c, k, 0)) (hm : b.mode = 2) (hf : 0 ≤ fndC c.cache d p) : goT ns c d p wr = (c, k, 0) := by
  obtain ⟨hk, hb, hd, hp⟩ := thE_ok h
  rcases goT_ways (wr := wr) h with ⟨f', hf', e⟩ | ⟨k', hk', e, hl⟩ | ⟨a, x, _, hn, ha, hx, hl, e⟩
  all_goals
    rw [e] at hg
    simp only [Prod.mk.injEq] at hg
  · omega
  · obtain ⟨rfl, rfl, -⟩ := hg
    obtain ⟨l1, l2⟩ := hl hm hf
    unfold goT
    rw [if_neg (by omega), if_neg (by omega), if_pos hf, l2, l1]
    rfl
  · obtain ⟨rfl, rfl, -⟩ := hg
    have hfi := (fill_good hl).2.1
    have hli : lineC (flC b.cache (d, p, a, true, x)) d p = (d, p, a, true, x) := by
      unfold lineC
      rw [show fndC (flC b.cache (d, p, a, true, x)) d p = ((oldC b.cache).length : Int) from hfi, flC_ok hl]
      rw [Int.toNat_natCast, lth_get (by simp)]
      simp
    have hcache : (b.with (flC b.cache (d, p, a, true, x))).cache = flC b.cache (d, p, a, true, x) := rfl
    have hmode : (b.with (flC b.cache (d, p, a, true, x))).mode = 2 := hm
    unfold goT
    rw [if_neg (by omega), if_neg (by omega), if_pos hf, hcache, hli]
    have hq : (wr && !x) = false := by
      cases wr
      · rfl
      · rw [hx rfl]; rfl
    rw [hq]
    rfl
theorem drop_none {l : List Ln} {d p : Int} (h : chkC l = 0) : ¬ 0 ≤ fndC (drC l 3 d p) d p := by
  have he : drE l 3 = 0 := by rw [drE, if_pos h, if_pos (by omega)]
  have : fndC (drC l 3 d p) d p < 0 := by
    rw [fndC_neg]
    intro x hx
    rw [drC, if_pos he] at hx
    have := (List.mem_filter.1 hx).2
    simp only [goesB] at this
    cases hq : hasB d p x
    · rfl
    · simp only [hasB, Bool.and_eq_true, decide_eq_true_eq] at hq
      simp [hq.1, hq.2] at this
  omega
/-- Once it is dropped all is as memory says. -/
theorem goT_plain {ns : List Int} {b : Br} {l : List Ln} {d p : Int} {wr : Bool} (hk : chk ns = 0) (hp : 0 ≤ p ∧ p ≤ 63) (hn : ¬ 0 ≤ fndC l d p) : (goT ns (b.with l) d p wr).2 = (goT ns (b.with []) d p wr).2 := by
  unfold goT
  have hm : ∀ l, (b.with l).mode = b.mode := fun l => rfl
  have hc : ∀ l, (b.with l).cache = l := fun l => rfl
  rw [hm, hm, hc, hc]
  by_cases h0 : b.mode = 0
  · rw [if_pos h0, if_pos h0]
  rw [if_neg h0, if_neg h0]
  by_cases h1 : b.mode = 1
  · rw [if_pos h1, if_pos h1]
  rw [if_neg h1, if_neg h1, if_neg hn, if_neg (show ¬ 0 ≤ fndC [] d p by simp [fndC])]
  rcases byT_ways (b := b) (d := d) (wr := wr) hk hp with ⟨f, _, e⟩ | e | ⟨a, x, _, _, e⟩
  all_goals rw [e, e]
end Go.Proofs.Ytfbmmiikhkmpfac
/-
  Instructions as words: numbers alone.
-/
namespace Go.Proofs.Ytfbmmiikhkmpfac
open Go.RowKit

/-- What an instruction's kind has use for. -/
def useA (k : Int) : Bool := decide (1 ≤ k)
def useB (k : Int) : Bool := decide (k = 2) || decide (4 ≤ k ∧ k ≤ 6)
def useI (k : Int) : Bool := decide (1 ≤ k) && !decide (k = 2)
/-- What is wrong with an instruction; its word. -/
def rngI (k a b i : Int) : Bool := decide (0 ≤ k ∧ k ≤ 8) && decide (0 ≤ a ∧ a ≤ 7) && decide (0 ≤ b ∧ b ≤ 7) && decide (0 ≤ i ∧ i ≤ 63)
def fitI (k a b i : Int) : Bool := (useA k || decide (a = 0)) && (useB k || decide (b = 0)) && (useI k || decide (i = 0))
def iE (k a b i : Int) : Int := if rngI k a b i = true then (if fitI k a b i = true then 0 else 3) else 2
def iW (k a b i : Int) : Int := if iE k a b i = 0 then 4096 * k + 512 * a + 64 * b + i else 0
/-- A word that is read as an instruction. -/
def riE (w : Int) : Int := if 0 ≤ w ∧ w ≤ 65535 then (if iE (w / 4096) (w / 512 % 8) (w / 64 % 8) (w % 64) = 0 then 0 else 3) else 2
def riX (w : Int) : Int × Int × Int × Int := if riE w = 0 then (w / 4096, w / 512 % 8, w / 64 % 8, w % 64) else (0, 0, 0, 0)

theorem iE_ok {k a b i : Int} (h : iE k a b i = 0) : (0 ≤ k ∧ k ≤ 8) ∧ (0 ≤ a ∧ a ≤ 7) ∧ (0 ≤ b ∧ b ≤ 7) ∧ (0 ≤ i ∧ i ≤ 63) ∧ fitI k a b i = true := by
  unfold iE at h
  by_cases h1 : rngI k a b i = true
  · rw [if_pos h1] at h
    by_cases h2 : fitI k a b i = true
    · simp only [rngI, Bool.and_eq_true, decide_eq_true_eq] at h1
      exact ⟨h1.1.1.1, h1.1.1.2, h1.1.2, h1.2, h2⟩
    · rw [if_neg h2] at h; exact absurd h (by decide)
  · rw [if_neg h1] at h; exact absurd h (by decide)
theorem iE_cases (k a b i : Int) : iE k a b i = 0 ∨ iE k a b i = 2 ∨ iE k a b i = 3 := by
  unfold iE; split
  · split <;> simp
  · simp
theorem iW_ok {k a b i : Int} (h : iE k a b i = 0) : iW k a b i = 4096 * k + 512 * a + 64 * b + i := if_pos h
theorem riE_ok {w : Int} (h : riE w = 0) : (0 ≤ w ∧ w ≤ 65535) ∧ iE (w / 4096) (w / 512 % 8) (w / 64 % 8) (w % 64) = 0 := by
  unfold riE at h
  by_cases h1 : 0 ≤ w ∧ w ≤ 65535
  · rw [if_pos h1] at h
    by_cases h2 : iE (w / 4096) (w / 512 % 8) (w / 64 % 8) (w % 64) = 0
    · exact ⟨h1, h2⟩
    · rw [if_neg h2] at h; exact absurd h (by decide)
  · rw [if_neg h1] at h; exact absurd h (by decide)
theorem riE_mk {w : Int} (h1 : 0 ≤ w ∧ w ≤ 65535) (h2 : iE (w / 4096) (w / 512 % 8) (w / 64 % 8) (w % 64) = 0) : riE w = 0 := by unfold riE; rw [if_pos h1, if_pos h2]
/-- What is put is read; what is read is put as it was. -/
theorem i_back {k a b i : Int} (h : iE k a b i = 0) : riE (iW k a b i) = 0 ∧ riX (iW k a b i) = (k, a, b, i) := by
  obtain ⟨h1, h2, h3, h4, _⟩ := iE_ok h
  have e1 : iW k a b i / 4096 = k := by rw [iW_ok h]; omega
  have e2 : iW k a b i / 512 % 8 = a := by rw [iW_ok h]; omega
  have e3 : iW k a b i / 64 % 8 = b := by rw [iW_ok h]; omega
  have e4 : iW k a b i % 64 = i := by rw [iW_ok h]; omega
  have hr : riE (iW k a b i) = 0 := riE_mk (by rw [iW_ok h]; omega) (by rw [e1, e2, e3, e4]; exact h)
  exact ⟨hr, by rw [riX, if_pos hr, e1, e2, e3, e4]⟩
theorem i_read {w k a b i : Int} (h : riE w = 0) (e : riX w = (k, a, b, i)) : iE k a b i = 0 ∧ iW k a b i = w := by
  obtain ⟨h1, h2⟩ := riE_ok h
  rw [riX, if_pos h] at e
  simp only [Prod.mk.injEq] at e
  obtain ⟨rfl, rfl, rfl, rfl⟩ := e
  exact ⟨h2, by rw [iW_ok h2]; omega⟩
end Go.Proofs.Ytfbmmiikhkmpfac
