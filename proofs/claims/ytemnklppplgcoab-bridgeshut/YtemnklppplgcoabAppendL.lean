/-
  append of lines to a row of its own: what it gives, as an operation of a region, drawn or not.
-/
import Derived.Test.YtemnklppplgcoabLines
import Derived.Deep.AppendLies
namespace Go.Proofs.Ytemnklppplgcoab
open Go.RowKit

theorem infoLine : ∃ i, Try.prog.info? 68 = some i ∧ i.zero = some (.agg #[.int .i64 0, .int .i64 0, .int .i64 0, .bool false, .bool false]) ∧ i.size = 5 ∧ i.bytes = 32 := by
  have h : (Try.prog.info? 68).map (fun i => (i.zero, i.size, i.bytes)) = some (some (.agg #[.int .i64 0, .int .i64 0, .int .i64 0, .bool false, .bool false]), 5, 32) := by kernel_rfl
  cases hi : Try.prog.info? 68 with
  | none => rw [hi] at h; simp at h
  | some i => rw [hi] at h; simp at h; exact ⟨i, rfl, h.1, h.2.1, h.2.2⟩

theorem cellsL_len (x : Ln) : (cellsL x).length = 5 := rfl
theorem flat_len (l : List Ln) : (l.flatMap cellsL).length = l.length * 5 := by
  induction l with
  | nil => rfl
  | cons x t ih => rw [List.flatMap_cons, List.length_append, ih, cellsL_len, List.length_cons]; omega
theorem lth_succ (x : Ln) (t : List Ln) (i : Nat) : lth (x :: t) (i + 1) = lth t i := by simp [lth]
theorem flat_at (l : List Ln) : ∀ (i r : Nat), i < l.length → r < 5 → (l.flatMap cellsL)[i * 5 + r]? = (cellsL (lth l i))[r]? := by
  induction l with
  | nil => intro i r hi _; exact absurd hi (Nat.not_lt_zero _)
  | cons x t ih =>
    intro i r hi hr
    rw [List.flatMap_cons]
    cases i with
    | zero =>
      rw [Nat.zero_mul, Nat.zero_add, List.getElem?_append_left (by rw [cellsL_len]; exact hr)]
      rfl
    | succ i =>
      rw [List.getElem?_append_right (by rw [cellsL_len]; omega), cellsL_len, lth_succ, ← ih i r (by simpa using hi) hr]
      congr 1; omega
theorem flat_of {l : List Ln} {j : Nat} {u : Value} (h : (l.flatMap cellsL)[j]? = some u) : ∃ i r, i < l.length ∧ r < 5 ∧ j = i * 5 + r ∧ (cellsL (lth l i))[r]? = some u := by
  have hj : j < l.length * 5 := by
    rw [← flat_len]
    rcases Nat.lt_or_ge j (l.flatMap cellsL).length with k | k
    · exact k
    · rw [List.getElem?_eq_none k] at h; cases h
  refine ⟨j / 5, j % 5, by omega, by omega, by omega, ?_⟩
  rw [← flat_at l (j / 5) (j % 5) (by omega) (by omega), ← h]
  congr 1; omega
theorem flat_one (l : List Ln) : ∀ u ∈ l.flatMap cellsL, u.oneCell' = true := by
  intro u hu
  obtain ⟨x, _, hx⟩ := List.mem_flatMap.1 hu
  simp only [cellsL, List.mem_cons, List.not_mem_nil, or_false] at hx
  rcases hx with rfl | rfl | rfl | rfl | rfl <;> rfl
theorem add_off (b o j : Nat) : Addr.add ⟨b, o, none⟩ j = ⟨b, o + j, none⟩ := by unfold Addr.add; split <;> simp_all
theorem atL_cell {w : World} {b o : Nat} {x : Ln} (h : AtL w b o x) {r : Nat} {u : Value} (hr : r < 5) (hu : (cellsL x)[r]? = some u) : w.cell? ⟨b, o + r, none⟩ = some u := by
  obtain ⟨h0, h1, h2, h3, h4⟩ := h
  match r, hr with
  | 0, _ => simp [cellsL] at hu; subst hu; exact h0
  | 1, _ => simp [cellsL] at hu; subst hu; exact h1
  | 2, _ => simp [cellsL] at hu; subst hu; exact h2
  | 3, _ => simp [cellsL] at hu; subst hu; exact h3
  | 4, _ => simp [cellsL] at hu; subst hu; exact h4

/-- A row of its own that holds these lines. -/
def OwnL (w : World) (base : Nat) (v : Value) (l : List Ln) : Prop := w.ownsRow base 68 5 v l.length (l.flatMap cellsL)

theorem OwnL.lit (w : World) (base : Nat) (h : base ≤ w.heap.size) : OwnL (w.alloc (.cells #[] 68)) base (.slice (some ⟨w.heap.size, 0, none⟩) 0 0) [] :=
  World.ownsRow_lit (base := base) (e := 68) (size := 5) w #[] 0 h (by simp [maxLen]) rfl
theorem OwnL.litAt {w : World} {n : Nat} (e : n = w.heap.size) (base : Nat) (h : base ≤ w.heap.size) : OwnL (w.alloc (.cells #[] 68)) base (.slice (some ⟨n, 0, none⟩) 0 0) [] := by
  subst e; exact OwnL.lit w base h
theorem OwnL.nothing (w : World) (base : Nat) : OwnL w base (.slice none 0 0) [] := World.ownsRow_nil w base _ _
theorem OwnL.alloc {w : World} {base : Nat} {v : Value} {l : List Ln} (h : OwnL w base v l) (o : Obj) : OwnL (w.alloc o) base v l := World.ownsRow.alloc h o
theorem OwnL.drew {w : World} {base : Nat} {v : Value} {l : List Ln} (h : OwnL w base v l) : OwnL w.drew base v l := h
theorem OwnL.ls {w : World} {base : Nat} {v : Value} {l : List Ln} (h : OwnL w base v l) : Ls w v l := by
  have h' := h
  rcases h.2 with ⟨rfl, h0⟩ | ⟨g, cap, cur, rfl, hb, hg, hnc, hcm, hcs, htake⟩
  · obtain rfl : l = [] := List.eq_nil_of_length_eq_zero h0
    exact Ls.nothing w
  · refine ⟨_, cap, rfl, hnc, hcm, .inr ⟨g, 0, rfl, ?_, fun i hi => ?_⟩⟩
    · exact (h.lt g rfl).2
    · have hc : ∀ r, r < 5 → w.cell? ⟨g, 0 + i * 5 + r, none⟩ = (cellsL (lth l i))[r]? := fun r hr => by
        rw [Nat.zero_add]
        have := h.cellAt (i * 5 + r) (by omega)
        rw [this, flat_at l i r hi hr]
      exact ⟨hc 0 (by omega), hc 1 (by omega), hc 2 (by omega), hc 3 (by omega), hc 4 (by omega)⟩
/-- A row's block lies where the base is, or behind. -/
theorem OwnL.base {w : World} {base : Nat} {v : Value} {l : List Ln} (h : OwnL w base v l) : ∀ k, v.ownBlock = some k → base ≤ k := fun k hk => (World.ownsRow.lt h k hk).1

theorem run_append_L (w : World) (ty : TypeId) (base : Nat) (v x : Value) (l1 l2 : List Ln) (hown : OwnL w base v l1) (hx : Ls w x l2) (hn : l1.length + l2.length ≤ 1000) (hbase : base ≤ w.heap.size) (hne : (∃ c m n, v = .slice (some c) m n) ∨ l2 ≠ []) :
    ∃ g cap w', (Builtin.append_ #[40, 40] ty #[v, x]).run Try.prog w = .ok (.slice (some ⟨g, 0, none⟩) (l1 ++ l2).length cap) w' ∧ OwnL w' base (.slice (some ⟨g, 0, none⟩) (l1 ++ l2).length cap) (l1 ++ l2) ∧ w.grownBy w' v.ownBlock ∧ (v.ownBlock = some g ∨ g = w.heap.size) := by
  obtain ⟨i, hi, hz, hsz, hby⟩ := infoLine
  obtain ⟨a, cap, rfl, hl, hm, h⟩ := hx
  rcases h with rfl | ⟨b, o, rfl, hb, hc⟩
  · rcases hown.2 with ⟨rfl, h0⟩ | ⟨g, c, cur, rfl, hbg, hg, hnc, hcm, hcs, htake⟩
    · rcases hne with ⟨_, _, _, hne⟩ | hne
      · simp at hne
      · exact absurd rfl hne
    · refine ⟨g, c, w, ?_, ?_, ⟨rfl, rfl, rfl, Nat.le_refl _, fun _ _ _ => rfl⟩, .inl rfl⟩
      · cases a <;>
        simp [Builtin.append_, run_underlying Try.underlying40, sizeOf, typeInfo, hi, Builtin.lenOf, Builtin.firstCells, loadCells, loadCellsFrom, hnc, storeCells]
      · simpa using hown
  · by_cases h0 : l2 = []
    · subst h0
      rcases hown.2 with ⟨rfl, h0⟩ | ⟨g, c, cur, rfl, hbg, hg, hnc, hcm, hcs, htake⟩
      · rcases hne with ⟨_, _, _, hne⟩ | hne
        · simp at hne
        · exact absurd rfl hne
      · refine ⟨g, c, w, ?_, ?_, ⟨rfl, rfl, rfl, Nat.le_refl _, fun _ _ _ => rfl⟩, .inl rfl⟩
        · simp [Builtin.append_, run_underlying Try.underlying40, sizeOf, typeInfo, hi, Builtin.lenOf, Builtin.firstCells, loadCells, loadCellsFrom, hnc, storeCells]
        · simpa using hown
    · have hpos : 0 < l2.length := List.length_pos_iff.2 h0
      obtain ⟨g, c, w', hr, ho, hgr, hat, _⟩ := run_append_lies (P := Try.prog) w 40 ty base 68 i _ 5 32 Try.underlying40 hi hz hsz hby rfl (by omega) v l1.length (l1.flatMap cellsL) hown ⟨b, o, none⟩ l2.length cap (l2.flatMap cellsL) (flat_len l2)
        (fun j u hu => by
          obtain ⟨i', r, h1, h2, rfl, h4⟩ := flat_of hu
          rw [add_off, ← Nat.add_assoc]
          exact atL_cell (hc i' h1) h2 h4)
        (flat_one l2) hpos (by unfold maxLen; omega) (by omega) hbase w.heap.size rfl
      refine ⟨g, c, w', ?_, ?_, hgr, hat⟩
      · rw [List.length_append]; exact hr
      · unfold OwnL; rw [List.length_append, List.flatMap_append]; exact ho

theorem wp_append_L {w : World} {o : Oper} {a : Act} {K : Act → World → Prop} {Q : Exit → Act → World → Prop} (s x : Operand)
    (ho : o.op = .call { callee := .builtin .append, args := #[s, x], argTypes := #[40, 40] })
    (base : Nat) (v u : Value) (l1 l2 : List Ln) (hs : a.eval s = v) (hu : a.eval x = u) (hown : OwnL w base v l1) (hx : Ls w u l2) (hn : l1.length + l2.length ≤ 1000) (hbase : base ≤ w.heap.size) (hne : (∃ c m n, v = .slice (some c) m n) ∨ l2 ≠ [])
    (h : ∀ g cap w', OwnL w' base (.slice (some ⟨g, 0, none⟩) (l1 ++ l2).length cap) (l1 ++ l2) → w.grownBy w' v.ownBlock → Below base w w' → (v.ownBlock = some g ∨ g = w.heap.size) → K (a.put o.dst (.slice (some ⟨g, 0, none⟩) (l1 ++ l2).length cap)) w') : o.wp Try.prog a w K Q := by
  obtain ⟨g, cap, w', hr, h2, h3, h4⟩ := run_append_L w o.type base v u l1 l2 hown hx hn hbase hne
  unfold Oper.wp execOp
  simp only [ho, resolve, invoke, builtin, Sem.run_bind, Sem.run_pure, Result.andThen_ok, List.map_toArray, List.map_cons, List.map_nil, hs, hu, hr]
  exact h g cap w' h2 h3 ((Below.refl base w).grown h3 hbase hown.base) h4

theorem wpList_append_L {w : World} {ops : Array Oper} {rest : List Oper} {o : Oper} {a : Act} {Q : Exit → Act → World → Prop} (hgd : o.guard = none) (s x : Operand)
    (ho : o.op = .call { callee := .builtin .append, args := #[s, x], argTypes := #[40, 40] })
    (base : Nat) (v u : Value) (l1 l2 : List Ln) (hs : a.eval s = v) (hu : a.eval x = u) (hown : OwnL w base v l1) (hx : Ls w u l2) (hn : l1.length + l2.length ≤ 1000) (hbase : base ≤ w.heap.size) (hne : (∃ c m n, v = .slice (some c) m n) ∨ l2 ≠ [])
    (h : ∀ g cap w', OwnL w' base (.slice (some ⟨g, 0, none⟩) (l1 ++ l2).length cap) (l1 ++ l2) → w.grownBy w' v.ownBlock → Below base w w' → (v.ownBlock = some g ∨ g = w.heap.size) → wpList Try.prog ops Q rest (a.put o.dst (.slice (some ⟨g, 0, none⟩) (l1 ++ l2).length cap)) w') :
    wpList Try.prog ops Q (o :: rest) a w :=
  wpList_plain hgd fun _ hK => wp_append_L s x ho base v u l1 l2 hs hu hown hx hn hbase hne fun g cap w' h2 h3 hb h4 => hK _ _ (h g cap w' h2 h3 hb h4)

theorem step_append_L {w : World} {ops : Array Oper} {o : Oper} {a : Act} {K : Act → World → Prop} {Q : Exit → Act → World → Prop} {E : Prop} (hgd : o.guard = none) (s x : Operand)
    (ho : o.op = .call { callee := .builtin .append, args := #[s, x], argTypes := #[40, 40] })
    (base : Nat) (v u : Value) (l1 l2 : List Ln) (hs : a.eval s = v) (hu : a.eval x = u) (hown : OwnL w base v l1) (hx : Ls w u l2) (hn : l1.length + l2.length ≤ 1000) (hbase : base ≤ w.heap.size) (hne : (∃ c m n, v = .slice (some c) m n) ∨ l2 ≠ [])
    (h : ∀ g cap w', OwnL w' base (.slice (some ⟨g, 0, none⟩) (l1 ++ l2).length cap) (l1 ++ l2) → w.grownBy w' v.ownBlock → Below base w w' → (v.ownBlock = some g ∨ g = w.heap.size) → K (a.put o.dst (.slice (some ⟨g, 0, none⟩) (l1 ++ l2).length cap)) w') :
    if Region.wanted o (yielded ops a.tmps) = true then Oper.wp Try.prog o a w K Q else E := by
  have hw : Region.wanted o (yielded ops a.tmps) = true := by simp [Region.wanted, hgd]
  rw [if_pos hw]
  exact wp_append_L s x ho base v u l1 l2 hs hu hown hx hn hbase hne h

/-- A line in a block of its own, as a slice. -/
theorem ls_one (w : World) (d p a : Int) (r x : Bool) (fr : Nat × Nat) : Ls (w.alloc (.cells #[.int .i64 d, .int .i64 p, .int .i64 a, .bool r, .bool x] 68 fr)) (.slice (some ⟨w.heap.size, 0, none⟩) 1 1) [(d, p, a, r, x)] := by
  have k := (Blk.new w #[.int .i64 d, .int .i64 p, .int .i64 a, .bool r, .bool x] 68 fr).five
  refine ⟨_, 1, rfl, Nat.le_refl _, by simp [maxLen], .inr ⟨w.heap.size, 0, rfl, by simp, fun i hi => ?_⟩⟩
  obtain rfl : i = 0 := by simpa using hi
  exact k
theorem ls_oneAt {w : World} {n : Nat} (h : n = w.heap.size) (d p a : Int) (r x : Bool) (fr : Nat × Nat) : Ls (w.alloc (.cells #[.int .i64 d, .int .i64 p, .int .i64 a, .bool r, .bool x] 68 fr)) (.slice (some ⟨n, 0, none⟩) 1 1) [(d, p, a, r, x)] := by
  subst h; exact ls_one w d p a r x fr
/-- What an append leaves of other slices. -/
theorem Ls.grown {w w' : World} {a : Addr} {n cap : Nat} {l : List Ln} {row : Option Nat} (h : Ls w (.slice (some a) n cap) l) (hg : w.grownBy w' row) (hne : some a.block ≠ row) : Ls w' (.slice (some a) n cap) l := by
  obtain ⟨a', cap', e, hl, hm, h⟩ := h
  refine ⟨a', cap', e, hl, hm, ?_⟩
  rcases h with h | ⟨b, o, rfl, hb, hc⟩
  · exact .inl h
  · simp only [Value.slice.injEq, Option.some.injEq] at e
    obtain ⟨rfl, _, rfl⟩ := e
    have hblk := hg.block b hb hne
    refine .inr ⟨b, o, rfl, Nat.lt_of_lt_of_le hb hg.size, fun i hi => ?_⟩
    have hcell : ∀ j, w'.cell? ⟨b, j, none⟩ = w.cell? ⟨b, j, none⟩ := fun j => World.cell?_of_block (a := ⟨b, j, none⟩) hblk
    unfold AtL
    rw [hcell, hcell, hcell, hcell, hcell]
    exact hc i hi
/-- Nothing below the base has turned by an append. -/
theorem bel_grown {a w w' : World} {v : Value} {l : List Ln} (h : Below a.heap.size a w) (hown : OwnL w a.heap.size v l) (hg : w.grownBy w' v.ownBlock) : Below a.heap.size a w' :=
  h.grown hg h.size hown.base
end Go.Proofs.Ytemnklppplgcoab
