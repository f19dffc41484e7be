/-
  Laid together: AppendL, FillC, Ring1, Box, Ring2, Ring3, OrderMath.
-/
import Derived.Test.YtlgjllmecjkbjacGreatT2
import Derived.Deep.AppendLies
import Derived.Deep.RegionHeld3
import Derived.Deep.DrawnRows
import Derived.Deep.CutRange
/-
  append of lines to a row of its own: what it gives, as an operation of a region, drawn or not.
-/
namespace Go.Proofs.YtlgjllmecjkbjacGreat
open Go.RowKit
theorem infoLine : ∃ i, Tryz.prog.info? 52 = some i ∧ i.zero = some (.agg #[.int .i64 0, .int .i64 0, .int .i64 0, .bool false, .bool false]) ∧ i.size = 5 ∧ i.bytes = 32 := by
  have h : (Tryz.prog.info? 52).map (fun i => (i.zero, i.size, i.bytes)) = some (some (.agg #[.int .i64 0, .int .i64 0, .int .i64 0, .bool false, .bool false]), 5, 32) := by kernel_rfl
  cases hi : Tryz.prog.info? 52 with
  | none => rw [hi] at h; simp at h
  | some i => rw [hi] at h; simp at h; exact ⟨i, rfl, h.1, h.2.1, h.2.2⟩
theorem cellsL_len (x : Ln) : (cellsL x).length = 5 := rfl
theorem flat_len (l : List Ln) : (l.flatMap cellsL).length = l.length * 5 := by
  induction l with
  | nil => rfl
  | cons x t ih => rw [List.flatMap_cons, List.length_append, ih, cellsL_len, List.length_cons]; omega
theorem lth_succ (x : Ln) (t : List Ln) (i : Nat) : lth (x :: t) (i + 1) = lth t i := by simp [lth]
theorem flat_at (l : List Ln) : ∀ (i r : Nat), i < l.length → r < 5 → (l.flatMap cellsL)[i * 5 + r]? = (cellsL (lth l i))[r]? := by
  induction l with
  | nil => intro i r hi _; exact absurd hi (Nat.not_lt_zero _)
  | cons x t ih =>
    intro i r hi hr
    rw [List.flatMap_cons]
    cases i with
    | zero =>
      rw [Nat.zero_mul, Nat.zero_add, List.getElem?_append_left (by rw [cellsL_len]; exact hr)]
      rfl
    | succ i =>
      rw [List.getElem?_append_right (by rw [cellsL_len]; omega), cellsL_len, lth_succ, ← ih i r (by simpa using hi) hr]
      congr 1; omega
theorem flat_of {l : List Ln} {j : Nat} {u : Value} (h : (l.flatMap cellsL)[j]? = some u) : ∃ i r, i < l.length ∧ r < 5 ∧ j = i * 5 + r ∧ (cellsL (lth l i))[r]? = some u := by
  have hj : j < l.length * 5 := by
    rw [← flat_len]
    rcases Nat.lt_or_ge j (l.flatMap cellsL).length with k | k
    · exact k
    · rw [List.getElem?_eq_none k] at h; cases h
  refine ⟨j / 5, j % 5, by omega, by omega, by omega, ?_⟩
  rw [← flat_at l (j / 5) (j % 5) (by omega) (by omega), ← h]
  congr 1; omega
theorem flat_one (l : List Ln) : ∀ u ∈ l.flatMap cellsL, u.oneCell' = true := by
  intro u hu
  obtain ⟨x, _, hx⟩ := List.mem_flatMap.1 hu
  simp only [cellsL, List.mem_cons, List.not_mem_nil, or_false] at hx
  rcases hx with rfl | rfl | rfl | rfl | rfl <;> rfl
theorem add_off (b o j : Nat) : Addr.add ⟨b, o, none⟩ j = ⟨b, o + j, none⟩ := by unfold Addr.add; split <;> simp_all
theorem atL_cell {w : World} {b o : Nat} {x : Ln} (h : AtL w b o x) {r : Nat} {u : Value} (hr : r < 5) (hu : (cellsL x)[r]? = some u) : w.cell? ⟨b, o + r, none⟩ = some u := by
  obtain ⟨h0, h1, h2, h3, h4⟩ := h
  match r, hr with
  | 0, _ => simp [cellsL] at hu; subst hu; exact h0
  | 1, _ => simp [cellsL] at hu; subst hu; exact h1
  | 2, _ => simp [cellsL] at hu; subst hu; exact h2
  | 3, _ => simp [cellsL] at hu; subst hu; exact h3
  | 4, _ => simp [cellsL] at hu; subst hu; exact h4
def OwnL (w : World) (base : Nat) (v : Value) (l : List Ln) : Prop := w.ownsRow base 52 5 v l.length (l.flatMap cellsL)
theorem OwnL.lit (w : World) (base : Nat) (h : base ≤ w.heap.size) : OwnL (w.alloc (.cells #[] 52)) base (.slice (some ⟨w.heap.size, 0, none⟩) 0 0) [] :=
  World.ownsRow_lit (base := base) (e := 52) (size := 5) w #[] 0 h (by simp [maxLen]) rfl
theorem OwnL.litAt {w : World} {n : Nat} (e : n = w.heap.size) (base : Nat) (h : base ≤ w.heap.size) : OwnL (w.alloc (.cells #[] 52)) base (.slice (some ⟨n, 0, none⟩) 0 0) [] := by
  subst e; exact OwnL.lit w base h
theorem OwnL.nothing (w : World) (base : Nat) : OwnL w base (.slice none 0 0) [] := World.ownsRow_nil w base _ _
theorem OwnL.alloc {w : World} {base : Nat} {v : Value} {l : List Ln} (h : OwnL w base v l) (o : Obj) : OwnL (w.alloc o) base v l := World.ownsRow.alloc h o
theorem OwnL.drew {w : World} {base : Nat} {v : Value} {l : List Ln} (h : OwnL w base v l) : OwnL w.drew base v l := h
theorem OwnL.ls {w : World} {base : Nat} {v : Value} {l : List Ln} (h : OwnL w base v l) : Ls w v l := by
  have h' := h
  rcases h.2 with ⟨rfl, h0⟩ | ⟨g, cap, cur, rfl, hb, hg, hnc, hcm, hcs, htake⟩
  · obtain rfl : l = [] := List.eq_nil_of_length_eq_zero h0
    exact Ls.nothing w
  · refine ⟨_, cap, rfl, hnc, hcm, .inr ⟨g, 0, rfl, ?_, fun i hi => ?_⟩⟩
    · exact (h.lt g rfl).2
    · have hc : ∀ r, r < 5 → w.cell? ⟨g, 0 + i * 5 + r, none⟩ = (cellsL (lth l i))[r]? := fun r hr => by
        rw [Nat.zero_add]
        have := h.cellAt (i * 5 + r) (by omega)
        rw [this, flat_at l i r hi hr]
      exact ⟨hc 0 (by omega), hc 1 (by omega), hc 2 (by omega), hc 3 (by omega), hc 4 (by omega)⟩
theorem OwnL.base {w : World} {base : Nat} {v : Value} {l : List Ln} (h : OwnL w base v l) : ∀ k, v.ownBlock = some k → base ≤ k := fun k hk => (World.ownsRow.lt h k hk).1
theorem run_append_L (w : World) (ty : TypeId) (base : Nat) (v x : Value) (l1 l2 : List Ln) (hown : OwnL w base v l1) (hx : Ls w x l2) (hn : l1.length + l2.length ≤ 1000) (hbase : base ≤ w.heap.size) (hne : (∃ c m n, v = .slice (some c) m n) ∨ l2 ≠ []) :
    ∃ g cap w', (Builtin.append_ #[27, 27] ty #[v, x]).run Tryz.prog w = .ok (.slice (some ⟨g, 0, none⟩) (l1 ++ l2).length cap) w' ∧ OwnL w' base (.slice (some ⟨g, 0, none⟩) (l1 ++ l2).length cap) (l1 ++ l2) ∧ w.grownBy w' v.ownBlock ∧ (v.ownBlock = some g ∨ g = w.heap.size) := by
  obtain ⟨i, hi, hz, hsz, hby⟩ := infoLine
  obtain ⟨a, cap, rfl, hl, hm, h⟩ := hx
  rcases h with rfl | ⟨b, o, rfl, hb, hc⟩
  · rcases hown.2 with ⟨rfl, h0⟩ | ⟨g, c, cur, rfl, hbg, hg, hnc, hcm, hcs, htake⟩
    · rcases hne with ⟨_, _, _, hne⟩ | hne
      · simp at hne
      · exact absurd rfl hne
    · refine ⟨g, c, w, ?_, ?_, ⟨rfl, rfl, rfl, Nat.le_refl _, fun _ _ _ => rfl⟩, .inl rfl⟩
      · cases a <;>
        simp [Builtin.append_, run_underlying Tryz.underlying27, sizeOf, typeInfo, hi, Builtin.lenOf, Builtin.firstCells, loadCells, loadCellsFrom, hnc, storeCells]
      · simpa using hown
  · by_cases h0 : l2 = []
    · subst h0
      rcases hown.2 with ⟨rfl, h0⟩ | ⟨g, c, cur, rfl, hbg, hg, hnc, hcm, hcs, htake⟩
      · rcases hne with ⟨_, _, _, hne⟩ | hne
        · simp at hne
        · exact absurd rfl hne
      · refine ⟨g, c, w, ?_, ?_, ⟨rfl, rfl, rfl, Nat.le_refl _, fun _ _ _ => rfl⟩, .inl rfl⟩
        · simp [Builtin.append_, run_underlying Tryz.underlying27, sizeOf, typeInfo, hi, Builtin.lenOf, Builtin.firstCells, loadCells, loadCellsFrom, hnc, storeCells]
        · simpa using hown
    · have hpos : 0 < l2.length := List.length_pos_iff.2 h0
      obtain ⟨g, c, w', hr, ho, hgr, hat, _⟩ := run_append_lies (P := Tryz.prog) w 27 ty base 52 i _ 5 32 Tryz.underlying27 hi hz hsz hby rfl (by omega) v l1.length (l1.flatMap cellsL) hown ⟨b, o, none⟩ l2.length cap (l2.flatMap cellsL) (flat_len l2)
        (fun j u hu => by
          obtain ⟨i', r, h1, h2, rfl, h4⟩ := flat_of hu
          rw [add_off, ← Nat.add_assoc]
          exact atL_cell (hc i' h1) h2 h4)
        (flat_one l2) hpos (by unfold maxLen; omega) (by omega) hbase w.heap.size rfl
      refine ⟨g, c, w', ?_, ?_, hgr, hat⟩
      · rw [List.length_append]; exact hr
      · unfold OwnL; rw [List.length_append, List.flatMap_append]; exact ho
theorem wp_append_L {w : World} {o : Oper} {a : Act} {K : Act → World → Prop} {Q : Exit → Act → World → Prop} (s x : Operand)
    (ho : o.op = .call { callee := .builtin .append, args := #[s, x], argTypes := #[27, 27] })
    (base : Nat) (v u : Value) (l1 l2 : List Ln) (hs : a.eval s = v) (hu : a.eval x = u) (hown : OwnL w base v l1) (hx : Ls w u l2) (hn : l1.length + l2.length ≤ 1000) (hbase : base ≤ w.heap.size) (hne : (∃ c m n, v = .slice (some c) m n) ∨ l2 ≠ [])
    (h : ∀ g cap w', OwnL w' base (.slice (some ⟨g, 0, none⟩) (l1 ++ l2).length cap) (l1 ++ l2) → w.grownBy w' v.ownBlock → Below base w w' → (v.ownBlock = some g ∨ g = w.heap.size) → K (a.put o.dst (.slice (some ⟨g, 0, none⟩) (l1 ++ l2).length cap)) w') : o.wp Tryz.prog a w K Q := by
  obtain ⟨g, cap, w', hr, h2, h3, h4⟩ := run_append_L w o.type base v u l1 l2 hown hx hn hbase hne
  unfold Oper.wp execOp
  simp only [ho, resolve, invoke, builtin, Sem.run_bind, Sem.run_pure, Result.andThen_ok, List.map_toArray, List.map_cons, List.map_nil, hs, hu, hr]
  exact h g cap w' h2 h3 ((Below.refl base w).grown h3 hbase hown.base) h4
theorem wpList_append_L {w : World} {ops : Array Oper} {rest : List Oper} {o : Oper} {a : Act} {Q : Exit → Act → World → Prop} (hgd : o.guard = none) (s x : Operand)
    (ho : o.op = .call { callee := .builtin .append, args := #[s, x], argTypes := #[27, 27] })
    (base : Nat) (v u : Value) (l1 l2 : List Ln) (hs : a.eval s = v) (hu : a.eval x = u) (hown : OwnL w base v l1) (hx : Ls w u l2) (hn : l1.length + l2.length ≤ 1000) (hbase : base ≤ w.heap.size) (hne : (∃ c m n, v = .slice (some c) m n) ∨ l2 ≠ [])
    (h : ∀ g cap w', OwnL w' base (.slice (some ⟨g, 0, none⟩) (l1 ++ l2).length cap) (l1 ++ l2) → w.grownBy w' v.ownBlock → Below base w w' → (v.ownBlock = some g ∨ g = w.heap.size) → wpList Tryz.prog ops Q rest (a.put o.dst (.slice (some ⟨g, 0, none⟩) (l1 ++ l2).length cap)) w') :
    wpList Tryz.prog ops Q (o :: rest) a w :=
  wpList_plain hgd fun _ hK => wp_append_L s x ho base v u l1 l2 hs hu hown hx hn hbase hne fun g cap w' h2 h3 hb h4 => hK _ _ (h g cap w' h2 h3 hb h4)
theorem step_append_L {w : World} {ops : Array Oper} {o : Oper} {a : Act} {K : Act → World → Prop} {Q : Exit → Act → World → Prop} {E : Prop} (hgd : o.guard = none) (s x : Operand)
    (ho : o.op = .call { callee := .builtin .append, args := #[s, x], argTypes := #[27, 27] })
    (base : Nat) (v u : Value) (l1 l2 : List Ln) (hs : a.eval s = v) (hu : a.eval x = u) (hown : OwnL w base v l1) (hx : Ls w u l2) (hn : l1.length + l2.length ≤ 1000) (hbase : base ≤ w.heap.size) (hne : (∃ c m n, v = .slice (some c) m n) ∨ l2 ≠ [])
    (h : ∀ g cap w', OwnL w' base (.slice (some ⟨g, 0, none⟩) (l1 ++ l2).length cap) (l1 ++ l2) → w.grownBy w' v.ownBlock → Below base w w' → (v.ownBlock = some g ∨ g = w.heap.size) → K (a.put o.dst (.slice (some ⟨g, 0, none⟩) (l1 ++ l2).length cap)) w') :
    if Region.wanted o (yielded ops a.tmps) = true then Oper.wp Tryz.prog o a w K Q else E := by
  have hw : Region.wanted o (yielded ops a.tmps) = true := by simp [Region.wanted, hgd]
  rw [if_pos hw]
  exact wp_append_L s x ho base v u l1 l2 hs hu hown hx hn hbase hne h
theorem ls_one (w : World) (d p a : Int) (r x : Bool) (fr : Nat × Nat) : Ls (w.alloc (.cells #[.int .i64 d, .int .i64 p, .int .i64 a, .bool r, .bool x] 52 fr)) (.slice (some ⟨w.heap.size, 0, none⟩) 1 1) [(d, p, a, r, x)] := by
  have k := (Blk.new w #[.int .i64 d, .int .i64 p, .int .i64 a, .bool r, .bool x] 52 fr).five
  refine ⟨_, 1, rfl, Nat.le_refl _, by simp [maxLen], .inr ⟨w.heap.size, 0, rfl, by simp, fun i hi => ?_⟩⟩
  obtain rfl : i = 0 := by simpa using hi
  exact k
theorem ls_oneAt {w : World} {n : Nat} (h : n = w.heap.size) (d p a : Int) (r x : Bool) (fr : Nat × Nat) : Ls (w.alloc (.cells #[.int .i64 d, .int .i64 p, .int .i64 a, .bool r, .bool x] 52 fr)) (.slice (some ⟨n, 0, none⟩) 1 1) [(d, p, a, r, x)] := by
  subst h; exact ls_one w d p a r x fr
theorem Ls.grown {w w' : World} {a : Addr} {n cap : Nat} {l : List Ln} {row : Option Nat} (h : Ls w (.slice (some a) n cap) l) (hg : w.grownBy w' row) (hne : some a.block ≠ row) : Ls w' (.slice (some a) n cap) l := by
  obtain ⟨a', cap', e, hl, hm, h⟩ := h
  refine ⟨a', cap', e, hl, hm, ?_⟩
  rcases h with h | ⟨b, o, rfl, hb, hc⟩
  · exact .inl h
  · simp only [Value.slice.injEq, Option.some.injEq] at e
    obtain ⟨rfl, _, rfl⟩ := e
    have hblk := hg.block b hb hne
    refine .inr ⟨b, o, rfl, Nat.lt_of_lt_of_le hb hg.size, fun i hi => ?_⟩
    have hcell : ∀ j, w'.cell? ⟨b, j, none⟩ = w.cell? ⟨b, j, none⟩ := fun j => World.cell?_of_block (a := ⟨b, j, none⟩) hblk
    unfold AtL
    rw [hcell, hcell, hcell, hcell, hcell]
    exact hc i hi
theorem bel_grown {a w w' : World} {v : Value} {l : List Ln} (h : Below a.heap.size a w) (hown : OwnL w a.heap.size v l) (hg : w.grownBy w' v.ownBlock) : Below a.heap.size a w' :=
  h.grown hg h.size hown.base
end Go.Proofs.YtlgjllmecjkbjacGreat
/-
  cache.Fill: lines with one more behind them; nothing that was there turns.
-/
namespace Go.Proofs.YtlgjllmecjkbjacGreat
open Go.RowKit
theorem chkC_one (y : Ln) : chkC [y] = own y := by
  by_cases h : own y = 0
  · rw [h]
    refine chkC_all (by simp) fun j hj => ?_
    obtain rfl : j = 0 := by simpa using hj
    exact errL_fine (by simpa [lth] using h) (by simp [fndC])
  · exact chkC_at (j := 0) (by simp) (by simp) (fun i hi => absurd hi (Nat.not_lt_zero _)) (by rw [errL_own (by simpa [lth] using h)]; simp [lth]) h
theorem keep5 {W w' : World} {n : Nat} {u0 u1 u2 u3 u4 : Value} (h0 : W.cell? ⟨n, 0, none⟩ = some u0) (h1 : W.cell? ⟨n, 1, none⟩ = some u1) (h2 : W.cell? ⟨n, 2, none⟩ = some u2) (h3 : W.cell? ⟨n, 3, none⟩ = some u3) (h4 : W.cell? ⟨n, 4, none⟩ = some u4) (hn : n < W.heap.size) (hb : Below W.heap.size W w') :
    w'.cell? ⟨n, 0, none⟩ = some u0 ∧ w'.cell? ⟨n, 1, none⟩ = some u1 ∧ w'.cell? ⟨n, 2, none⟩ = some u2 ∧ w'.cell? ⟨n, 3, none⟩ = some u3 ∧ w'.cell? ⟨n, 4, none⟩ = some u4 ∧ Below W.heap.size W w' :=
  ⟨((bcell hb).1 n 0 hn).trans h0, ((bcell hb).1 n 1 hn).trans h1, ((bcell hb).1 n 2 hn).trans h2, ((bcell hb).1 n 3 hn).trans h3, ((bcell hb).1 n 4 hn).trans h4, hb⟩
theorem limb5 {A B C D E F : Prop} (h : A ∧ B ∧ C ∧ D ∧ E ∧ F) : F := h.2.2.2.2.2
set_option maxHeartbeats 1000000 in
theorem fill_any (v : Value) (l : List Ln) (d p a : Int) (r x : Bool) (w : World) (h : Ls w v l) :
    Calls Tryz.prog 109 #[v, .agg #[.int .i64 d, .int .i64 p, .int .i64 a, .bool r, .bool x]] w fun e w' => (∃ v', e = .returned (.tuple #[v', .int .i64 (flE l (d, p, a, r, x))]) ∧ Ls w' v' (flC l (d, p, a, r, x)) ∧ Fresh w.heap.size v') ∧ Below w.heap.size w w' := by
  have HL : Hid (Ls w v l) := h
  obtain ⟨a0, cap, rfl, hl, hm, h⟩ := h
  unfold maxLen at hm
  go_enter Tryz.func109, Tryz.ntmps109
  go_wp2_with fail
  refine (cCheck_any _ l _ (HL.out.keep (bel_alloc (Below.refl _ _) _))).mono ?_
  rintro e w1 ⟨rfl, b1⟩
  have K1 := (Blk.new w #[.int .i64 d, .int .i64 p, .int .i64 a, .bool r, .bool x] 52 (0, 0)).keep b1
  have B1 : Hid (Below w.heap.size w w1) := bel_trans (bel_alloc (Below.refl _ _) _) b1
  clear b1
  by_cases hc : chkC l = 0
  rotate_left
  · have hq : (chkC l != 0) = true := by simpa using hc
    have HE : Hid (flE l (d, p, a, r, x) = chkC l) := by unfold flE; exact if_neg hc
    have HF : Hid (flC l (d, p, a, r, x) = []) := by unfold flC; exact if_neg (by rw [HE.out]; exact hc)
    go_wp2
    refine bodyPost_ret (v := .tuple #[.slice none 0 0, .int .i64 (chkC l)]) (by simp [results, Tryz.results109, go_sem]) rfl ⟨⟨_, by rw [HE.out], by rw [HF.out]; exact Ls.nothing _, Fresh.none _ _ _⟩, B1.out⟩
  rw [hc]
  obtain ⟨c0, c1, c2, c3, c4⟩ := K1.five
  have s1 := K1.lt
  go_wp2_with fail
  refine (checkLine_any d p a r x _).mono ?_
  rintro e w2 ⟨rfl, ob, rfl⟩
  have K2 := K1.past ob
  have B2 : Hid (Below w.heap.size w (w1.alloc ob)) := bel_alloc B1.out ob
  clear B1 K1 c0 c1 c2 c3 c4 s1
  obtain ⟨c0, c1, c2, c3, c4⟩ := K2.five
  have s1 := K2.lt
  generalize w1.alloc ob = w2 at *
  by_cases ho : own (d, p, a, r, x) = 0
  rotate_left
  · have hq : (own (d, p, a, r, x) != 0) = true := by simpa using ho
    have HE : Hid (flE l (d, p, a, r, x) = own (d, p, a, r, x)) := by
      unfold flE
      rw [if_pos hc, chkC_one, if_neg ho]
      rfl
    have HF : Hid (flC l (d, p, a, r, x) = []) := by unfold flC; exact if_neg (by rw [HE.out]; exact ho)
    generalize own (d, p, a, r, x) = z at *
    go_wp2
    refine bodyPost_ret (v := .tuple #[.slice none 0 0, .int .i64 z]) (by simp [results, Tryz.results109, go_sem]) rfl ⟨⟨_, by rw [HE.out], by rw [HF.out]; exact Ls.nothing _, Fresh.none _ _ _⟩, B2.out⟩
  rw [ho]
  go_wp2_with fail
  refine (cFind_any _ l d p _ (HL.out.keep B2.out)).mono ?_
  rintro e wx ⟨rfl, b3⟩
  have K3 := K2.keep b3
  have B3 : Hid (Below w.heap.size w wx) := bel_trans B2.out b3
  clear B2 K2 b3 c0 c1 c2 c3 c4 s1
  obtain ⟨c0, c1, c2, c3, c4⟩ := K3.five
  have s1 := K3.lt
  by_cases hf : 0 ≤ fndC l d p
  · have HE : Hid (flE l (d, p, a, r, x) = 5) := by
      unfold flE
      rw [if_pos hc, chkC_one, if_pos ho]
      exact if_pos hf
    have HF : Hid (flC l (d, p, a, r, x) = []) := by unfold flC; exact if_neg (by rw [HE.out]; decide)
    go_wp2
    refine bodyPost_ret (v := .tuple #[.slice none 0 0, .int .i64 5]) (by simp [results, Tryz.results109, go_sem]) rfl ⟨⟨_, by rw [HE.out], by rw [HF.out]; exact Ls.nothing _, Fresh.none _ _ _⟩, B3.out⟩
  have HE : Hid (flE l (d, p, a, r, x) = 0) := by
    unfold flE
    rw [if_pos hc, chkC_one, if_pos ho]
    exact if_neg hf
  have HF : Hid (flC l (d, p, a, r, x) = oldC l ++ [(d, p, a, r, x)]) := flC_ok HE.out
  have h6 : l.length ≤ 6 := (chkC_zero.1 hc).1
  have HT0 : Hid (Ls wx (.slice a0 l.length cap) l) := HL.out.keep B3.out
  clear HL K3
  obtain ⟨m, hm'⟩ : ∃ m, m = oldC l := ⟨_, rfl⟩
  have HM : Hid (m = oldC l) := hm'
  have hm5 : m.length ≤ 5 := by rw [hm']; exact (oldC_len h6).1
  clear hm'
  by_cases hl6 : l.length = 6
  · rcases h with rfl | ⟨b, o, rfl, hb, _⟩
    · exact absurd hl6 (by simp)
    have HT : Hid (Ls wx (.slice (some ⟨b, o + 5, none⟩) 5 (cap - 1)) m) := by
      have := HT0.out.drop (k := 1) (by omega)
      rw [HM.out, oldC, if_pos hl6]
      rw [hl6] at this
      exact this
    rw [hl6] at hl ⊢
    have z1 : (1 : Int) ≤ cap := by omega
    have z2 : (6 : Int) ≤ cap := by omega
    have z3 : ¬ cap = 1 := by omega
    have z4 : 1 ≤ cap := by omega
    go_wp2
    go_region_held3 (fun w' => w'.cell? ⟨w.heap.size, 0, none⟩ = some (.int .i64 d) ∧ w'.cell? ⟨w.heap.size, 1, none⟩ = some (.int .i64 p) ∧ w'.cell? ⟨w.heap.size, 2, none⟩ = some (.int .i64 a) ∧ w'.cell? ⟨w.heap.size, 3, none⟩ = some (.bool r) ∧ w'.cell? ⟨w.heap.size, 4, none⟩ = some (.bool x) ∧ Below wx.heap.size wx w')
      (with_reducible refine keep5 (by assumption) (by assumption) (by assumption) (by assumption) (by assumption) (by assumption) ?_; (repeat (first | with_reducible assumption | (with_reducible (refine limb5 (?_ : _ ∧ _ ∧ _ ∧ _ ∧ _ ∧ _); assumption)) | with_reducible exact Below.refl _ _ | with_reducible refine Below.drew ?_ | with_reducible refine bel_drewN ?_ _ | with_reducible refine bel_alloc ?_ _ | with_reducible refine Below.trans ?_ (by assumption))))
      (first
        | (refine step_append_L rfl (.tmp 30) (.tmp 31) rfl wx.heap.size (.slice (some ⟨_, 0, none⟩) 0 0) _ [] m rfl rfl ?_ ?_ (by first | (simp; done) | (simp; omega)) (by first | (simp; done) | (simp; omega)) (.inl ⟨_, _, _, rfl⟩) ?_; (focus (first | exact OwnL.litAt (by simp) _ (by simp) | exact (OwnL.litAt (by simp) _ (by simp)).alloc _)); (focus (first | exact HT.out.keep (bel_alloc (bel_alloc (Below.drew (Below.refl _ _)) _) _) | exact HT.out.keep (bel_alloc (Below.drew (Below.refl _ _)) _))); intro g cg w4 hown hgr hbel _)
        | (refine step_append_L rfl (.tmp 32) (.tmp 34) rfl wx.heap.size (.slice (some ⟨_, 0, none⟩) _ _) (.slice (some ⟨_, 0, none⟩) 1 1) m [(d, p, a, r, x)] rfl rfl ?_ ?_ (by simp; omega) (by have hs4 := hgr.size; simp at hs4 ⊢; omega) (.inl ⟨_, _, _, rfl⟩) ?_; (focus (first | exact hown | exact hown.alloc _)); (focus (first | exact ls_oneAt (by simp) _ _ _ _ _ _ | (refine Ls.grown ?_ hgr (by simp [Value.ownBlock]); first | exact ls_oneAt (by simp) _ _ _ _ _ _ | exact Ls.alloc (ls_oneAt (by simp) _ _ _ _ _ _) _))); intro g2 cg2 w5 hown2 _ hbel2 _))
    all_goals
      rename_i hH
      have HB5 : Hid (Below wx.heap.size wx w5) := limb5 hH
      have HO2 : Hid _ := hown2
      have HG2 : Hid (w.heap.size ≤ g2) := Nat.le_trans B3.out.size (hown2.base g2 rfl)
      clear hH hown2 hown hgr hbel hbel2
      go_wp2
      refine bodyPost_ret (v := .tuple #[.slice (some ⟨g2, 0, none⟩) (m.length + 1) cg2, .int .i64 0]) (by simp [results, Tryz.results109, go_sem]) rfl ⟨⟨_, by rw [HE.out], ?_, fresh_at HG2.out _ _ _⟩, bel_trans B3.out HB5.out⟩
      rw [HF.out, ← HM.out]
      simpa using OwnL.ls HO2.out
  · have hq6 : ((l.length : Int) == 6) = false := by simp; omega
    have HT : Hid (Ls wx (.slice a0 l.length cap) m) := by
      rw [HM.out, oldC, if_neg hl6]
      exact HT0.out
    go_wp2
    go_region_held3 (fun w' => w'.cell? ⟨w.heap.size, 0, none⟩ = some (.int .i64 d) ∧ w'.cell? ⟨w.heap.size, 1, none⟩ = some (.int .i64 p) ∧ w'.cell? ⟨w.heap.size, 2, none⟩ = some (.int .i64 a) ∧ w'.cell? ⟨w.heap.size, 3, none⟩ = some (.bool r) ∧ w'.cell? ⟨w.heap.size, 4, none⟩ = some (.bool x) ∧ Below wx.heap.size wx w')
      (with_reducible refine keep5 (by assumption) (by assumption) (by assumption) (by assumption) (by assumption) (by assumption) ?_; (repeat (first | with_reducible assumption | (with_reducible (refine limb5 (?_ : _ ∧ _ ∧ _ ∧ _ ∧ _ ∧ _); assumption)) | with_reducible exact Below.refl _ _ | with_reducible refine Below.drew ?_ | with_reducible refine bel_drewN ?_ _ | with_reducible refine bel_alloc ?_ _ | with_reducible refine Below.trans ?_ (by assumption))))
      (first
        | (refine step_append_L rfl (.tmp 30) (.tmp 31) rfl wx.heap.size (.slice (some ⟨_, 0, none⟩) 0 0) _ [] m rfl rfl ?_ ?_ (by first | (simp; done) | (simp; omega)) (by first | (simp; done) | (simp; omega)) (.inl ⟨_, _, _, rfl⟩) ?_; (focus (first | exact OwnL.litAt (by simp) _ (by simp) | exact (OwnL.litAt (by simp) _ (by simp)).alloc _)); (focus (first | exact HT.out.keep (bel_alloc (bel_alloc (Below.drew (Below.refl _ _)) _) _) | exact HT.out.keep (bel_alloc (Below.drew (Below.refl _ _)) _))); intro g cg w4 hown hgr hbel _)
        | (refine step_append_L rfl (.tmp 32) (.tmp 34) rfl wx.heap.size (.slice (some ⟨_, 0, none⟩) _ _) (.slice (some ⟨_, 0, none⟩) 1 1) m [(d, p, a, r, x)] rfl rfl ?_ ?_ (by simp; omega) (by have hs4 := hgr.size; simp at hs4 ⊢; omega) (.inl ⟨_, _, _, rfl⟩) ?_; (focus (first | exact hown | exact hown.alloc _)); (focus (first | exact ls_oneAt (by simp) _ _ _ _ _ _ | (refine Ls.grown ?_ hgr (by simp [Value.ownBlock]); first | exact ls_oneAt (by simp) _ _ _ _ _ _ | exact Ls.alloc (ls_oneAt (by simp) _ _ _ _ _ _) _))); intro g2 cg2 w5 hown2 _ hbel2 _))
    all_goals
      rename_i hH
      have HB5 : Hid (Below wx.heap.size wx w5) := limb5 hH
      have HO2 : Hid _ := hown2
      have HG2 : Hid (w.heap.size ≤ g2) := Nat.le_trans B3.out.size (hown2.base g2 rfl)
      clear hH hown2 hown hgr hbel hbel2
      go_wp2
      refine bodyPost_ret (v := .tuple #[.slice (some ⟨g2, 0, none⟩) (m.length + 1) cg2, .int .i64 0]) (by simp [results, Tryz.results109, go_sem]) rfl ⟨⟨_, by rw [HE.out], ?_, fresh_at HG2.out _ _ _⟩, bel_trans B3.out HB5.out⟩
      rw [HF.out, ← HM.out]
      simpa using OwnL.ls HO2.out
end Go.Proofs.YtlgjllmecjkbjacGreat
/-
  Package ring: what isPage, isStep, Check, Length, place, next, checkBoth answer; none turns memory that was there.
-/
namespace Go.Proofs.YtlgjllmecjkbjacGreat
open Go.RowKit
def pageR (z : Int) : Bool := decide (0 ≤ z ∧ z < 64)
def stepR (z : Int) : Bool := decide (0 ≤ z ∧ z < 8)
def chkR (p h t : Int) : Int := if pageR p = true then (if stepR h = true then (if stepR t = true then 0 else 2) else 2) else 2
def lenR (h t : Int) : Int := (t - h + 8) % 8
def bothR (zs : List Int) (p h t : Int) : Int := if chk zs = 0 then chkR p h t else chk zs
theorem pageR_in {z : Int} (h : pageR z = true) : 0 ≤ z ∧ z < 64 := by simpa [pageR] using h
theorem stepR_in {z : Int} (h : stepR z = true) : 0 ≤ z ∧ z < 8 := by simpa [stepR] using h
theorem chkR_ok {p h t : Int} (k : chkR p h t = 0) : pageR p = true ∧ stepR h = true ∧ stepR t = true := by
  unfold chkR at k
  by_cases a : pageR p = true
  · by_cases b : stepR h = true
    · by_cases c : stepR t = true
      · exact ⟨a, b, c⟩
      · simp [a, b, c] at k
    · simp [a, b] at k
  · simp [a] at k
theorem chkR_mk {p h t : Int} (a : pageR p = true) (b : stepR h = true) (c : stepR t = true) : chkR p h t = 0 := by simp [chkR, a, b, c]
theorem isPageR_any (z : Int) (w : World) : Calls Tryz.prog 96 #[.int .i64 z] w fun e w' => e = .returned (.bool (pageR z)) ∧ w' = w := by
  by_cases h1 : 0 ≤ z
  · by_cases h2 : z < 64
    · have : pageR z = true := by simp [pageR, h1, h2]
      rw [this]
      go_enter Tryz.func96, Tryz.ntmps96
      go_wp2
      go_ret
      exact ⟨rfl, rfl⟩
    · have : pageR z = false := by simp [pageR, h2]
      rw [this]
      go_enter Tryz.func96, Tryz.ntmps96
      go_wp2
      go_ret
      exact ⟨rfl, rfl⟩
  · have : pageR z = false := by simp [pageR, h1]
    rw [this]
    go_enter Tryz.func96, Tryz.ntmps96
    go_wp2
    go_ret
    exact ⟨rfl, rfl⟩
theorem isStep_any (z : Int) (w : World) : Calls Tryz.prog 97 #[.int .i64 z] w fun e w' => e = .returned (.bool (stepR z)) ∧ w' = w := by
  by_cases h1 : 0 ≤ z
  · by_cases h2 : z < 8
    · have : stepR z = true := by simp [stepR, h1, h2]
      rw [this]
      go_enter Tryz.func97, Tryz.ntmps97
      go_wp2
      go_ret
      exact ⟨rfl, rfl⟩
    · have : stepR z = false := by simp [stepR, h2]
      rw [this]
      go_enter Tryz.func97, Tryz.ntmps97
      go_wp2
      go_ret
      exact ⟨rfl, rfl⟩
  · have : stepR z = false := by simp [stepR, h1]
    rw [this]
    go_enter Tryz.func97, Tryz.ntmps97
    go_wp2
    go_ret
    exact ⟨rfl, rfl⟩
abbrev ringB (p h t : Int) : Obj := .cells #[.int .i64 p, .int .i64 h, .int .i64 t] 29
set_option maxHeartbeats 1000000 in
theorem rCheck_any (p h t : Int) (w : World) :
    Calls Tryz.prog 67 #[.agg #[.int .i64 p, .int .i64 h, .int .i64 t]] w fun e w' => e = .returned (.int .i64 (chkR p h t)) ∧ w' = w.alloc (ringB p h t) := by
  cases a : pageR p
  · have : chkR p h t = 2 := by simp [chkR, a]
    rw [this]
    go_enter Tryz.func67, Tryz.ntmps67
    go_wp2_with (first | (go_at_call 96; refine (isPageR_any _ _).mono ?_; rintro e w' ⟨rfl, rfl⟩) | (go_at_call 97; refine (isStep_any _ _).mono ?_; rintro e w' ⟨rfl, rfl⟩))
    go_ret
    exact ⟨rfl, rfl⟩
  cases b : stepR h
  · have : chkR p h t = 2 := by simp [chkR, a, b]
    rw [this]
    go_enter Tryz.func67, Tryz.ntmps67
    go_wp2_with (first | (go_at_call 96; refine (isPageR_any _ _).mono ?_; rintro e w' ⟨rfl, rfl⟩) | (go_at_call 97; refine (isStep_any _ _).mono ?_; rintro e w' ⟨rfl, rfl⟩))
    go_ret
    exact ⟨rfl, rfl⟩
  cases c : stepR t
  · have : chkR p h t = 2 := by simp [chkR, a, b, c]
    rw [this]
    go_enter Tryz.func67, Tryz.ntmps67
    go_wp2_with (first | (go_at_call 96; refine (isPageR_any _ _).mono ?_; rintro e w' ⟨rfl, rfl⟩) | (go_at_call 97; refine (isStep_any _ _).mono ?_; rintro e w' ⟨rfl, rfl⟩))
    go_ret
    exact ⟨rfl, rfl⟩
  have : chkR p h t = 0 := by simp [chkR, a, b, c]
  rw [this]
  go_enter Tryz.func67, Tryz.ntmps67
  go_wp2_with (first | (go_at_call 96; refine (isPageR_any _ _).mono ?_; rintro e w' ⟨rfl, rfl⟩) | (go_at_call 97; refine (isStep_any _ _).mono ?_; rintro e w' ⟨rfl, rfl⟩))
  go_ret
  exact ⟨rfl, rfl⟩
set_option maxHeartbeats 1000000 in
theorem length_any (p h t : Int) (w : World) (hh : 0 ≤ h ∧ h < 8) (ht : 0 ≤ t ∧ t < 8) :
    Calls Tryz.prog 115 #[.agg #[.int .i64 p, .int .i64 h, .int .i64 t]] w fun e w' => e = .returned (.int .i64 (lenR h t)) ∧ w' = w.alloc (ringB p h t) := by
  obtain ⟨h0, h1⟩ := hh
  obtain ⟨t0, t1⟩ := ht
  go_enter Tryz.func115, Tryz.ntmps115
  go_wp2
  go_ret
  exact ⟨rfl, rfl⟩
set_option maxHeartbeats 1000000 in
theorem place_any (p h t s : Int) (w : World) (hp : 0 ≤ p ∧ p < 64) (hs : 0 ≤ s ∧ s < 8) :
    Calls Tryz.prog 116 #[.agg #[.int .i64 p, .int .i64 h, .int .i64 t], .int .i64 s] w fun e w' => e = .returned (.int .i64 (p * 8 + s)) ∧ w' = w.alloc (ringB p h t) := by
  obtain ⟨h0, h1⟩ := hp
  obtain ⟨t0, t1⟩ := hs
  go_enter Tryz.func116, Tryz.ntmps116
  go_wp2
  go_ret
  exact ⟨rfl, rfl⟩
theorem next_any (s : Int) (w : World) (hs : 0 ≤ s ∧ s < 8) : Calls Tryz.prog 117 #[.int .i64 s] w fun e w' => e = .returned (.int .i64 ((s + 1) % 8)) ∧ w' = w := by
  obtain ⟨t0, t1⟩ := hs
  go_enter Tryz.func117, Tryz.ntmps117
  go_wp2
  go_ret
  exact ⟨rfl, rfl⟩
set_option maxHeartbeats 1000000 in
theorem checkBoth_any (v : Value) (zs : List Int) (p h t : Int) (w : World) (hs : Sl w v zs) :
    Calls Tryz.prog 114 #[.agg #[v], .agg #[.int .i64 p, .int .i64 h, .int .i64 t]] w fun e w' => e = .returned (.int .i64 (bothR zs p h t)) ∧ Below w.heap.size w w' := by
  go_enter Tryz.func114, Tryz.ntmps114
  go_wp2_with fail
  refine (check_any _ zs _ (hs.keep (bel_alloc (bel_alloc (Below.refl _ _) _) _))).mono ?_
  rintro e w1 ⟨rfl, b1⟩
  have K1 := (Blk.newAt (n := w.heap.size + 1) (by simp) #[.int .i64 p, .int .i64 h, .int .i64 t] 29 (0, 0)).keep b1
  obtain ⟨d0, d1, d2⟩ := K1.three
  have B1 : Hid (Below w.heap.size w w1) := bel_trans (bel_alloc (bel_alloc (Below.refl _ _) _) _) b1
  have s1 := K1.lt
  clear b1 K1
  by_cases hk : chk zs = 0
  · have HR : Hid (bothR zs p h t = chkR p h t) := by show _ = _; simp [bothR, hk]
    rw [hk]
    go_wp2_with fail
    refine (rCheck_any _ _ _ _).mono ?_
    rintro e w2 ⟨rfl, rfl⟩
    go_wp2
    go_ret
    exact ⟨ret_int HR.out.symm, bel_alloc B1.out _⟩
  · have HR : Hid (bothR zs p h t = chk zs) := by show _ = _; simp [bothR, hk]
    have hq : (chk zs != 0) = true := by simpa using hk
    go_wp2
    go_ret
    exact ⟨ret_int HR.out.symm, B1.out⟩
end Go.Proofs.YtlgjllmecjkbjacGreat
/-
  A variable's own block: the cells it holds, none of them frozen; carried over calls, new blocks, stores.
-/
namespace Go.Proofs.YtlgjllmecjkbjacGreat
open Go.RowKit
def Box (w : World) (n : Nat) (t : TypeId) (cs : Array Value) : Prop := w.heap[n]? = some (.cells cs t (0, 0))
theorem Box.blk {w : World} {n : Nat} {t : TypeId} {cs : Array Value} (h : Box w n t cs) : Blk w n cs := ⟨t, (0, 0), h⟩
theorem Box.lt {w : World} {n : Nat} {t : TypeId} {cs : Array Value} (h : Box w n t cs) : n < w.heap.size := h.blk.lt
theorem Box.keep {w w' : World} {n : Nat} {t : TypeId} {cs : Array Value} (h : Box w n t cs) (hb : Below w.heap.size w w') : Box w' n t cs := heap_kept hb h.lt h
theorem Box.newAt {w : World} {n : Nat} (h : n = w.heap.size) (t : TypeId) (cs : Array Value) : Box (w.alloc (.cells cs t)) n t cs := heap_at h
theorem Box.past {w : World} {n : Nat} {t : TypeId} {cs : Array Value} (h : Box w n t cs) (o : Obj) : Box (w.alloc o) n t cs := heap_past h.lt h
theorem Box.cell {w : World} {n : Nat} {t : TypeId} {cs : Array Value} (h : Box w n t cs) (i : Nat) : w.cell? ⟨n, i, none⟩ = cs[i]? := h.blk.cell i
theorem Box.frozen {w : World} {n : Nat} {t : TypeId} {cs : Array Value} (h : Box w n t cs) (i : Nat) : w.frozen? ⟨n, i, none⟩ = false := frozen_of_row w n _ _ _ h
theorem Box.set {w : World} {n : Nat} {t : TypeId} {cs : Array Value} (h : Box w n t cs) (i : Nat) (u : Value) : Box (w.setCell ⟨n, i, none⟩ u) n t (cs.setIfInBounds i u) := heap_setCell_same w n i cs t u h
theorem Box.other {w : World} {n : Nat} {t : TypeId} {cs : Array Value} (h : Box w n t cs) {p : Addr} (hp : n ≠ p.block) (u : Value) : Box (w.setCell p u) n t cs := by
  unfold Box; rw [heap_setCell_other w p n u hp]; exact h
theorem Box.drew {w : World} {n : Nat} {t : TypeId} {cs : Array Value} (h : Box w n t cs) : Box w.drew n t cs := h
theorem Box.drewN {w : World} {n : Nat} {t : TypeId} {cs : Array Value} (h : Box w n t cs) (k : Nat) : Box (w.drewN k) n t cs := h
theorem Box.one {w : World} {n : Nat} {t : TypeId} {a : Value} (h : Box w n t #[a]) : w.cell? ⟨n, 0, none⟩ = some a ∧ w.frozen? ⟨n, 0, none⟩ = false ∧ n < w.heap.size := ⟨h.cell 0, h.frozen 0, h.lt⟩
theorem Box.three {w : World} {n : Nat} {t : TypeId} {a b c : Value} (h : Box w n t #[a, b, c]) :
    w.cell? ⟨n, 0, none⟩ = some a ∧ w.cell? ⟨n, 1, none⟩ = some b ∧ w.cell? ⟨n, 2, none⟩ = some c ∧ w.frozen? ⟨n, 0, none⟩ = false ∧ w.frozen? ⟨n, 1, none⟩ = false ∧ w.frozen? ⟨n, 2, none⟩ = false ∧ n < w.heap.size :=
  ⟨h.cell 0, h.cell 1, h.cell 2, h.frozen 0, h.frozen 1, h.frozen 2, h.lt⟩
theorem Box.set1 {w : World} {n : Nat} {t : TypeId} {a : Value} (h : Box w n t #[a]) (u : Value) : Box (w.setCell ⟨n, 0, none⟩ u) n t #[u] := h.set 0 u
theorem Box.set3 {w : World} {n : Nat} {t : TypeId} {a b c : Value} (h : Box w n t #[a, b, c]) (u0 u1 u2 : Value) :
    Box (((w.setCell ⟨n, 0, none⟩ u0).setCell ⟨n, 1, none⟩ u1).setCell ⟨n, 2, none⟩ u2) n t #[u0, u1, u2] := ((h.set 0 u0).set 1 u1).set 2 u2
theorem Box.other3 {w : World} {n m : Nat} {t : TypeId} {cs : Array Value} (h : Box w n t cs) (hp : n ≠ m) (u0 u1 u2 : Value) :
    Box (((w.setCell ⟨m, 0, none⟩ u0).setCell ⟨m, 1, none⟩ u1).setCell ⟨m, 2, none⟩ u2) n t cs :=
  ((h.other (p := ⟨m, 0, none⟩) hp u0).other (p := ⟨m, 1, none⟩) hp u1).other (p := ⟨m, 2, none⟩) hp u2
theorem bel_set3 {a w : World} {n : Nat} (hp : a.heap.size ≤ n) (h : Below a.heap.size a w) (u0 u1 u2 : Value) :
    Below a.heap.size a (((w.setCell ⟨n, 0, none⟩ u0).setCell ⟨n, 1, none⟩ u1).setCell ⟨n, 2, none⟩ u2) :=
  ((h.setCell (p := ⟨n, 0, none⟩) hp u0).setCell (p := ⟨n, 1, none⟩) hp u1).setCell (p := ⟨n, 2, none⟩) hp u2
theorem bel_set1 {a w : World} {n : Nat} (hp : a.heap.size ≤ n) (h : Below a.heap.size a w) (u0 : Value) : Below a.heap.size a (w.setCell ⟨n, 0, none⟩ u0) := h.setCell (p := ⟨n, 0, none⟩) hp u0
theorem Box.four {w : World} {n : Nat} {t : TypeId} {a b c d : Value} (h : Box w n t #[a, b, c, d]) :
    w.cell? ⟨n, 0, none⟩ = some a ∧ w.cell? ⟨n, 1, none⟩ = some b ∧ w.cell? ⟨n, 2, none⟩ = some c ∧ w.cell? ⟨n, 3, none⟩ = some d ∧ w.frozen? ⟨n, 0, none⟩ = false ∧ w.frozen? ⟨n, 1, none⟩ = false ∧ w.frozen? ⟨n, 2, none⟩ = false ∧ w.frozen? ⟨n, 3, none⟩ = false ∧ n < w.heap.size :=
  ⟨h.cell 0, h.cell 1, h.cell 2, h.cell 3, h.frozen 0, h.frozen 1, h.frozen 2, h.frozen 3, h.lt⟩
theorem Box.set4 {w : World} {n : Nat} {t : TypeId} {a b c d : Value} (h : Box w n t #[a, b, c, d]) (u0 u1 u2 u3 : Value) :
    Box ((((w.setCell ⟨n, 0, none⟩ u0).setCell ⟨n, 1, none⟩ u1).setCell ⟨n, 2, none⟩ u2).setCell ⟨n, 3, none⟩ u3) n t #[u0, u1, u2, u3] := (((h.set 0 u0).set 1 u1).set 2 u2).set 3 u3
theorem bel_set4 {a w : World} {n : Nat} (hp : a.heap.size ≤ n) (h : Below a.heap.size a w) (u0 u1 u2 u3 : Value) :
    Below a.heap.size a ((((w.setCell ⟨n, 0, none⟩ u0).setCell ⟨n, 1, none⟩ u1).setCell ⟨n, 2, none⟩ u2).setCell ⟨n, 3, none⟩ u3) :=
  (bel_set3 hp h u0 u1 u2).setCell (p := ⟨n, 3, none⟩) hp u3
end Go.Proofs.YtlgjllmecjkbjacGreat
/-
  ring.Push: a memory of its own with a word more in the ring, and the ring then; nothing that was there turns.
-/
namespace Go.Proofs.YtlgjllmecjkbjacGreat
open Go.RowKit
def psE (zs : List Int) (p h t x : Int) : Int := if bothR zs p h t = 0 then (if wordB x = true then (if lenR h t = 7 then 1 else 0) else 2) else bothR zs p h t
def psM (zs : List Int) (p h t x : Int) : List Int := if psE zs p h t x = 0 then zs.set (p * 8 + t).toNat x else []
def psR (zs : List Int) (p h t x : Int) : Int × Int × Int := if psE zs p h t x = 0 then (p, h, (t + 1) % 8) else (0, 0, 0)
theorem bothR_ok {zs : List Int} {p h t : Int} (k : bothR zs p h t = 0) : chk zs = 0 ∧ chkR p h t = 0 := by
  unfold bothR at k
  by_cases hk : chk zs = 0
  · rw [if_pos hk] at k; exact ⟨hk, k⟩
  · rw [if_neg hk] at k; exact absurd k hk
theorem bothR_mk {zs : List Int} {p h t : Int} (a : chk zs = 0) (b : chkR p h t = 0) : bothR zs p h t = 0 := by rw [bothR, if_pos a, b]
theorem place_ok {p t : Int} (hp : pageR p = true) (ht : stepR t = true) : placeB (p * 8 + t) = true := by
  obtain ⟨a, b⟩ := pageR_in hp
  obtain ⟨c, d⟩ := stepR_in ht
  simp [placeB]; omega
theorem keep31 {W w' : World} {m n : Nat} {v u0 u1 u2 : Value} (hv : W.cell? ⟨m, 0, none⟩ = some v) (h0 : W.cell? ⟨n, 0, none⟩ = some u0) (h1 : W.cell? ⟨n, 1, none⟩ = some u1) (h2 : W.cell? ⟨n, 2, none⟩ = some u2) (hm : m < W.heap.size) (hn : n < W.heap.size) (hb : Below W.heap.size W w') :
    w'.cell? ⟨m, 0, none⟩ = some v ∧ w'.cell? ⟨n, 0, none⟩ = some u0 ∧ w'.cell? ⟨n, 1, none⟩ = some u1 ∧ w'.cell? ⟨n, 2, none⟩ = some u2 ∧ Below W.heap.size W w' :=
  ⟨((bcell hb).1 m 0 hm).trans hv, ((bcell hb).1 n 0 hn).trans h0, ((bcell hb).1 n 1 hn).trans h1, ((bcell hb).1 n 2 hn).trans h2, hb⟩
theorem limb4 {A B C D E : Prop} (h : A ∧ B ∧ C ∧ D ∧ E) : E := h.2.2.2.2
set_option maxHeartbeats 2000000 in
theorem push_any (v : Value) (zs : List Int) (p h t x : Int) (w : World) (hs : Sl w v zs) :
    Calls Tryz.prog 122 #[.agg #[v], .agg #[.int .i64 p, .int .i64 h, .int .i64 t], .int .i64 x] w fun e w' =>
      (∃ v' p' h' t', e = .returned (.tuple #[.agg #[v'], .agg #[.int .i64 p', .int .i64 h', .int .i64 t'], .int .i64 (psE zs p h t x)]) ∧ Sl w' v' (psM zs p h t x) ∧ Fresh w.heap.size v' ∧ psR zs p h t x = (p', h', t')) ∧ Below w.heap.size w w' := by
  obtain ⟨a0, c0, rfl⟩ := hs.shape
  go_enter Tryz.func122, Tryz.ntmps122
  go_wp2_with fail
  refine (checkBoth_any _ zs p h t _ (hs.keep (bel_alloc (bel_alloc (bel_alloc (bel_alloc (Below.refl _ _) _) _) _) _))).mono ?_
  rintro e w1 ⟨rfl, b1⟩
  have X0 := (((Box.newAt (n := w.heap.size) (by simp) 24 #[.slice a0 zs.length c0]).past (.cells #[.int .i64 p, .int .i64 h, .int .i64 t] 29)).past (.cells #[.slice none 0 0] 24)).past (.cells #[.int .i64 0, .int .i64 0, .int .i64 0] 29) |>.keep b1
  have X1 := ((Box.newAt (w := w.alloc (.cells #[.slice a0 zs.length c0] 24)) (n := w.heap.size + 1) (by simp) 29 #[.int .i64 p, .int .i64 h, .int .i64 t]).past _).past _ |>.keep b1
  have X2 := (Box.newAt (n := w.heap.size + 1 + 1) (by simp) 24 #[.slice none 0 0]).past _ |>.keep b1
  have X3 := (Box.newAt (n := w.heap.size + 1 + 1 + 1) (by simp) 29 #[.int .i64 0, .int .i64 0, .int .i64 0]) |>.keep b1
  have B1 : Hid (Below w.heap.size w w1) := bel_trans (bel_alloc (bel_alloc (bel_alloc (bel_alloc (Below.refl _ _) _) _) _) _) b1
  clear b1
  obtain ⟨q0, -, s0⟩ := X0.one
  obtain ⟨q1, q2, q3, z1, z2, z3, s1⟩ := X1.three
  obtain ⟨y0, y1, s2⟩ := X2.one
  obtain ⟨u0, u1, u2, g0, g1, g2, s3⟩ := X3.three
  by_cases hk : bothR zs p h t = 0
  rotate_left
  · have hq : (bothR zs p h t != 0) = true := by simpa using hk
    have HE : Hid (psE zs p h t x = bothR zs p h t) := if_neg hk
    have HF : Hid (psM zs p h t x = []) := if_neg (by rw [HE.out]; exact hk)
    have HG : Hid (psR zs p h t x = (0, 0, 0)) := if_neg (by rw [HE.out]; exact hk)
    go_wp2
    refine bodyPost_ret (v := .tuple #[.agg #[.slice none 0 0], .agg #[.int .i64 0, .int .i64 0, .int .i64 0], .int .i64 (bothR zs p h t)]) (by simp [results, Tryz.results122, go_sem, *]) rfl ⟨⟨_, _, _, _, by rw [HE.out], by rw [HF.out]; exact Sl.nil _ _ _, Fresh.none _ _ _, HG.out⟩, ?_⟩
    exact bel_set3 (by omega) (bel_set1 (by omega) B1.out _) _ _ _
  obtain ⟨hz, hr⟩ := bothR_ok hk
  obtain ⟨rp, rh, rt⟩ := chkR_ok hr
  have hpl := place_ok rp rt
  have Rp := pageR_in rp
  have Rh := stepR_in rh
  have Rt := stepR_in rt
  rw [hk]
  have HZ : Hid (Sl w1 (.slice a0 zs.length c0) zs) := hs.keep B1.out
  go_upto_region 4 with fail
  go_cut [10, 11] from 20 to 29 (fun s u wx => ∃ n a c, s = .pointer (some ⟨n, 0, none⟩) ∧ u = .int .i64 (wrE zs (p * 8 + t) x) ∧ Box wx n 24 #[.slice a (wrM zs (p * 8 + t) x).length c] ∧ Sl wx (.slice a (wrM zs (p * 8 + t) x).length c) (wrM zs (p * 8 + t) x) ∧ Fresh w1.heap.size (.slice a (wrM zs (p * 8 + t) x).length c) ∧ w1.heap.size ≤ n ∧ Below w1.heap.size w1 wx)
  case first =>
    go_region_held3 (fun w' => w'.cell? ⟨w.heap.size, 0, none⟩ = some (.slice a0 zs.length c0) ∧ w'.cell? ⟨w.heap.size + 1, 0, none⟩ = some (.int .i64 p) ∧ w'.cell? ⟨w.heap.size + 1, 1, none⟩ = some (.int .i64 h) ∧ w'.cell? ⟨w.heap.size + 1, 2, none⟩ = some (.int .i64 t) ∧ Below w1.heap.size w1 w')
      (with_reducible refine keep31 (by assumption) (by assumption) (by assumption) (by assumption) (by assumption) (by assumption) ?_; (repeat (first | with_reducible assumption | (with_reducible (refine limb4 (?_ : _ ∧ _ ∧ _ ∧ _ ∧ _); assumption)) | with_reducible exact Below.refl _ _ | with_reducible refine Below.drew ?_ | with_reducible refine bel_drewN ?_ _ | with_reducible refine bel_alloc ?_ _ | (with_reducible refine bel_set1 ?_ ?_ _; (focus (first | (simp; done) | (simp; omega) | omega))) | with_reducible refine bel_trans ?_ (by assumption))))
      (first
        | (go_at_call 116; refine (place_any p h t t _ Rp Rt).mono ?_; rintro e w2 ⟨rfl, rfl⟩)
        | (go_at_call 153; refine (write_anyN _ zs (p * 8 + t) x _ ?_).mono ?_; (focus (refine HZ.out.keep ?_; (repeat (first | with_reducible assumption | (with_reducible (refine limb4 (?_ : _ ∧ _ ∧ _ ∧ _ ∧ _); assumption)) | with_reducible exact Below.refl _ _ | with_reducible refine Below.drew ?_ | with_reducible refine bel_drewN ?_ _ | with_reducible refine bel_alloc ?_ _ | (with_reducible refine bel_set1 ?_ ?_ _; (focus (first | (simp; done) | (simp; omega) | omega))) | with_reducible refine bel_trans ?_ (by assumption))))); rintro e w3 ⟨v3, rfl, h3, n3, b3⟩; obtain ⟨a3, c3, rfl⟩ := h3.shape; obtain ⟨c3, f3⟩ := bcell b3))
    all_goals (go_wp2_with fail; go_meet)
    · have z3 := b3.size
      exact ⟨_, _, _, rfl, rfl, Box.newAt rfl _ _, h3.keep (bel_alloc (Below.refl _ _) _), n3.mono (by simp), by simp at z3; omega, limb4 (by with_reducible assumption)⟩
    · have K := (Box.newAt (w := w1.alloc (ringB p h t)) (n := w1.heap.size + 1) (by simp) 24 #[.slice none 0 0]).drew.keep b3
      exact ⟨_, _, _, rfl, rfl, K.set1 _, h3.setSlice (K.cell 0) _, n3.mono (by simp; omega), by omega, limb4 (by with_reducible assumption)⟩
    · have K := ((Box.newAt (w := w1) (n := w1.heap.size) rfl 24 #[.slice none 0 0]).past (ringB p h t)).drew.keep b3
      exact ⟨_, _, _, rfl, rfl, K.set1 _, h3.setSlice (K.cell 0) _, n3.mono (by simp; omega), by omega, limb4 (by with_reducible assumption)⟩
  case rest =>
    obtain ⟨n, a3, c3, rfl, rfl, XN, HN, NN, hn, Bc⟩ := hcut
    have NF : Hid (Fresh w1.heap.size (.slice a3 (wrM zs (p * 8 + t) x).length c3)) := NN
    have NW : Hid (w.heap.size + 1 + 1 + 1 < w1.heap.size) := s3
    clear NN
    have X1 := X1.keep Bc
    have X2 := X2.keep Bc
    have X3 := X3.keep Bc
    have BC : Hid (Below w.heap.size w wc) := bel_trans B1.out Bc
    clear Bc B1 X0 q0 q1 q2 q3 z1 z2 z3 y0 y1 u0 u1 u2 g0 g1 g2 s0 s1 s2 s3 HZ
    obtain ⟨q1, q2, q3, z1, z2, z3, s1⟩ := X1.three
    obtain ⟨y0, y1, s2⟩ := X2.one
    obtain ⟨u0, u1, u2, g0, g1, g2, s3⟩ := X3.three
    obtain ⟨n0, -, sn⟩ := XN.one
    cases hx : wordB x
    · have HE : Hid (psE zs p h t x = 2) := by show _ = _; simp [psE, hk, hx]
      have HF : Hid (psM zs p h t x = []) := if_neg (by rw [HE.out]; decide)
      have HG : Hid (psR zs p h t x = (0, 0, 0)) := if_neg (by rw [HE.out]; decide)
      have e2 : wrE zs (p * 8 + t) x = 2 := by simp [wrE, hz, hpl, hx]
      rw [e2]
      go_wp2
      refine bodyPost_ret (v := .tuple #[.agg #[.slice none 0 0], .agg #[.int .i64 0, .int .i64 0, .int .i64 0], .int .i64 2]) (by simp [results, Tryz.results122, go_sem, *]) rfl ⟨⟨_, _, _, _, by rw [HE.out], by rw [HF.out]; exact Sl.nil _ _ _, Fresh.none _ _ _, HG.out⟩, ?_⟩
      exact bel_set3 (by omega) (bel_set1 (by omega) BC.out _) _ _ _
    have e2 : wrE zs (p * 8 + t) x = 0 := by simp [wrE, hz, hpl, hx]
    have m2 : wrM zs (p * 8 + t) x = zs.set (p * 8 + t).toNat x := wrM_ok hz hpl hx
    rw [e2]
    generalize wrM zs (p * 8 + t) x = zn at *
    have MZ : Hid (zn = zs.set (p * 8 + t).toNat x) := m2
    clear m2 e2
    go_wp2_with fail
    refine (length_any p h t _ Rh Rt).mono ?_
    rintro e w4 ⟨rfl, rfl⟩
    by_cases hl : lenR h t = 7
    · have HE : Hid (psE zs p h t x = 1) := by show _ = _; simp [psE, hk, hx, hl]
      have HF : Hid (psM zs p h t x = []) := if_neg (by rw [HE.out]; decide)
      have HG : Hid (psR zs p h t x = (0, 0, 0)) := if_neg (by rw [HE.out]; decide)
      rw [hl]
      go_wp2
      refine bodyPost_ret (v := .tuple #[.agg #[.slice none 0 0], .agg #[.int .i64 0, .int .i64 0, .int .i64 0], .int .i64 1]) (by simp [results, Tryz.results122, go_sem, *]) rfl ⟨⟨_, _, _, _, by rw [HE.out], by rw [HF.out]; exact Sl.nil _ _ _, Fresh.none _ _ _, HG.out⟩, ?_⟩
      (repeat (first | with_reducible exact BC.out | with_reducible refine bel_alloc ?_ _ | (with_reducible refine bel_set ?_ ?_ _; (focus (dsimp only; omega)))))
    have HE : Hid (psE zs p h t x = 0) := by show _ = _; simp [psE, hk, hx, hl]
    have HF : Hid (psM zs p h t x = zs.set (p * 8 + t).toNat x) := if_pos HE.out
    have HG : Hid (psR zs p h t x = (p, h, (t + 1) % 8)) := if_pos HE.out
    have hq : (lenR h t == 7) = false := by simpa using hl
    go_wp2_with fail
    refine (next_any t _ Rt).mono ?_
    rintro e w5 ⟨rfl, rfl⟩
    go_wp2
    go_region
    go_wp2
    refine bodyPost_ret (v := .tuple #[.agg #[.slice a3 zn.length c3], .agg #[.int .i64 p, .int .i64 h, .int .i64 ((t + 1) % 8)], .int .i64 0]) (by simp [results, Tryz.results122, go_sem, *]) rfl ⟨⟨_, _, _, _, by rw [HE.out], ?_, NF.out.mono (by have := NW.out; omega), HG.out⟩, ?_⟩
    · rw [HF.out, ← MZ.out]
      refine Sl.keep ?_ (Below.drew (bel_alloc (Below.refl _ _) _))
      refine Sl.setOther (Sl.setOther (Sl.setOther (Sl.setOther (Sl.setOther HN ?_ _) ?_ _) ?_ _) ?_ _) ?_ _ <;> (have := NW.out; exact NF.out.ne (by dsimp only; omega))
    · refine Below.drew (bel_alloc ?_ _)
      (repeat (first | with_reducible exact BC.out | with_reducible refine bel_alloc ?_ _ | (with_reducible refine bel_set ?_ ?_ _; (focus (dsimp only; omega)))))
end Go.Proofs.YtlgjllmecjkbjacGreat
/-
  ring.Pop: the word that waits longest, and the ring without it; nothing that was there turns.
-/
namespace Go.Proofs.YtlgjllmecjkbjacGreat
open Go.RowKit
def ppE (zs : List Int) (p h t : Int) : Int := if bothR zs p h t = 0 then (if h = t then 6 else 0) else bothR zs p h t
def ppV (zs : List Int) (p h t : Int) : Int := if ppE zs p h t = 0 then nth zs (p * 8 + h).toNat else 0
def ppR (zs : List Int) (p h t : Int) : Int × Int × Int := if ppE zs p h t = 0 then (p, (h + 1) % 8, t) else (0, 0, 0)
theorem lenR_zero {h t : Int} (hh : 0 ≤ h ∧ h < 8) (ht : 0 ≤ t ∧ t < 8) : lenR h t = 0 ↔ h = t := by unfold lenR; omega
theorem keep32 {W w' : World} {m n b o : Nat} {v u0 u1 u2 u3 : Value} (hv : W.cell? ⟨m, 0, none⟩ = some v) (h0 : W.cell? ⟨n, 0, none⟩ = some u0) (h1 : W.cell? ⟨n, 1, none⟩ = some u1) (h2 : W.cell? ⟨n, 2, none⟩ = some u2) (h3 : W.cell? ⟨b, o, none⟩ = some u3) (hm : m < W.heap.size) (hn : n < W.heap.size) (ho : b < W.heap.size) (hb : Below W.heap.size W w') :
    w'.cell? ⟨m, 0, none⟩ = some v ∧ w'.cell? ⟨n, 0, none⟩ = some u0 ∧ w'.cell? ⟨n, 1, none⟩ = some u1 ∧ w'.cell? ⟨n, 2, none⟩ = some u2 ∧ w'.cell? ⟨b, o, none⟩ = some u3 ∧ Below W.heap.size W w' :=
  ⟨((bcell hb).1 m 0 hm).trans hv, ((bcell hb).1 n 0 hn).trans h0, ((bcell hb).1 n 1 hn).trans h1, ((bcell hb).1 n 2 hn).trans h2, ((bcell hb).1 b o ho).trans h3, hb⟩
theorem limbV {A B C D E F : Prop} (h : A ∧ B ∧ C ∧ D ∧ E ∧ F) : F := h.2.2.2.2.2
set_option maxHeartbeats 2000000 in
theorem pop_any (v : Value) (zs : List Int) (p h t : Int) (w : World) (hs : Sl w v zs) :
    Calls Tryz.prog 86 #[.agg #[v], .agg #[.int .i64 p, .int .i64 h, .int .i64 t]] w fun e w' =>
      (∃ p' h' t', e = .returned (.tuple #[.int .i64 (ppV zs p h t), .agg #[.int .i64 p', .int .i64 h', .int .i64 t'], .int .i64 (ppE zs p h t)]) ∧ ppR zs p h t = (p', h', t')) ∧ Below w.heap.size w w' := by
  obtain ⟨a0, c0, rfl⟩ := hs.shape
  go_enter Tryz.func86, Tryz.ntmps86
  go_wp2_with fail
  refine (checkBoth_any _ zs p h t _ (hs.keep (bel_alloc (bel_alloc (bel_alloc (Below.refl _ _) _) _) _))).mono ?_
  rintro e w1 ⟨rfl, b1⟩
  have X0 := ((Box.newAt (n := w.heap.size) (by simp) 24 #[.slice a0 zs.length c0]).past (.cells #[.int .i64 p, .int .i64 h, .int .i64 t] 29)).past (.cells #[.int .i64 0, .int .i64 0, .int .i64 0] 29) |>.keep b1
  have X1 := (Box.newAt (w := w.alloc (.cells #[.slice a0 zs.length c0] 24)) (n := w.heap.size + 1) (by simp) 29 #[.int .i64 p, .int .i64 h, .int .i64 t]).past _ |>.keep b1
  have X3 := (Box.newAt (n := w.heap.size + 1 + 1) (by simp) 29 #[.int .i64 0, .int .i64 0, .int .i64 0]) |>.keep b1
  have B1 : Hid (Below w.heap.size w w1) := bel_trans (bel_alloc (bel_alloc (bel_alloc (Below.refl _ _) _) _) _) b1
  clear b1
  obtain ⟨q0, -, s0⟩ := X0.one
  obtain ⟨q1, q2, q3, z1, z2, z3, s1⟩ := X1.three
  obtain ⟨u0, u1, u2, g0, g1, g2, s3⟩ := X3.three
  by_cases hk : bothR zs p h t = 0
  rotate_left
  · have hq : (bothR zs p h t != 0) = true := by simpa using hk
    have HE : Hid (ppE zs p h t = bothR zs p h t) := if_neg hk
    have HF : Hid (ppV zs p h t = 0) := if_neg (by rw [HE.out]; exact hk)
    have HG : Hid (ppR zs p h t = (0, 0, 0)) := if_neg (by rw [HE.out]; exact hk)
    go_wp2
    refine bodyPost_ret (v := .tuple #[.int .i64 0, .agg #[.int .i64 0, .int .i64 0, .int .i64 0], .int .i64 (bothR zs p h t)]) (by simp [results, Tryz.results86, go_sem, *]) rfl ⟨⟨_, _, _, by rw [HE.out, HF.out], HG.out⟩, ?_⟩
    exact bel_set3 (by omega) B1.out _ _ _
  obtain ⟨hz, hr⟩ := bothR_ok hk
  obtain ⟨rp, rh, rt⟩ := chkR_ok hr
  have hpl := place_ok rp rh
  have Rp := pageR_in rp
  have Rh := stepR_in rh
  have Rt := stepR_in rt
  have HL : Hid (lenR h t = 0 ↔ h = t) := lenR_zero Rh Rt
  rw [hk]
  go_wp2_with fail
  refine (length_any p h t _ Rh Rt).mono ?_
  rintro e w4 ⟨rfl, rfl⟩
  by_cases hl : lenR h t = 0
  · have he := HL.out.1 hl
    have HE : Hid (ppE zs p h t = 6) := by show _ = _; rw [ppE, if_pos hk, if_pos he]
    have HF : Hid (ppV zs p h t = 0) := if_neg (by rw [HE.out]; decide)
    have HG : Hid (ppR zs p h t = (0, 0, 0)) := if_neg (by rw [HE.out]; decide)
    clear he
    rw [hl]
    go_wp2
    refine bodyPost_ret (v := .tuple #[.int .i64 0, .agg #[.int .i64 0, .int .i64 0, .int .i64 0], .int .i64 6]) (by simp [results, Tryz.results86, go_sem, *]) rfl ⟨⟨_, _, _, by rw [HE.out, HF.out], HG.out⟩, ?_⟩
    (repeat (first | with_reducible exact B1.out | with_reducible refine bel_alloc ?_ _ | (with_reducible refine bel_set ?_ ?_ _; (focus (dsimp only; omega)))))
  have hne : ¬ h = t := fun e => hl (HL.out.2 e)
  have HE : Hid (ppE zs p h t = 0) := by show _ = _; rw [ppE, if_pos hk, if_neg hne]
  have HF : Hid (ppV zs p h t = nth zs (p * 8 + h).toNat) := if_pos HE.out
  have HG : Hid (ppR zs p h t = (p, (h + 1) % 8, t)) := if_pos HE.out
  have hq : (lenR h t == 0) = false := by simpa using hl
  clear hne
  have X0 := X0.past (ringB p h t)
  have X1 := X1.past (ringB p h t)
  have X3 := X3.past (ringB p h t)
  have B4 : Hid (Below w.heap.size w (w1.alloc (ringB p h t))) := bel_alloc B1.out _
  have hl512 : zs.length = 512 := (chk_ok hz).1
  obtain ⟨b, o, cap, he, hb, hc⟩ := (hs.keep B4.out).open512 hl512
  simp only [Value.slice.injEq] at he
  obtain ⟨rfl, hll, rfl⟩ := he
  obtain ⟨p0, p1⟩ := Rp
  obtain ⟨h0, h1⟩ := Rh
  have gk := hc (p * 8 + h).toNat (by omega)
  have k0 : 0 ≤ p * 8 + h := by omega
  have k1 : p * 8 + h < (zs.length : Int) := by omega
  clear q0 q1 q2 q3 z1 z2 z3 u0 u1 u2 g0 g1 g2 s0 s1 s3 hc B1
  obtain ⟨q0, -, s0⟩ := X0.one
  obtain ⟨q1, q2, q3, z1, z2, z3, s1⟩ := X1.three
  obtain ⟨u0, u1, u2, g0, g1, g2, s3⟩ := X3.three
  have HL5 : Hid (zs.length = 512) := hl512
  clear hl512 hll
  go_upto_region 6 with fail
  generalize w1.alloc (ringB p h t) = W at *
  go_cut [8] from 20 to 27 (fun s wx => s = .int .i64 (nth zs (p * 8 + h).toNat) ∧ Below W.heap.size W wx)
  case first =>
    go_region_held3 (fun w' => w'.cell? ⟨w.heap.size, 0, none⟩ = some (.slice (some ⟨b, o, none⟩) zs.length c0) ∧ w'.cell? ⟨w.heap.size + 1, 0, none⟩ = some (.int .i64 p) ∧ w'.cell? ⟨w.heap.size + 1, 1, none⟩ = some (.int .i64 h) ∧ w'.cell? ⟨w.heap.size + 1, 2, none⟩ = some (.int .i64 t) ∧ w'.cell? ⟨b, o + (p * 8 + h).toNat, none⟩ = some (.int .i64 (nth zs (p * 8 + h).toNat)) ∧ Below W.heap.size W w')
      (with_reducible refine keep32 (by assumption) (by assumption) (by assumption) (by assumption) (by assumption) (by assumption) (by assumption) (by assumption) ?_; (repeat (first | with_reducible assumption | (with_reducible (refine limbV (?_ : _ ∧ _ ∧ _ ∧ _ ∧ _ ∧ _); assumption)) | with_reducible exact Below.refl _ _ | with_reducible refine Below.drew ?_ | with_reducible refine bel_drewN ?_ _ | with_reducible refine bel_alloc ?_ _ | (with_reducible refine bel_set1 ?_ ?_ _; (focus (first | (simp; done) | (simp; omega) | omega))) | with_reducible refine bel_trans ?_ (by assumption))))
      (first
        | (go_at_call 116; refine (place_any p h t h _ ⟨p0, p1⟩ ⟨h0, h1⟩).mono ?_; rintro e w2 ⟨rfl, rfl⟩))
    all_goals (go_wp2_with fail; go_meet)
    exact ⟨rfl, Below.drew (bel_alloc (Below.refl _ _) _)⟩
  case rest =>
    obtain ⟨rfl, Bc⟩ := hcut
    have X1 := X1.keep Bc
    have X3 := X3.keep Bc
    have BC : Hid (Below w.heap.size w wc) := bel_trans B4.out Bc
    clear Bc B4 X0 q0 q1 q2 q3 z1 z2 z3 u0 u1 u2 g0 g1 g2 s0 s1 s3 gk hb
    obtain ⟨q1, q2, q3, z1, z2, z3, s1⟩ := X1.three
    obtain ⟨u0, u1, u2, g0, g1, g2, s3⟩ := X3.three
    generalize nth zs (p * 8 + h).toNat = y at *
    go_wp2_with fail
    refine (next_any h _ ⟨h0, h1⟩).mono ?_
    rintro e w5 ⟨rfl, rfl⟩
    go_wp2
    go_region
    go_wp2
    refine bodyPost_ret (v := .tuple #[.int .i64 y, .agg #[.int .i64 p, .int .i64 ((h + 1) % 8), .int .i64 t], .int .i64 0]) (by simp [results, Tryz.results86, go_sem, *]) rfl ⟨⟨_, _, _, by rw [HE.out, HF.out], HG.out⟩, ?_⟩
    refine Below.drew ?_
    (repeat (first | with_reducible exact BC.out | with_reducible refine bel_alloc ?_ _ | (with_reducible refine bel_set ?_ ?_ _; (focus (dsimp only; omega)))))
theorem pop_ok {v : Value} {zs : List Int} {p h t : Int} {w : World} (hs : Sl w v zs) (hz : chk zs = 0) (hr : chkR p h t = 0) (hne : ¬ h = t) :
    Calls Tryz.prog 86 #[.agg #[v], .agg #[.int .i64 p, .int .i64 h, .int .i64 t]] w fun e w' =>
      e = .returned (.tuple #[.int .i64 (nth zs (p * 8 + h).toNat), .agg #[.int .i64 p, .int .i64 ((h + 1) % 8), .int .i64 t], .int .i64 0]) ∧ Below w.heap.size w w' := by
  refine (pop_any v zs p h t w hs).mono ?_
  rintro e w' ⟨⟨p', h', t', rfl, hR⟩, hb⟩
  have e0 : ppE zs p h t = 0 := by rw [ppE, if_pos (bothR_mk hz hr), if_neg hne]
  rw [ppR, if_pos e0] at hR
  simp only [Prod.mk.injEq] at hR
  obtain ⟨rfl, rfl, rfl⟩ := hR
  rw [ppV, if_pos e0, e0]
  exact ⟨rfl, hb⟩
theorem pop_none {v : Value} {zs : List Int} {p h : Int} {w : World} (hs : Sl w v zs) (hz : chk zs = 0) (hr : chkR p h h = 0) :
    Calls Tryz.prog 86 #[.agg #[v], .agg #[.int .i64 p, .int .i64 h, .int .i64 h]] w fun e w' =>
      e = .returned (.tuple #[.int .i64 0, .agg #[.int .i64 0, .int .i64 0, .int .i64 0], .int .i64 6]) ∧ Below w.heap.size w w' := by
  refine (pop_any v zs p h h w hs).mono ?_
  rintro e w' ⟨⟨p', h', t', rfl, hR⟩, hb⟩
  have e0 : ppE zs p h h = 6 := by rw [ppE, if_pos (bothR_mk hz hr), if_pos rfl]
  rw [ppR, if_neg (by rw [e0]; decide)] at hR
  simp only [Prod.mk.injEq] at hR
  obtain ⟨rfl, rfl, rfl⟩ := hR
  rw [ppV, if_neg (by rw [e0]; decide), e0]
  exact ⟨rfl, hb⟩
theorem push_ok {v : Value} {zs : List Int} {p h t x : Int} {w : World} (hs : Sl w v zs) (hz : chk zs = 0) (hr : chkR p h t = 0) (hx : wordB x = true) (hl : ¬ lenR h t = 7) :
    Calls Tryz.prog 122 #[.agg #[v], .agg #[.int .i64 p, .int .i64 h, .int .i64 t], .int .i64 x] w fun e w' =>
      ∃ v', e = .returned (.tuple #[.agg #[v'], .agg #[.int .i64 p, .int .i64 h, .int .i64 ((t + 1) % 8)], .int .i64 0]) ∧ Sl w' v' (zs.set (p * 8 + t).toNat x) ∧ Fresh w.heap.size v' ∧ Below w.heap.size w w' := by
  refine (push_any v zs p h t x w hs).mono ?_
  rintro e w' ⟨⟨v', p', h', t', rfl, hS, hF, hR⟩, hb⟩
  have e0 : psE zs p h t x = 0 := by rw [psE, if_pos (bothR_mk hz hr), if_pos hx, if_neg hl]
  rw [psR, if_pos e0] at hR
  simp only [Prod.mk.injEq] at hR
  obtain ⟨rfl, rfl, rfl⟩ := hR
  rw [psM, if_pos e0] at hS
  rw [e0]
  exact ⟨v', rfl, hS, hF, hb⟩
theorem push_full {v : Value} {zs : List Int} {p h t x : Int} {w : World} (hs : Sl w v zs) (hz : chk zs = 0) (hr : chkR p h t = 0) (hx : wordB x = true) (hl : lenR h t = 7) :
    Calls Tryz.prog 122 #[.agg #[v], .agg #[.int .i64 p, .int .i64 h, .int .i64 t], .int .i64 x] w fun e w' =>
      ∃ a c, e = .returned (.tuple #[.agg #[.slice a 0 c], .agg #[.int .i64 0, .int .i64 0, .int .i64 0], .int .i64 1]) ∧ Below w.heap.size w w' := by
  refine (push_any v zs p h t x w hs).mono ?_
  rintro e w' ⟨⟨v', p', h', t', rfl, hS, hF, hR⟩, hb⟩
  have e0 : psE zs p h t x = 1 := by rw [psE, if_pos (bothR_mk hz hr), if_pos hx, if_pos hl]
  rw [psR, if_neg (by rw [e0]; decide)] at hR
  simp only [Prod.mk.injEq] at hR
  obtain ⟨rfl, rfl, rfl⟩ := hR
  rw [psM, if_neg (by rw [e0]; decide)] at hS
  obtain ⟨a, c, rfl⟩ := hS.shape
  rw [e0]
  exact ⟨a, c, rfl, hb⟩
end Go.Proofs.YtlgjllmecjkbjacGreat
/-
  What waits in a ring, as a list: numbers alone.
-/
namespace Go.Proofs.YtlgjllmecjkbjacGreat
open Go.RowKit
end Go.Proofs.YtlgjllmecjkbjacGreat
