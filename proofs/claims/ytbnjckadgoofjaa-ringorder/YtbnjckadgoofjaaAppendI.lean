/-
  append of numbers to a row of its own: what it gives, as an operation of a region, drawn or not.
-/
import Derived.Test.YtbnjckadgoofjaaPut
namespace Go.Proofs.Ytbnjckadgoofjaa
open Go.RowKit

/-- A slice with its room. -/
def Slc (w : World) (v : Value) (l : List Int) : Prop := Sl w v l ∧ ∃ a c, v = .slice a l.length c ∧ l.length ≤ c ∧ c ≤ maxLen

/-- A row of its own that holds these numbers. -/
def OwnI (w : World) (base : Nat) (v : Value) (l : List Int) : Prop := w.ownsRow base 3 1 v l.length (l.map (fun z => Value.int .i64 z))

theorem OwnI.nothing (w : World) (base : Nat) : OwnI w base (.slice none 0 0) [] := World.ownsRow_nil w base _ _
theorem OwnI.alloc {w : World} {base : Nat} {v : Value} {l : List Int} (h : OwnI w base v l) (o : Obj) : OwnI (w.alloc o) base v l := World.ownsRow.alloc h o
theorem OwnI.drew {w : World} {base : Nat} {v : Value} {l : List Int} (h : OwnI w base v l) : OwnI w.drew base v l := h
/-- A row's block lies where the base is, or behind; and it is there. -/
theorem OwnI.base {w : World} {base : Nat} {v : Value} {l : List Int} (h : OwnI w base v l) : ∀ k, v.ownBlock = some k → base ≤ k := fun k hk => (World.ownsRow.lt h k hk).1
theorem OwnI.lt {w : World} {base : Nat} {v : Value} {l : List Int} (h : OwnI w base v l) : ∀ k, v.ownBlock = some k → k < w.heap.size := fun k hk => (World.ownsRow.lt h k hk).2
theorem OwnI.sl {w : World} {base : Nat} {v : Value} {l : List Int} (h : OwnI w base v l) (hm : l.length ≤ maxLen) : Sl w v l := by
  have h' := h
  rcases h.2 with ⟨rfl, h0⟩ | ⟨g, cap, cur, rfl, hb, hg, hnc, hcm, hcs, htake⟩
  · obtain rfl : l = [] := List.eq_nil_of_length_eq_zero h0
    exact Sl.nil w _ _
  · exact sl_owned h' hm
theorem OwnI.shape {w : World} {base : Nat} {v : Value} {l : List Int} (h : OwnI w base v l) : ∃ a c, v = .slice a l.length c := by
  rcases h.2 with ⟨rfl, h0⟩ | ⟨g, cap, cur, rfl, hb, hg, hnc, hcm, hcs, htake⟩
  · obtain rfl : l = [] := List.eq_nil_of_length_eq_zero h0
    exact ⟨_, _, rfl⟩
  · exact ⟨_, _, rfl⟩
/-- A world in which the row's block stands as it was. -/
theorem OwnI.keep {w w' : World} {base : Nat} {v : Value} {l : List Int} (h : OwnI w base v l) (hb : ∀ k, v.ownBlock = some k → w'.heap[k]? = w.heap[k]?) : OwnI w' base v l := by
  obtain ⟨h1, h2⟩ := h
  refine ⟨h1, ?_⟩
  rcases h2 with h2 | ⟨g, cap, cur, rfl, hb0, hg, r⟩
  · exact .inl h2
  · exact .inr ⟨g, cap, cur, rfl, hb0, by rw [hb g (by simp [Value.ownBlock])]; exact hg, r⟩

theorem run_append_I (w : World) (ty : TypeId) (base : Nat) (v x : Value) (l1 l2 : List Int) (hown : OwnI w base v l1) (hx : Sl w x l2) (hn : l1.length + l2.length ≤ 1000) (hbase : base ≤ w.heap.size) (hne : l2 ≠ []) :
    ∃ g cap w', (Builtin.append_ #[24, 24] ty #[v, x]).run Try.prog w = .ok (.slice (some ⟨g, 0, none⟩) (l1 ++ l2).length cap) w' ∧ OwnI w' base (.slice (some ⟨g, 0, none⟩) (l1 ++ l2).length cap) (l1 ++ l2) ∧ w.grownBy w' v.ownBlock ∧ (v.ownBlock = some g ∨ g = w.heap.size) := by
  obtain ⟨i, hi, hz, hsz, hby⟩ := infoInt
  obtain ⟨a, cap, rfl, hl, h⟩ := hx
  rcases h with rfl | ⟨b, o, rfl, hb, hc⟩
  · exact absurd rfl hne
  · have hpos : 0 < l2.length := List.length_pos_iff.2 hne
    obtain ⟨g, c, w', hr, ho, hgr, hat, _⟩ := run_append_lies (P := Try.prog) w 24 ty base 3 i _ 1 8 Try.underlying24 hi hz hsz hby rfl (by omega) v l1.length (l1.map (fun z => Value.int .i64 z)) hown ⟨b, o, none⟩ l2.length cap (l2.map (fun z => Value.int .i64 z)) (by simp)
      (fun j u hu => by
        rw [List.getElem?_map] at hu
        by_cases hj : j < l2.length
        · rw [List.getElem?_eq_getElem hj] at hu
          simp only [Option.map_some, Option.some.injEq] at hu
          have ha : Addr.add ⟨b, o, none⟩ j = ⟨b, o + j, none⟩ := by unfold Addr.add; split <;> simp_all
          rw [ha, hc j hj, ← hu]
          simp [nth, hj]
        · rw [List.getElem?_eq_none (by omega)] at hu
          simp at hu)
      (fun u hu => by
        obtain ⟨z, _, rfl⟩ := List.mem_map.1 hu
        rfl) hpos (by unfold maxLen; omega) (by omega) hbase w.heap.size rfl
    refine ⟨g, c, w', ?_, ?_, hgr, hat⟩
    · rw [List.length_append]; exact hr
    · unfold OwnI; rw [List.length_append, List.map_append]; exact ho

theorem wp_append_I {w : World} {o : Oper} {a : Act} {K : Act → World → Prop} {Q : Exit → Act → World → Prop} (s x : Operand)
    (ho : o.op = .call { callee := .builtin .append, args := #[s, x], argTypes := #[24, 24] })
    (base : Nat) (v u : Value) (l1 l2 : List Int) (hs : a.eval s = v) (hu : a.eval x = u) (hown : OwnI w base v l1) (hx : Sl w u l2) (hn : l1.length + l2.length ≤ 1000) (hbase : base ≤ w.heap.size) (hne : l2 ≠ [])
    (h : ∀ g cap w', OwnI w' base (.slice (some ⟨g, 0, none⟩) (l1 ++ l2).length cap) (l1 ++ l2) → w.grownBy w' v.ownBlock → Below base w w' → (v.ownBlock = some g ∨ g = w.heap.size) → K (a.put o.dst (.slice (some ⟨g, 0, none⟩) (l1 ++ l2).length cap)) w') : o.wp Try.prog a w K Q := by
  obtain ⟨g, cap, w', hr, h2, h3, h4⟩ := run_append_I w o.type base v u l1 l2 hown hx hn hbase hne
  unfold Oper.wp execOp
  simp only [ho, resolve, invoke, builtin, Sem.run_bind, Sem.run_pure, Result.andThen_ok, List.map_toArray, List.map_cons, List.map_nil, hs, hu, hr]
  exact h g cap w' h2 h3 ((Below.refl base w).grown h3 hbase hown.base) h4

theorem wpList_append_I {w : World} {ops : Array Oper} {rest : List Oper} {o : Oper} {a : Act} {Q : Exit → Act → World → Prop} (hgd : o.guard = none) (s x : Operand)
    (ho : o.op = .call { callee := .builtin .append, args := #[s, x], argTypes := #[24, 24] })
    (base : Nat) (v u : Value) (l1 l2 : List Int) (hs : a.eval s = v) (hu : a.eval x = u) (hown : OwnI w base v l1) (hx : Sl w u l2) (hn : l1.length + l2.length ≤ 1000) (hbase : base ≤ w.heap.size) (hne : l2 ≠ [])
    (h : ∀ g cap w', OwnI w' base (.slice (some ⟨g, 0, none⟩) (l1 ++ l2).length cap) (l1 ++ l2) → w.grownBy w' v.ownBlock → Below base w w' → (v.ownBlock = some g ∨ g = w.heap.size) → wpList Try.prog ops Q rest (a.put o.dst (.slice (some ⟨g, 0, none⟩) (l1 ++ l2).length cap)) w') :
    wpList Try.prog ops Q (o :: rest) a w :=
  wpList_plain hgd fun _ hK => wp_append_I s x ho base v u l1 l2 hs hu hown hx hn hbase hne fun g cap w' h2 h3 hb h4 => hK _ _ (h g cap w' h2 h3 hb h4)

theorem step_append_I {w : World} {ops : Array Oper} {o : Oper} {a : Act} {K : Act → World → Prop} {Q : Exit → Act → World → Prop} {E : Prop} (hgd : o.guard = none) (s x : Operand)
    (ho : o.op = .call { callee := .builtin .append, args := #[s, x], argTypes := #[24, 24] })
    (base : Nat) (v u : Value) (l1 l2 : List Int) (hs : a.eval s = v) (hu : a.eval x = u) (hown : OwnI w base v l1) (hx : Sl w u l2) (hn : l1.length + l2.length ≤ 1000) (hbase : base ≤ w.heap.size) (hne : l2 ≠ [])
    (h : ∀ g cap w', OwnI w' base (.slice (some ⟨g, 0, none⟩) (l1 ++ l2).length cap) (l1 ++ l2) → w.grownBy w' v.ownBlock → Below base w w' → (v.ownBlock = some g ∨ g = w.heap.size) → K (a.put o.dst (.slice (some ⟨g, 0, none⟩) (l1 ++ l2).length cap)) w') :
    if Region.wanted o (yielded ops a.tmps) = true then Oper.wp Try.prog o a w K Q else E := by
  have hw : Region.wanted o (yielded ops a.tmps) = true := by simp [Region.wanted, hgd]
  rw [if_pos hw]
  exact wp_append_I s x ho base v u l1 l2 hs hu hown hx hn hbase hne h

/-- A number in a block of its own, as a slice. -/
theorem sl_oneAt {w : World} {n : Nat} (h : n = w.heap.size) (z : Int) (fr : Nat × Nat) : Sl (w.alloc (.cells #[.int .i64 z] 3 fr)) (.slice (some ⟨n, 0, none⟩) 1 1) [z] :=
  sl_block (heap_at h) rfl rfl (by simp [maxLen])
/-- What an append leaves of other slices. -/
theorem Sl.grown {w w' : World} {v : Value} {l : List Int} {row : Option Nat} (h : Sl w v l) (hg : w.grownBy w' row) (hne : ∀ k, v.ownBlock = some k → row ≠ some k) : Sl w' v l := by
  obtain ⟨a', cap', rfl, hl, h⟩ := h
  refine ⟨a', cap', rfl, hl, ?_⟩
  rcases h with h | ⟨b, o, rfl, hb, hc⟩
  · exact .inl h
  · have hblk := hg.block b hb (fun e => hne b (by simp [Value.ownBlock]) e.symm)
    refine .inr ⟨b, o, rfl, Nat.lt_of_lt_of_le hb hg.size, fun i hi => ?_⟩
    rw [World.cell?_of_block (a := ⟨b, o + i, none⟩) hblk]
    exact hc i hi
end Go.Proofs.Ytbnjckadgoofjaa
