/-
  Laid together: AppendI, Upto.
-/
import Derived.Test.YtefcdcneenjbgabT10
import Derived.Deep.RegionHeld
/-
  append of numbers to a row of its own: what it gives, as an operation of a region, drawn or not.
-/
namespace Go.Proofs.Ytefcdcneenjbgab
open Go.RowKit

/-- A slice with its room. -/
def Slc (w : World) (v : Value) (l : List Int) : Prop := Sl w v l ∧ ∃ a c, v = .slice a l.length c ∧ l.length ≤ c ∧ c ≤ maxLen

/-- A row of its own that holds these numbers. -/
def OwnI (w : World) (base : Nat) (v : Value) (l : List Int) : Prop := w.ownsRow base 3 1 v l.length (l.map (fun z => Value.int .i64 z))

theorem OwnI.nothing (w : World) (base : Nat) : OwnI w base (.slice none 0 0) [] := World.ownsRow_nil w base _ _
theorem OwnI.alloc {w : World} {base : Nat} {v : Value} {l : List Int} (h : OwnI w base v l) (o : Obj) : OwnI (w.alloc o) base v l := World.ownsRow.alloc h o
theorem OwnI.drew {w : World} {base : Nat} {v : Value} {l : List Int} (h : OwnI w base v l) : OwnI w.drew base v l := h
/-- A row's block lies where the base is, or behind; and it is there. -/
theorem OwnI.base {w : World} {base : Nat} {v : Value} {l : List Int} (h : OwnI w base v l) : ∀ k, v.ownBlock = some k → base ≤ k := fun k hk => (World.ownsRow.lt h k hk).1
theorem OwnI.lt {w : World} {base : Nat} {v : Value} {l : List Int} (h : OwnI w base v l) : ∀ k, v.ownBlock = some k → k < w.heap.size := fun k hk => (World.ownsRow.lt h k hk).2
theorem OwnI.sl {w : World} {base : Nat} {v : Value} {l : List Int} (h : OwnI w base v l) (hm : l.length ≤ maxLen) : Sl w v l := by
  have h' := h
  rcases h.2 with ⟨rfl, h0⟩ | ⟨g, cap, cur, rfl, hb, hg, hnc, hcm, hcs, htake⟩
  · obtain rfl : l = [] := List.eq_nil_of_length_eq_zero h0
    exact Sl.nil w _ _
  · exact sl_owned h' hm
theorem OwnI.shape {w : World} {base : Nat} {v : Value} {l : List Int} (h : OwnI w base v l) : ∃ a c, v = .slice a l.length c := by
  rcases h.2 with ⟨rfl, h0⟩ | ⟨g, cap, cur, rfl, hb, hg, hnc, hcm, hcs, htake⟩
  · obtain rfl : l = [] := List.eq_nil_of_length_eq_zero h0
    exact ⟨_, _, rfl⟩
  · exact ⟨_, _, rfl⟩
/-- A world in which the row's block stands as it was. -/
theorem OwnI.keep {w w' : World} {base : Nat} {v : Value} {l : List Int} (h : OwnI w base v l) (hb : ∀ k, v.ownBlock = some k → w'.heap[k]? = w.heap[k]?) : OwnI w' base v l := by
  obtain ⟨h1, h2⟩ := h
  refine ⟨h1, ?_⟩
  rcases h2 with h2 | ⟨g, cap, cur, rfl, hb0, hg, r⟩
  · exact .inl h2
  · exact .inr ⟨g, cap, cur, rfl, hb0, by rw [hb g (by simp [Value.ownBlock])]; exact hg, r⟩

theorem run_append_I (w : World) (ty : TypeId) (base : Nat) (v x : Value) (l1 l2 : List Int) (hown : OwnI w base v l1) (hx : Sl w x l2) (hn : l1.length + l2.length ≤ 1000) (hbase : base ≤ w.heap.size) (hne : l2 ≠ []) :
    ∃ g cap w', (Builtin.append_ #[37, 37] ty #[v, x]).run Try.prog w = .ok (.slice (some ⟨g, 0, none⟩) (l1 ++ l2).length cap) w' ∧ OwnI w' base (.slice (some ⟨g, 0, none⟩) (l1 ++ l2).length cap) (l1 ++ l2) ∧ w.grownBy w' v.ownBlock ∧ (v.ownBlock = some g ∨ g = w.heap.size) := by
  obtain ⟨i, hi, hz, hsz, hby⟩ := infoInt
  obtain ⟨a, cap, rfl, hl, h⟩ := hx
  rcases h with rfl | ⟨b, o, rfl, hb, hc⟩
  · exact absurd rfl hne
  · have hpos : 0 < l2.length := List.length_pos_iff.2 hne
    obtain ⟨g, c, w', hr, ho, hgr, hat, _⟩ := run_append_lies (P := Try.prog) w 37 ty base 3 i _ 1 8 Try.underlying37 hi hz hsz hby rfl (by omega) v l1.length (l1.map (fun z => Value.int .i64 z)) hown ⟨b, o, none⟩ l2.length cap (l2.map (fun z => Value.int .i64 z)) (by simp)
      (fun j u hu => by
        rw [List.getElem?_map] at hu
        by_cases hj : j < l2.length
        · rw [List.getElem?_eq_getElem hj] at hu
          simp only [Option.map_some, Option.some.injEq] at hu
          have ha : Addr.add ⟨b, o, none⟩ j = ⟨b, o + j, none⟩ := by unfold Addr.add; split <;> simp_all
          rw [ha, hc j hj, ← hu]
          simp [nth, hj]
        · rw [List.getElem?_eq_none (by omega)] at hu
          simp at hu)
      (fun u hu => by
        obtain ⟨z, _, rfl⟩ := List.mem_map.1 hu
        rfl) hpos (by unfold maxLen; omega) (by omega) hbase w.heap.size rfl
    refine ⟨g, c, w', ?_, ?_, hgr, hat⟩
    · rw [List.length_append]; exact hr
    · unfold OwnI; rw [List.length_append, List.map_append]; exact ho

theorem wp_append_I {w : World} {o : Oper} {a : Act} {K : Act → World → Prop} {Q : Exit → Act → World → Prop} (s x : Operand)
    (ho : o.op = .call { callee := .builtin .append, args := #[s, x], argTypes := #[37, 37] })
    (base : Nat) (v u : Value) (l1 l2 : List Int) (hs : a.eval s = v) (hu : a.eval x = u) (hown : OwnI w base v l1) (hx : Sl w u l2) (hn : l1.length + l2.length ≤ 1000) (hbase : base ≤ w.heap.size) (hne : l2 ≠ [])
    (h : ∀ g cap w', OwnI w' base (.slice (some ⟨g, 0, none⟩) (l1 ++ l2).length cap) (l1 ++ l2) → w.grownBy w' v.ownBlock → Below base w w' → (v.ownBlock = some g ∨ g = w.heap.size) → K (a.put o.dst (.slice (some ⟨g, 0, none⟩) (l1 ++ l2).length cap)) w') : o.wp Try.prog a w K Q := by
  obtain ⟨g, cap, w', hr, h2, h3, h4⟩ := run_append_I w o.type base v u l1 l2 hown hx hn hbase hne
  unfold Oper.wp execOp
  simp only [ho, resolve, invoke, builtin, Sem.run_bind, Sem.run_pure, Result.andThen_ok, List.map_toArray, List.map_cons, List.map_nil, hs, hu, hr]
  exact h g cap w' h2 h3 ((Below.refl base w).grown h3 hbase hown.base) h4

theorem wpList_append_I {w : World} {ops : Array Oper} {rest : List Oper} {o : Oper} {a : Act} {Q : Exit → Act → World → Prop} (hgd : o.guard = none) (s x : Operand)
    (ho : o.op = .call { callee := .builtin .append, args := #[s, x], argTypes := #[37, 37] })
    (base : Nat) (v u : Value) (l1 l2 : List Int) (hs : a.eval s = v) (hu : a.eval x = u) (hown : OwnI w base v l1) (hx : Sl w u l2) (hn : l1.length + l2.length ≤ 1000) (hbase : base ≤ w.heap.size) (hne : l2 ≠ [])
    (h : ∀ g cap w', OwnI w' base (.slice (some ⟨g, 0, none⟩) (l1 ++ l2).length cap) (l1 ++ l2) → w.grownBy w' v.ownBlock → Below base w w' → (v.ownBlock = some g ∨ g = w.heap.size) → wpList Try.prog ops Q rest (a.put o.dst (.slice (some ⟨g, 0, none⟩) (l1 ++ l2).length cap)) w') :
    wpList Try.prog ops Q (o :: rest) a w :=
  wpList_plain hgd fun _ hK => wp_append_I s x ho base v u l1 l2 hs hu hown hx hn hbase hne fun g cap w' h2 h3 hb h4 => hK _ _ (h g cap w' h2 h3 hb h4)

theorem step_append_I {w : World} {ops : Array Oper} {o : Oper} {a : Act} {K : Act → World → Prop} {Q : Exit → Act → World → Prop} {E : Prop} (hgd : o.guard = none) (s x : Operand)
    (ho : o.op = .call { callee := .builtin .append, args := #[s, x], argTypes := #[37, 37] })
    (base : Nat) (v u : Value) (l1 l2 : List Int) (hs : a.eval s = v) (hu : a.eval x = u) (hown : OwnI w base v l1) (hx : Sl w u l2) (hn : l1.length + l2.length ≤ 1000) (hbase : base ≤ w.heap.size) (hne : l2 ≠ [])
    (h : ∀ g cap w', OwnI w' base (.slice (some ⟨g, 0, none⟩) (l1 ++ l2).length cap) (l1 ++ l2) → w.grownBy w' v.ownBlock → Below base w w' → (v.ownBlock = some g ∨ g = w.heap.size) → K (a.put o.dst (.slice (some ⟨g, 0, none⟩) (l1 ++ l2).length cap)) w') :
    if Region.wanted o (yielded ops a.tmps) = true then Oper.wp Try.prog o a w K Q else E := by
  have hw : Region.wanted o (yielded ops a.tmps) = true := by simp [Region.wanted, hgd]
  rw [if_pos hw]
  exact wp_append_I s x ho base v u l1 l2 hs hu hown hx hn hbase hne h

/-- A number in a block of its own, as a slice. -/
theorem sl_oneAt {w : World} {n : Nat} (h : n = w.heap.size) (z : Int) (fr : Nat × Nat) : Sl (w.alloc (.cells #[.int .i64 z] 3 fr)) (.slice (some ⟨n, 0, none⟩) 1 1) [z] :=
  sl_block (heap_at h) rfl rfl (by simp [maxLen])
/-- What an append leaves of other slices. -/
theorem Sl.grown {w w' : World} {v : Value} {l : List Int} {row : Option Nat} (h : Sl w v l) (hg : w.grownBy w' row) (hne : ∀ k, v.ownBlock = some k → row ≠ some k) : Sl w' v l := by
  obtain ⟨a', cap', rfl, hl, h⟩ := h
  refine ⟨a', cap', rfl, hl, ?_⟩
  rcases h with h | ⟨b, o, rfl, hb, hc⟩
  · exact .inl h
  · have hblk := hg.block b hb (fun e => hne b (by simp [Value.ownBlock]) e.symm)
    refine .inr ⟨b, o, rfl, Nat.lt_of_lt_of_le hb hg.size, fun i hi => ?_⟩
    rw [World.cell?_of_block (a := ⟨b, o + i, none⟩) hblk]
    exact hc i hi
end Go.Proofs.Ytefcdcneenjbgab
/-
  A drawn region whose last operation writes a cell that the region reads: what holds of the world is asked for behind every operation but that one, which waits for all that is taken first.
-/
namespace Go.Proofs.Ytefcdcneenjbgab
open Go Go.RowKit

section
variable {P : Program} {ops : Array Oper} {Q : Exit → Act → World → Prop} {md : Region.Mode} {S : World → Prop} {z : Nat}

/-- Whatever order is picked; S holds behind every operation but number z. -/
def wpUpto (P : Program) (md : Region.Mode) (ops : Array Oper) (Q : Exit → Act → World → Prop) (S : World → Prop) (z : Nat) : Nat → Array Bool → Act → World → Prop
  | 0, listed, a, w => Region.ready md ops listed = [] ∧ Q .normal a w
  | n + 1, listed, a, w => (Region.ready md ops listed = [] → Q .normal a w) ∧
      ∀ i ∈ Region.ready md ops listed, wpOp P ops Q i (fun a' w' => (i ≠ z → S w') ∧ wpUpto P md ops Q S z n (listed.setIfInBounds i true) a' w') a w

theorem wpAny_of_upto : ∀ (n : Nat) (listed : Array Bool) (a : Act) (w : World), wpUpto P md ops Q S z n listed a w → wpAny P md ops Q n listed a w
  | 0, _, _, _, h => h
  | n + 1, _, _, _, h => ⟨h.1, fun i hi => wpOp_mono (fun a' w' h' => wpAny_of_upto n _ a' w' h'.2) (h.2 i hi)⟩

/-- Operation z waits for operation i. -/
def waits (md : Region.Mode) (ops : Array Oper) (z i : Nat) : Bool := match ops[z]? with
  | some o => o.after.any (fun e => Region.binds md e && e.on == i)
  | none => true

theorem waits_spec {i : Nat} (h : waits md ops z i = true) {listed : Array Bool} (hz : z ∈ Region.ready md ops listed) : listed.getD i false = true := by
  obtain ⟨_, o, ho, hall⟩ := mem_ready.1 hz
  unfold waits at h
  rw [ho] at h
  simp only [Array.any_eq_true] at h
  obtain ⟨j, hj, he⟩ := h
  rw [Bool.and_eq_true, beq_iff_eq] at he
  have := hall _ (Array.getElem_mem hj) he.1
  rw [he.2] at this
  exact this

theorem wpUpto_first {i : Nat} {oi : Oper} {v : Value} (hi : ops[i]? = some oi) (hsel : ∀ (j : Nat) (o : Oper) cs b, ops[j]? = some o → o.op ≠ .select cs b) (hwt : waits md ops z i = true)
    (hQ : ∀ c a w, Q (.panic c) (a.put oi.dst v) w → Q (.panic c) a w) :
    ∀ (n : Nat) (listed : Array Bool) (a : Act) (w : World),
      (∀ j oj, ops[j]? = some oj → j ≠ i → listed.getD j true = false → (∀ e ∈ oj.after, Region.binds md e = true → e.on ≠ i) → oi.apart ops oj = true) →
      i ∈ Region.ready md ops listed → YieldsIf P ops S oi v a → S w →
      wpUpto P md ops Q S z n (listed.setIfInBounds i true) (a.put oi.dst v) w → wpUpto P md ops Q S z (n + 1) listed a w := by
  intro n
  induction n with
  | zero =>
    intro listed a w _ hr hy hS H
    refine ⟨fun h => (by rw [h] at hr; cases hr), fun j hj => ?_⟩
    by_cases e : j = i
    · subst e; exact hy.wpOp hi hS ⟨fun _ => hS, H⟩
    · have := ready_mono hj e
      rw [H.1] at this
      cases this
  | succ n ih =>
    intro listed a w hfree hr hy hS H
    refine ⟨fun h => (by rw [h] at hr; cases hr), fun j hj => ?_⟩
    by_cases e : j = i
    · subst e; exact hy.wpOp hi hS ⟨fun _ => hS, H⟩
    · have hun : listed.getD i true = false := (mem_ready.1 hr).1
      have hjz : j ≠ z := by
        rintro rfl
        have h1 := waits_spec hwt hj
        rcases Nat.lt_or_ge i listed.size with h' | h'
        · simp [h'] at hun h1; rw [hun] at h1; cases h1
        · simp [Array.getElem?_eq_none h'] at h1
      obtain ⟨hjun, oj, hoj, hall⟩ := mem_ready.1 hj
      have hnot : ∀ e ∈ oj.after, Region.binds md e = true → e.on ≠ i := fun e he hb heq => by
        have h1 := hall e he hb
        rw [heq] at h1
        rcases Nat.lt_or_ge i listed.size with h' | h'
        · simp [h'] at hun h1; rw [hun] at h1; cases h1
        · simp [Array.getElem?_eq_none h'] at h1
      have h2 := wpOp_putIf hoj (hfree j oj hoj e hjun hnot) (fun cs b => hsel i oi cs b hi) (fun cs b => hsel j oj cs b hoj) hQ hy (H.2 j (ready_mono hj e))
      refine wpOp_mono (fun a' w' h3 => ⟨fun _ => h3.2.1 hjz, ih (listed.setIfInBounds j true) a' w' (fun q oq hq hqi hqu hno => ?_) (ready_mono hr (Ne.symm e)) h3.1 (h3.2.1 hjz) ?_⟩) h2
      · refine hfree q oq hq hqi ?_ hno
        by_cases hjq : j = q
        · subst hjq; exact hjun
        · rw [getD_set_ne true hjq] at hqu; exact hqu
      · rw [Array.setIfInBounds_comm _ _ e]
        exact h3.2.2

/-- Take number i first. -/
theorem wpUpto_take {i : Nat} {oi : Oper} {v : Value} {n : Nat} {listed : Array Bool} {a : Act} {w : World} (hi : ops[i]? = some oi)
    (hs : Region.noSelect ops = true) (hf : Region.free md ops listed i = true) (hr : (Region.ready md ops listed).contains i = true) (hwt : waits md ops z i = true)
    (hQ : ∀ c a w, Q (.panic c) (a.put oi.dst v) w → Q (.panic c) a w) (hy : YieldsIf P ops S oi v a) (hS : S w)
    (h : wpUpto P md ops Q S z n (listed.setIfInBounds i true) (a.put oi.dst v) w) : wpUpto P md ops Q S z (n + 1) listed a w :=
  wpUpto_first hi (Region.noSelect_spec hs) hwt hQ n listed a w (Region.free_spec hi hf) (by simpa using hr) hy hS h
/-- The one that may come up, comes up. -/
theorem wpUpto_one {i : Nat} {o : Oper} {n : Nat} {listed : Array Bool} {a : Act} {w : World} (hr : Region.ready md ops listed = [i]) (ho : ops[i]? = some o)
    (h : ∀ K' : Act → World → Prop, Shut (∀ a w, (i ≠ z → S w) → wpUpto P md ops Q S z n (listed.setIfInBounds i true) a w → K' a w) → if Region.wanted o (yielded ops a.tmps) = true then Oper.wp P o a w K' Q else K' (a.put o.dst undef) w) :
    wpUpto P md ops Q S z (n + 1) listed a w := by
  refine ⟨fun h0 => absurd (hr ▸ h0) (by simp), fun j hj => ?_⟩
  rw [hr, List.mem_singleton] at hj
  subst hj
  exact wpOp_step ho (fun K' hK => h K' (fun a w h1 h2 => hK a w ⟨h1, h2⟩))
theorem wpUpto_done {listed : Array Bool} {a : Act} {w : World} (hr : Region.ready md ops listed = []) (h : Q .normal a w) : ∀ n, wpUpto P md ops Q S z n listed a w
  | 0 => ⟨hr, h⟩
  | _ + 1 => ⟨fun _ => h, fun i hi => by rw [hr] at hi; cases hi⟩
theorem wp_region_upto {id : Nat} {a : Act} {w : World} (hm : P.follows .mixedOrders = true) (z : Nat) (S : World → Prop) (hS : S w.drew)
    (h : S w.drew → wpUpto P .any ops Q S z ops.size (Array.replicate ops.size false) a w.drew) : (Code.region id ops true).wp P Q a w :=
  wp_region_any hm (wpAny_of_upto _ _ _ _ (h hS))
/-- The operation at a place, laid open by itself. -/
def opL : List Oper → Nat → Option Oper
  | [], _ => none
  | o :: _, 0 => some o
  | _ :: l, n + 1 => opL l n
theorem opL_at : ∀ (l : List Oper) (i : Nat), opL l i = l[i]?
  | [], _ => rfl
  | _ :: _, 0 => rfl
  | _ :: l, n + 1 => by rw [opL, opL_at l n, List.getElem?_cons_succ]
theorem opL_spec {i : Nat} {o : Oper} (h : opL ops.toList i = some o) : ops[i]? = some o := by rw [← Array.getElem?_toList, ← opL_at]; exact h
theorem wpUpto_takeL {i : Nat} {oi : Oper} {v : Value} {n : Nat} {listed : Array Bool} {a : Act} {w : World} (hi : opL ops.toList i = some oi)
    (hs : Region.noSelect ops = true) (hf : Region.free md ops listed i = true) (hr : (Region.ready md ops listed).contains i = true) (hwt : waits md ops z i = true)
    (hQ : ∀ c a w, Q (.panic c) (a.put oi.dst v) w → Q (.panic c) a w) (hy : YieldsIf P ops S oi v a) (hS : S w)
    (h : wpUpto P md ops Q S z n (listed.setIfInBounds i true) (a.put oi.dst v) w) : wpUpto P md ops Q S z (n + 1) listed a w := wpUpto_take (opL_spec hi) hs hf hr hwt hQ hy hS h
theorem wpUpto_oneL {i : Nat} {o : Oper} {n : Nat} {listed : Array Bool} {a : Act} {w : World} (hr : Region.ready md ops listed = [i]) (ho : opL ops.toList i = some o)
    (h : ∀ K' : Act → World → Prop, Shut (∀ a w, (i ≠ z → S w) → wpUpto P md ops Q S z n (listed.setIfInBounds i true) a w → K' a w) → if Region.wanted o (yielded ops a.tmps) = true then Oper.wp P o a w K' Q else K' (a.put o.dst undef) w) :
    wpUpto P md ops Q S z (n + 1) listed a w := wpUpto_one hr (opL_spec ho) h
/-- The same for a region whose cells none of its operations writes. -/
theorem wpHeld_takeL {i : Nat} {oi : Oper} {v : Value} {n : Nat} {listed : Array Bool} {a : Act} {w : World} (hi : opL ops.toList i = some oi)
    (hs : Region.noSelect ops = true) (hf : Region.free md ops listed i = true) (hr : (Region.ready md ops listed).contains i = true)
    (hQ : ∀ c a w, Q (.panic c) (a.put oi.dst v) w → Q (.panic c) a w) (hy : YieldsIf P ops S oi v a) (hS : S w)
    (h : wpAnyH P md ops Q S n (listed.setIfInBounds i true) (a.put oi.dst v) w) : wpAnyH P md ops Q S (n + 1) listed a w := wpAnyH_take (opL_spec hi) hs hf hr hQ hy hS h
theorem wpHeld_oneL {i : Nat} {o : Oper} {n : Nat} {listed : Array Bool} {a : Act} {w : World} (hr : Region.ready md ops listed = [i]) (ho : opL ops.toList i = some o)
    (h : ∀ K' : Act → World → Prop, Shut (∀ a w, S w → (S w → wpAnyH P md ops Q S n (listed.setIfInBounds i true) a w) → K' a w) → if Region.wanted o (yielded ops a.tmps) = true then Oper.wp P o a w K' Q else K' (a.put o.dst undef) w) :
    wpAnyH P md ops Q S (n + 1) listed a w := wpAnyH_ready hr (by simp) (AllReadyH.cons (opL_spec ho) h AllReadyH.nil)
end
end Go.Proofs.Ytefcdcneenjbgab
