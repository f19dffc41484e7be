/-
  drawbridgeref's Put and drawbridgelaw's at: what they answer; nothing that was there turns.
-/
import Derived.Test.YtemnklppplgcoabWrite
import Derived.Deep.AppendLies
namespace Go.Proofs.Ytemnklppplgcoab
open Go.RowKit

theorem lit_row (w : World) (base : Nat) (h : base ≤ w.heap.size) : (w.alloc (.cells #[] 3)).ownsRow base 3 1 (.slice (some ⟨w.heap.size, 0, none⟩) 0 0) 0 [] :=
  World.ownsRow_lit (base := base) (e := 3) (size := 1) w #[] 0 h (by simp [maxLen]) rfl

/-- append of numbers to an empty row of its own. -/
theorem wpList_append_new {w : World} {ops : Array Oper} {rest : List Oper} {o : Oper} {a : Act} {Q : Exit → Act → World → Prop} (hgd : o.guard = none) (s x : Operand)
    (ho : o.op = .call { callee := .builtin .append, args := #[s, x], argTypes := #[37, 37] }) (base : Nat) (v : Value) (hs : a.eval s = v) (hown : w.ownsRow base 3 1 v 0 [])
    (b off c : Nat) (zs : List Int) (hx : a.eval x = .slice (some ⟨b, off, none⟩) 512 c) (hn : zs.length = 512) (hc : ∀ i, i < 512 → w.cell? ⟨b, off + i, none⟩ = some (.int .i64 (nth zs i))) (hbase : base ≤ w.heap.size)
    (h : ∀ g cap w', w'.ownsRow base 3 1 (.slice (some ⟨g, 0, none⟩) 512 cap) 512 (zs.map (fun z => Value.int .i64 z)) → w.grownBy w' v.ownBlock → (v.ownBlock = some g ∨ g = w.heap.size) → g < w'.heap.size → wpList Try.prog ops Q rest (a.put o.dst (.slice (some ⟨g, 0, none⟩) 512 cap)) w') :
    wpList Try.prog ops Q (o :: rest) a w := by
  obtain ⟨i, hi, hz, hsz, hby⟩ := infoInt
  have hl : (zs.map (fun z => Value.int .i64 z)).length = 512 := by simp [hn]
  refine wpList_append_lies w hgd s x 37 ho base 3 i _ 1 8 Try.underlying37 hi hz hsz hby rfl (by omega) v 0 [] hs hown ⟨b, off, none⟩ 512 c (zs.map (fun z => Value.int .i64 z)) hx (by rw [hl]) (fun j u hu => ?_) (fun u hu => ?_) (by omega) (by simp [maxLen]) (by omega) hbase w.heap.size rfl ?_
  · rw [List.getElem?_map] at hu
    by_cases hj : j < 512
    · rw [List.getElem?_eq_getElem (by omega)] at hu
      simp only [Option.map_some, Option.some.injEq] at hu
      have ha : Addr.add ⟨b, off, none⟩ j = ⟨b, off + j, none⟩ := by unfold Addr.add; split <;> simp_all
      rw [ha, hc j hj, ← hu]
      simp [nth, hn, hj]
    · rw [List.getElem?_eq_none (by omega)] at hu
      simp at hu
  · obtain ⟨z, _, rfl⟩ := List.mem_map.1 hu
    rfl
  · simpa using h

/-- A row of its own that holds numbers reads as them. -/
theorem sl_owned {w : World} {base g cap n : Nat} {zs : List Int} (h : w.ownsRow base 3 1 (.slice (some ⟨g, 0, none⟩) n cap) n (zs.map (fun z => Value.int .i64 z))) (hm : zs.length ≤ maxLen) : Sl w (.slice (some ⟨g, 0, none⟩) n cap) zs := by
  have hl := h.1
  simp at hl
  subst hl
  refine ⟨_, cap, rfl, hm, .inr ⟨g, 0, rfl, (h.lt g rfl).2, fun i hi => ?_⟩⟩
  rw [Nat.zero_add, h.cellAt i (by omega), List.getElem?_map, List.getElem?_eq_getElem hi]
  simp [nth, hi]

theorem Sl.setOther {w : World} {v : Value} {zs : List Int} (h : Sl w v zs) {p : Addr} (hp : v.ownBlock ≠ some p.block) (u : Value) : Sl (w.setCell p u) v zs := by
  obtain ⟨a, cap, rfl, hl, h⟩ := h
  refine ⟨a, cap, rfl, hl, ?_⟩
  rcases h with h | ⟨b, o, rfl, hlt, hc⟩
  · exact .inl h
  · have hne : b ≠ p.block := fun e => hp (by simp [Value.ownBlock, e])
    refine .inr ⟨b, o, rfl, by simpa [World.setCell] using hlt, fun i hi => ?_⟩
    rw [World.cell?_of_block (a := ⟨b, o + i, none⟩) (heap_setCell_other w p b u hne)]
    exact hc i hi

set_option maxHeartbeats 1000000 in
theorem put_okN (v : Value) (zs : List Int) (k x : Int) (w : World) (h : Sl w v zs) (hn : zs.length = 512) (p0 : 0 ≤ k) (p1 : k < 512) :
    Calls Try.prog 89 #[.agg #[v], .int .i64 k, .int .i64 x] w fun e w' => ∃ v', e = .returned (.agg #[v']) ∧ Sl w' v' (zs.set k.toNat x) ∧ Fresh w.heap.size v' ∧ Below w.heap.size w w' := by
  obtain ⟨b, o, cap, rfl, hb, hc⟩ := h.open512 hn
  have HC : Hid (∀ i, i < 512 → w.cell? ⟨b, o + i, none⟩ = some (.int .i64 (nth zs i))) := hc
  have HN : Hid (zs.length = 512) := hn
  clear hc hn
  have HW : ∀ A B : Obj, (((w.alloc A).alloc B).alloc (.cells #[] 3)).ownsRow (w.heap.size + 1 + 1) 3 1 (.slice (some ⟨w.heap.size + 1 + 1, 0, none⟩) 0 0) 0 [] := fun A B => by
    have := lit_row ((w.alloc A).alloc B) (w.heap.size + 1 + 1) (by simp)
    simpa using this
  have H1 : Hid _ := HW
  clear HW
  go_enter Try.func89, Try.ntmps89
  go_wp2_with (at_builtin; refine wpList_append_new rfl (.tmp 8) (.tmp 10) rfl (w.heap.size + 1 + 1) _ rfl (H1.out _ _) b o cap zs rfl HN.out ?hc ?hbase ?hrest)
  case hbase => simp
  case hc =>
    intro i hi
    rw [World.cell?_alloc_past _ _ _ (by simp; omega), World.cell?_alloc_past _ _ _ (by simp; omega), World.cell?_alloc_past _ _ _ (by omega)]
    exact HC.out i hi
  case hrest =>
    intro g cap' w3 hown hgr hat hlt
    have hgb := (hown.lt g rfl).1
    have r3 : w3.cell? ⟨g, k.toNat, none⟩ = some (.int .i64 (nth zs k.toNat)) := by
      rw [hown.cellAt k.toNat (by omega), List.getElem?_map, getElem?_nth (by have := HN.out; omega)]
      rfl
    have r4 : w3.frozen? ⟨g, k.toNat, none⟩ = false := hown.frozenAt k.toNat
    have hgs : w.heap.size + 1 + 1 + 1 ≤ w3.heap.size := by have := hgr.size; simpa using this
    have r1 : w3.cell? ⟨w.heap.size + 1, 0, none⟩ = some (.slice none 0 0) := by
      rw [World.cell?_of_block (a := ⟨w.heap.size + 1, 0, none⟩) (hgr.block (w.heap.size + 1) (by simp) (by simp [Value.ownBlock]))]
      simp [go_sem]
    have r2 : w3.frozen? ⟨w.heap.size + 1, 0, none⟩ = false := by
      rw [World.frozen?_of_block (a := ⟨w.heap.size + 1, 0, none⟩) (hgr.block (w.heap.size + 1) (by simp) (by simp [Value.ownBlock]))]
      simp [go_sem]
    have HB3 : Hid (Below w.heap.size w w3) := (bel_alloc (bel_alloc (bel_alloc (Below.refl _ _) _) _) _).grown hgr (by simp; omega) (fun k hk => by simp [Value.ownBlock] at hk; omega)
    have HO : Hid _ := hown
    have n2 : ¬ g = w.heap.size + 1 := by omega
    clear hown hgr hat
    go_wp2
    refine bodyPost_ret (v := .agg #[.slice (some ⟨g, 0, none⟩) 512 cap']) (by simp [results, Try.results89, go_sem, *]) rfl ⟨_, rfl, ?_, fun k hk => by simp [Value.ownBlock] at hk; omega, ?_⟩
    · have hst := (World.ownsRow.stored HO.out k.toNat (.int .i64 x)).1
      rw [← List.map_set] at hst
      exact (sl_owned hst (by rw [List.length_set, HN.out]; simp [maxLen])).setOther (by simp [Value.ownBlock]; omega) _
    · exact (HB3.out.setCell (p := ⟨g, k.toNat, none⟩) (by show w.heap.size ≤ g; omega) _).setCell (p := ⟨w.heap.size + 1, 0, none⟩) (by show w.heap.size ≤ w.heap.size + 1; omega) _

theorem put_ok (v : Value) (zs : List Int) (k x : Int) (w : World) (h : Sl w v zs) (hn : zs.length = 512) (p0 : 0 ≤ k) (p1 : k < 512) :
    Calls Try.prog 89 #[.agg #[v], .int .i64 k, .int .i64 x] w fun e w' => ∃ v', e = .returned (.agg #[v']) ∧ Sl w' v' (zs.set k.toNat x) ∧ Below w.heap.size w w' :=
  (put_okN v zs k x w h hn p0 p1).mono fun _ _ ⟨v', he, hs, _, hb⟩ => ⟨v', he, hs, hb⟩

/-- at: a number brought within bounds. -/
theorem at_any (k : Int) (w : World) :
    Calls Try.prog 34 #[.int .i64 k, .int .i64 512] w fun e w' => e = .returned (.int .i64 (k % 512)) ∧ w' = w := by
  have b1 : -512 < k.tmod 512 := Int.lt_tmod_of_pos k (by decide)
  have b2 : k.tmod 512 < 512 := Int.tmod_lt_of_pos k (by decide)
  have HM : Hid (k.tmod 512 = k - 512 * k.tdiv 512) := Int.tmod_def k 512
  by_cases h : k.tmod 512 < 0
  · go_enter Try.func34, Try.ntmps34
    go_wp2
    go_ret
    exact ⟨ret_int (by have := HM.out; omega), rfl⟩
  · go_enter Try.func34, Try.ntmps34
    go_wp2
    go_ret
    exact ⟨ret_int (by have := HM.out; omega), rfl⟩
end Go.Proofs.Ytemnklppplgcoab
