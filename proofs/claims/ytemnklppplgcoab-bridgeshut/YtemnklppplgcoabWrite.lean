/-
  Package mem: what Write answers: new memory, as the old one but for the word; nothing that was there turns.
-/
import Derived.Test.YtemnklppplgcoabMem2
import Derived.Laws.CopyOwn
namespace Go.Proofs.Ytemnklppplgcoab
open Go.RowKit

/-- What Write answers: the words, the error. -/
def wrE (zs : List Int) (k x : Int) : Int := if chk zs = 0 then (if placeB k = true then (if wordB x = true then 0 else 2) else 4) else chk zs
def wrM (zs : List Int) (k x : Int) : List Int := if chk zs = 0 ∧ placeB k = true ∧ wordB x = true then zs.set k.toNat x else []

/-- The cells of a row of numbers: a plain name, so that the walk's own rules leave it standing. -/
def intCells (zs : List Int) : Array Value := (zs.map (fun z => Value.int .i64 z)).toArray
theorem intCells_list (zs : List Int) : (intCells zs).toList = zs.map (fun z => Value.int .i64 z) := by simp [intCells]
theorem intCells_size (zs : List Int) : (intCells zs).size = zs.length := by simp [intCells]
theorem intCells_at {zs : List Int} {i : Nat} (h : i < zs.length) : (intCells zs)[i]? = some (.int .i64 (nth zs i)) := by
  simp [intCells, nth, h]
theorem intCells_set (zs : List Int) (i : Nat) (x : Int) : (intCells zs).setIfInBounds i (.int .i64 x) = intCells (zs.set i x) := by
  simp [intCells, List.map_set]

/-- Its memory is new: it lies behind what was there. -/
def Fresh (base : Nat) (v : Value) : Prop := ∀ k, v.ownBlock = some k → base ≤ k
theorem Fresh.mono {a b : Nat} {v : Value} (h : Fresh b v) (k : a ≤ b) : Fresh a v := fun n hn => Nat.le_trans k (h n hn)
theorem Fresh.none (base n c : Nat) : Fresh base (.slice none n c) := fun k hk => by simp [Value.ownBlock] at hk
theorem Fresh.ne {base n : Nat} {v : Value} (h : Fresh base v) (k : n < base) : v.ownBlock ≠ some n := fun e => absurd (h n e) (by omega)

/-- copy fills a row of its own. -/
theorem copy_full (w : World) (b o cap g : Nat) (zs : List Int) (cur : Array Value) (hn : zs.length = 512) (hg : w.heap[g]? = some (.cells cur 3 (0, 0))) (hcur : cur.size = 512)
    (hc : ∀ i, i < 512 → w.cell? ⟨b, o + i, none⟩ = some (.int .i64 (nth zs i))) :
    ∃ w3, (Builtin.copy_ #[37, 37] 3 #[.slice (some ⟨g, 0, none⟩) 512 512, .slice (some ⟨b, o, none⟩) 512 cap]).run Try.prog w = .ok (.int .i64 512) w3 ∧ w3.heap[g]? = some (.cells (intCells zs) 3 (0, 0)) ∧
      (∀ k, k ≠ g → w3.heap[k]? = w.heap[k]?) ∧ w3.heap.size = w.heap.size ∧ Below g w w3 := by
  have hl : (zs.map (fun z => Value.int .i64 z)).length = 512 := by simp [hn]
  have h := run_copy_row (P := Try.prog) w 37 37 3 3 g 0 512 512 ⟨b, o, none⟩ 512 cap cur 3 (zs.map (fun z => Value.int .i64 z)) Try.underlying37 (by kernel_rfl) hg (by rw [hl]; rfl)
    (fun j v hv => by
      rw [List.getElem?_map] at hv
      by_cases hj : j < 512
      · rw [List.getElem?_eq_getElem (by omega)] at hv
        simp only [Option.map_some, Option.some.injEq] at hv
        have := hc j hj
        rw [← hv]
        have ha : Addr.add ⟨b, o, none⟩ j = ⟨b, o + j, none⟩ := by unfold Addr.add; split <;> simp_all
        rw [ha, this]
        simp [nth, hn, hj]
      · rw [List.getElem?_eq_none (by omega)] at hv
        simp at hv) (by rw [hl]; omega) (by
      intro v hv
      obtain ⟨z, _, rfl⟩ := List.mem_map.1 hv
      rfl)
  have hd : List.drop (0 + 512) cur.toList = [] := List.drop_of_length_le (by simp [hcur])
  rw [hl, hd, List.take_zero, List.nil_append, List.append_nil] at h
  exact ⟨_, h, setRow_heap w g _ _ _ _ hg, fun k hk => setRow_other w g k _ hk, by simp [World.setRow], ⟨rfl, rfl, rfl, by simp [World.setRow], fun k hk => setRow_other w g k _ (by omega)⟩⟩

set_option maxHeartbeats 1000000 in
theorem write_okN (v : Value) (zs : List Int) (k x : Int) (w : World) (h : Sl w v zs) (hk : chk zs = 0) (hp : placeB k = true) (hx : wordB x = true) :
    Calls Try.prog 88 #[.agg #[v], .int .i64 k, .int .i64 x] w fun e w' => ∃ v', e = .returned (.tuple #[.agg #[v'], .int .i64 0]) ∧ Sl w' v' (zs.set k.toNat x) ∧ Fresh w.heap.size v' ∧ Below w.heap.size w w' := by
  obtain ⟨hn, _⟩ := chk_ok hk
  have hp' := hp
  simp only [placeB, decide_eq_true_eq] at hp'
  obtain ⟨p0, p1⟩ := hp'
  obtain ⟨b, o, cap, rfl, hb, hc⟩ := h.open512 hn
  have HC : Hid (∀ i, i < 512 → w.cell? ⟨b, o + i, none⟩ = some (.int .i64 (nth zs i))) := hc
  have HN : Hid (zs.length = 512) := hn
  clear hc hn
  go_enter Try.func88, Try.ntmps88
  go_wp2_with fail
  refine (check_any _ zs _ ?_).mono ?_
  · exact h.keep (bel_alloc (bel_alloc (Below.refl _ _) _) _)
  rintro e w1 ⟨rfl, hb1⟩
  obtain ⟨hc1, hf1⟩ := bcell hb1
  have hs1 : w.heap.size + 1 < w1.heap.size := by have := hb1.size; simp at this; omega
  go_wp2_with (first | (go_at_call 103; refine (isPlace_any _ _).mono ?_; rintro e w' ⟨rfl, rfl⟩) | (go_at_call 67; refine (isWord_any _ _).mono ?_; rintro e w' ⟨rfl, rfl⟩))
  refine (new_own _).mono ?_
  rintro e w2 ⟨g, rfl, hg2, hge, hb2⟩
  obtain ⟨hc2, hf2⟩ := bcell hb2
  have hs2 := hb2.size
  have z2 : w.heap.size < w2.heap.size := by omega
  have z3 : w.heap.size + 1 < w2.heap.size := by omega
  have q0 : w2.cell? ⟨w.heap.size, 0, none⟩ = some (.slice (some ⟨b, o, none⟩) 512 cap) := by rw [hc2 _ _ (by omega), hc1 _ _ (by simp; omega)]; simp [go_sem]
  have q1 : w2.cell? ⟨w.heap.size + 1, 0, none⟩ = some (.slice none 0 0) := by rw [hc2 _ _ (by omega), hc1 _ _ (by simp)]; simp [go_sem]
  have q2 : w2.frozen? ⟨w.heap.size + 1, 0, none⟩ = false := by rw [hf2 _ _ (by omega), hf1 _ _ (by simp)]; simp [go_sem]
  have HB2 : Hid (Below w.heap.size w w2) := bel_trans (bel_trans (bel_alloc (bel_alloc (Below.refl _ _) _) _) hb1) hb2
  clear hc1 hf1 hc2 hf2 hb1 hb2
  have hg2' := Array.getElem?_eq_some_iff.1 hg2
  obtain ⟨hglt, _⟩ := hg2'
  obtain ⟨w3, hrun, hg3, ho3, hs3, hb3⟩ := copy_full (w2.alloc (.cells #[.slice (some ⟨g, 0, none⟩) 512 512] 39)) b o cap g zs zeroCells HN.out (heap_past hglt hg2) (by simp [zeroCells, size_madeCells]) (fun i hi => by
    rw [World.cell?_alloc_past _ _ _ (by omega), HB2.out.cell (p := ⟨b, o + i, none⟩) hb]; exact HC.out i hi)
  have r0 : w3.cell? ⟨w2.heap.size, 0, none⟩ = some (.slice (some ⟨g, 0, none⟩) 512 512) := by
    rw [World.cell?_of_block (a := ⟨w2.heap.size, 0, none⟩) (ho3 w2.heap.size (by omega))]; simp [go_sem]
  have r1 : w3.cell? ⟨w.heap.size + 1, 0, none⟩ = some (.slice none 0 0) := by
    rw [World.cell?_of_block (a := ⟨w.heap.size + 1, 0, none⟩) (ho3 (w.heap.size + 1) (by omega)), World.cell?_alloc_past _ _ _ z3]; exact q1
  have r2 : w3.frozen? ⟨w.heap.size + 1, 0, none⟩ = false := by
    rw [World.frozen?_of_block (a := ⟨w.heap.size + 1, 0, none⟩) (ho3 (w.heap.size + 1) (by omega)), World.frozen?_alloc_past _ _ _ z3]; exact q2
  have r3 : w3.cell? ⟨g, k.toNat, none⟩ = some (.int .i64 (nth zs k.toNat)) := by
    rw [cell_of_row w3 g _ _ _ _ hg3, intCells_at (by have := HN.out; omega)]
  have r4 : w3.frozen? ⟨g, k.toNat, none⟩ = false := frozen_of_row w3 g _ _ _ hg3
  have n1 : ¬ g = w2.heap.size := by omega
  have n2 : ¬ g = w.heap.size + 1 := by omega
  have HG3 : Hid _ := hg3
  have HB3 : Hid (Below w.heap.size w w3) := (bel_alloc HB2.out _).trans (hb3.mono (by omega))
  clear ho3 hb3 hg3 hg2
  go_wp2_with fail
  refine bodyPost_ret (v := .tuple #[.agg #[.slice (some ⟨g, 0, none⟩) 512 512], .int .i64 0]) (by simp [results, Try.results88, go_sem, *]) rfl ⟨_, rfl, ?_, fun k hk => by simp [Value.ownBlock] at hk; omega, ?_⟩
  · refine sl_block (cs := intCells (zs.set k.toNat x)) (t := 3) (fr := (0, 0)) ?_ (intCells_list _) (by rw [List.length_set]; exact HN.out.symm) (by rw [List.length_set, HN.out]; simp [maxLen])
    rw [heap_setCell_other _ _ _ _ n2, heap_setCell_same _ _ _ _ _ _ HG3.out, intCells_set]
  · exact (HB3.out.setCell (p := ⟨g, k.toNat, none⟩) (by show w.heap.size ≤ g; omega) _).setCell (p := ⟨w.heap.size + 1, 0, none⟩) (by show w.heap.size ≤ w.heap.size + 1; omega) _

set_option maxHeartbeats 1000000 in
theorem write_err (v : Value) (zs : List Int) (k x : Int) (w : World) (h : Sl w v zs) (hw : ¬ (chk zs = 0 ∧ placeB k = true ∧ wordB x = true)) :
    Calls Try.prog 88 #[.agg #[v], .int .i64 k, .int .i64 x] w fun e w' => e = .returned (.tuple #[.agg #[.slice none 0 0], .int .i64 (wrE zs k x)]) ∧ Below w.heap.size w w' := by
  by_cases hk : chk zs = 0
  · by_cases hp : placeB k = true
    · have hx : wordB x = false := by
        cases hh : wordB x
        · rfl
        · exact absurd ⟨hk, hp, hh⟩ hw
      rw [show wrE zs k x = 2 by simp [wrE, hk, hp, hx]]
      clear hw
      go_enter Try.func88, Try.ntmps88
      go_wp2_with fail
      refine (check_any _ zs _ ?_).mono ?_
      · exact h.keep (bel_alloc (bel_alloc (Below.refl _ _) _) _)
      rintro e w1 ⟨rfl, hb1⟩
      obtain ⟨hc1, hf1⟩ := bcell hb1
      have hs1 : w.heap.size + 1 < w1.heap.size := by have := hb1.size; simp at this; omega
      go_wp2_with (first | (go_at_call 103; refine (isPlace_any _ _).mono ?_; rintro e w' ⟨rfl, rfl⟩) | (go_at_call 67; refine (isWord_any _ _).mono ?_; rintro e w' ⟨rfl, rfl⟩))
      refine bodyPost_ret (v := .tuple #[.agg #[.slice none 0 0], .int .i64 2]) (by simp [results, Try.results88, go_sem, *]) rfl ⟨rfl, ?_⟩
      exact (bel_trans (bel_alloc (bel_alloc (Below.refl _ _) _) _) hb1).setCell (by show w.heap.size ≤ w.heap.size + 1; omega) _
    · have hp' : placeB k = false := by simpa using hp
      rw [show wrE zs k x = 4 by simp [wrE, hk, hp']]
      clear hw hp
      go_enter Try.func88, Try.ntmps88
      go_wp2_with fail
      refine (check_any _ zs _ ?_).mono ?_
      · exact h.keep (bel_alloc (bel_alloc (Below.refl _ _) _) _)
      rintro e w1 ⟨rfl, hb1⟩
      obtain ⟨hc1, hf1⟩ := bcell hb1
      have hs1 : w.heap.size + 1 < w1.heap.size := by have := hb1.size; simp at this; omega
      go_wp2_with (first | (go_at_call 103; refine (isPlace_any _ _).mono ?_; rintro e w' ⟨rfl, rfl⟩) | (go_at_call 67; refine (isWord_any _ _).mono ?_; rintro e w' ⟨rfl, rfl⟩))
      refine bodyPost_ret (v := .tuple #[.agg #[.slice none 0 0], .int .i64 4]) (by simp [results, Try.results88, go_sem, *]) rfl ⟨rfl, ?_⟩
      exact (bel_trans (bel_alloc (bel_alloc (Below.refl _ _) _) _) hb1).setCell (by show w.heap.size ≤ w.heap.size + 1; omega) _
  · have hk' : (chk zs != 0) = true := by simpa using hk
    rw [show wrE zs k x = chk zs by simp [wrE, hk]]
    clear hw hk
    go_enter Try.func88, Try.ntmps88
    go_wp2_with fail
    refine (check_any _ zs _ ?_).mono ?_
    · exact h.keep (bel_alloc (bel_alloc (Below.refl _ _) _) _)
    rintro e w1 ⟨rfl, hb1⟩
    obtain ⟨hc1, hf1⟩ := bcell hb1
    have hs1 : w.heap.size + 1 < w1.heap.size := by have := hb1.size; simp at this; omega
    go_wp2
    refine bodyPost_ret (v := .tuple #[.agg #[.slice none 0 0], .int .i64 (chk zs)]) (by simp [results, Try.results88, go_sem, *]) rfl ⟨rfl, ?_⟩
    exact (bel_trans (bel_alloc (bel_alloc (Below.refl _ _) _) _) hb1).setCell (by show w.heap.size ≤ w.heap.size + 1; omega) _

theorem write_anyN (v : Value) (zs : List Int) (k x : Int) (w : World) (h : Sl w v zs) :
    Calls Try.prog 88 #[.agg #[v], .int .i64 k, .int .i64 x] w fun e w' => ∃ v', e = .returned (.tuple #[.agg #[v'], .int .i64 (wrE zs k x)]) ∧ Sl w' v' (wrM zs k x) ∧ Fresh w.heap.size v' ∧ Below w.heap.size w w' := by
  by_cases hw : chk zs = 0 ∧ placeB k = true ∧ wordB x = true
  · refine (write_okN v zs k x w h hw.1 hw.2.1 hw.2.2).mono fun e w' ⟨v', he, hs, hf, hb⟩ => ⟨v', ?_, ?_, hf, hb⟩
    · rw [he, show wrE zs k x = 0 by simp [wrE, hw.1, hw.2.1, hw.2.2]]
    · rw [show wrM zs k x = zs.set k.toNat x by rw [wrM, if_pos hw]]; exact hs
  · refine (write_err v zs k x w h hw).mono fun e w' ⟨he, hb⟩ => ⟨_, he, ?_, Fresh.none _ _ _, hb⟩
    rw [show wrM zs k x = [] by rw [wrM, if_neg hw]]; exact Sl.nil _ _ _
theorem write_any (v : Value) (zs : List Int) (k x : Int) (w : World) (h : Sl w v zs) :
    Calls Try.prog 88 #[.agg #[v], .int .i64 k, .int .i64 x] w fun e w' => ∃ v', e = .returned (.tuple #[.agg #[v'], .int .i64 (wrE zs k x)]) ∧ Sl w' v' (wrM zs k x) ∧ Below w.heap.size w w' :=
  (write_anyN v zs k x w h).mono fun _ _ ⟨v', he, hs, _, hb⟩ => ⟨v', he, hs, hb⟩
theorem write_ok (v : Value) (zs : List Int) (k x : Int) (w : World) (h : Sl w v zs) (hk : chk zs = 0) (hp : placeB k = true) (hx : wordB x = true) :
    Calls Try.prog 88 #[.agg #[v], .int .i64 k, .int .i64 x] w fun e w' => ∃ v', e = .returned (.tuple #[.agg #[v'], .int .i64 0]) ∧ Sl w' v' (zs.set k.toNat x) ∧ Below w.heap.size w w' :=
  (write_okN v zs k x w h hk hp hx).mono fun _ _ ⟨v', he, hs, _, hb⟩ => ⟨v', he, hs, hb⟩
end Go.Proofs.Ytemnklppplgcoab
