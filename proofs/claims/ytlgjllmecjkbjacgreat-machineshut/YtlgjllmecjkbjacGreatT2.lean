/-
  Laid together: Write, Put, Stored, KeepsWalk, Walk2, WithA, With, At, WalkMath, CacheMath, Lines, Is, FindC, CheckC.
-/
import Derived.Test.YtlgjllmecjkbjacGreatT1
import Derived.Laws.CopyOwn
import Derived.Deep.AppendLies
import Derived.Deep.RegionHeld3
/-
  Package mem: what Write answers: new memory, as the old one but for the word; nothing that was there turns.
-/
namespace Go.Proofs.YtlgjllmecjkbjacGreat
open Go.RowKit
def wrE (zs : List Int) (k x : Int) : Int := if chk zs = 0 then (if placeB k = true then (if wordB x = true then 0 else 2) else 4) else chk zs
def wrM (zs : List Int) (k x : Int) : List Int := if chk zs = 0 ∧ placeB k = true ∧ wordB x = true then zs.set k.toNat x else []
def intCells (zs : List Int) : Array Value := (zs.map (fun z => Value.int .i64 z)).toArray
theorem intCells_list (zs : List Int) : (intCells zs).toList = zs.map (fun z => Value.int .i64 z) := by simp [intCells]
theorem intCells_at {zs : List Int} {i : Nat} (h : i < zs.length) : (intCells zs)[i]? = some (.int .i64 (nth zs i)) := by
  simp [intCells, nth, h]
theorem intCells_set (zs : List Int) (i : Nat) (x : Int) : (intCells zs).setIfInBounds i (.int .i64 x) = intCells (zs.set i x) := by
  simp [intCells, List.map_set]
theorem copy_full (w : World) (b o cap g : Nat) (zs : List Int) (cur : Array Value) (hn : zs.length = 512) (hg : w.heap[g]? = some (.cells cur 3 (0, 0))) (hcur : cur.size = 512)
    (hc : ∀ i, i < 512 → w.cell? ⟨b, o + i, none⟩ = some (.int .i64 (nth zs i))) :
    ∃ w3, (Builtin.copy_ #[22, 22] 3 #[.slice (some ⟨g, 0, none⟩) 512 512, .slice (some ⟨b, o, none⟩) 512 cap]).run Tryz.prog w = .ok (.int .i64 512) w3 ∧ w3.heap[g]? = some (.cells (intCells zs) 3 (0, 0)) ∧
      (∀ k, k ≠ g → w3.heap[k]? = w.heap[k]?) ∧ w3.heap.size = w.heap.size ∧ Below g w w3 := by
  have hl : (zs.map (fun z => Value.int .i64 z)).length = 512 := by simp [hn]
  have h := run_copy_row (P := Tryz.prog) w 22 22 3 3 g 0 512 512 ⟨b, o, none⟩ 512 cap cur 3 (zs.map (fun z => Value.int .i64 z)) Tryz.underlying22 (by kernel_rfl) hg (by rw [hl]; rfl)
    (fun j v hv => by
      rw [List.getElem?_map] at hv
      by_cases hj : j < 512
      · rw [List.getElem?_eq_getElem (by omega)] at hv
        simp only [Option.map_some, Option.some.injEq] at hv
        have := hc j hj
        rw [← hv]
        have ha : Addr.add ⟨b, o, none⟩ j = ⟨b, o + j, none⟩ := by unfold Addr.add; split <;> simp_all
        rw [ha, this]
        simp [nth, hn, hj]
      · rw [List.getElem?_eq_none (by omega)] at hv
        simp at hv) (by rw [hl]; omega) (by
      intro v hv
      obtain ⟨z, _, rfl⟩ := List.mem_map.1 hv
      rfl)
  have hd : List.drop (0 + 512) cur.toList = [] := List.drop_of_length_le (by simp [hcur])
  rw [hl, hd, List.take_zero, List.nil_append, List.append_nil] at h
  exact ⟨_, h, setRow_heap w g _ _ _ _ hg, fun k hk => setRow_other w g k _ hk, by simp [World.setRow], ⟨rfl, rfl, rfl, by simp [World.setRow], fun k hk => setRow_other w g k _ (by omega)⟩⟩
set_option maxHeartbeats 1000000 in
theorem write_okN (v : Value) (zs : List Int) (k x : Int) (w : World) (h : Sl w v zs) (hk : chk zs = 0) (hp : placeB k = true) (hx : wordB x = true) :
    Calls Tryz.prog 153 #[.agg #[v], .int .i64 k, .int .i64 x] w fun e w' => ∃ v', e = .returned (.tuple #[.agg #[v'], .int .i64 0]) ∧ Sl w' v' (zs.set k.toNat x) ∧ Fresh w.heap.size v' ∧ Below w.heap.size w w' := by
  obtain ⟨hn, _⟩ := chk_ok hk
  have hp' := hp
  simp only [placeB, decide_eq_true_eq] at hp'
  obtain ⟨p0, p1⟩ := hp'
  obtain ⟨b, o, cap, rfl, hb, hc⟩ := h.open512 hn
  have HC : Hid (∀ i, i < 512 → w.cell? ⟨b, o + i, none⟩ = some (.int .i64 (nth zs i))) := hc
  have HN : Hid (zs.length = 512) := hn
  clear hc hn
  go_enter Tryz.func153, Tryz.ntmps153
  go_wp2_with fail
  refine (check_any _ zs _ ?_).mono ?_
  · exact h.keep (bel_alloc (bel_alloc (Below.refl _ _) _) _)
  rintro e w1 ⟨rfl, hb1⟩
  obtain ⟨hc1, hf1⟩ := bcell hb1
  have hs1 : w.heap.size + 1 < w1.heap.size := by have := hb1.size; simp at this; omega
  go_wp2_with (first | (go_at_call 163; refine (isPlace_any _ _).mono ?_; rintro e w' ⟨rfl, rfl⟩) | (go_at_call 63; refine (isWord_any _ _).mono ?_; rintro e w' ⟨rfl, rfl⟩))
  refine (new_own _).mono ?_
  rintro e w2 ⟨g, rfl, hg2, hge, hb2⟩
  obtain ⟨hc2, hf2⟩ := bcell hb2
  have hs2 := hb2.size
  have z2 : w.heap.size < w2.heap.size := by omega
  have z3 : w.heap.size + 1 < w2.heap.size := by omega
  have q0 : w2.cell? ⟨w.heap.size, 0, none⟩ = some (.slice (some ⟨b, o, none⟩) 512 cap) := by rw [hc2 _ _ (by omega), hc1 _ _ (by simp; omega)]; simp [go_sem]
  have q1 : w2.cell? ⟨w.heap.size + 1, 0, none⟩ = some (.slice none 0 0) := by rw [hc2 _ _ (by omega), hc1 _ _ (by simp)]; simp [go_sem]
  have q2 : w2.frozen? ⟨w.heap.size + 1, 0, none⟩ = false := by rw [hf2 _ _ (by omega), hf1 _ _ (by simp)]; simp [go_sem]
  have HB2 : Hid (Below w.heap.size w w2) := bel_trans (bel_trans (bel_alloc (bel_alloc (Below.refl _ _) _) _) hb1) hb2
  clear hc1 hf1 hc2 hf2 hb1 hb2
  have hg2' := Array.getElem?_eq_some_iff.1 hg2
  obtain ⟨hglt, _⟩ := hg2'
  obtain ⟨w3, hrun, hg3, ho3, hs3, hb3⟩ := copy_full (w2.alloc (.cells #[.slice (some ⟨g, 0, none⟩) 512 512] 24)) b o cap g zs zeroCells HN.out (heap_past hglt hg2) (by simp [zeroCells, size_madeCells]) (fun i hi => by
    rw [World.cell?_alloc_past _ _ _ (by omega), HB2.out.cell (p := ⟨b, o + i, none⟩) hb]; exact HC.out i hi)
  have r0 : w3.cell? ⟨w2.heap.size, 0, none⟩ = some (.slice (some ⟨g, 0, none⟩) 512 512) := by
    rw [World.cell?_of_block (a := ⟨w2.heap.size, 0, none⟩) (ho3 w2.heap.size (by omega))]; simp [go_sem]
  have r1 : w3.cell? ⟨w.heap.size + 1, 0, none⟩ = some (.slice none 0 0) := by
    rw [World.cell?_of_block (a := ⟨w.heap.size + 1, 0, none⟩) (ho3 (w.heap.size + 1) (by omega)), World.cell?_alloc_past _ _ _ z3]; exact q1
  have r2 : w3.frozen? ⟨w.heap.size + 1, 0, none⟩ = false := by
    rw [World.frozen?_of_block (a := ⟨w.heap.size + 1, 0, none⟩) (ho3 (w.heap.size + 1) (by omega)), World.frozen?_alloc_past _ _ _ z3]; exact q2
  have r3 : w3.cell? ⟨g, k.toNat, none⟩ = some (.int .i64 (nth zs k.toNat)) := by
    rw [cell_of_row w3 g _ _ _ _ hg3, intCells_at (by have := HN.out; omega)]
  have r4 : w3.frozen? ⟨g, k.toNat, none⟩ = false := frozen_of_row w3 g _ _ _ hg3
  have n1 : ¬ g = w2.heap.size := by omega
  have n2 : ¬ g = w.heap.size + 1 := by omega
  have HG3 : Hid _ := hg3
  have HB3 : Hid (Below w.heap.size w w3) := (bel_alloc HB2.out _).trans (hb3.mono (by omega))
  clear ho3 hb3 hg3 hg2
  go_wp2_with fail
  refine bodyPost_ret (v := .tuple #[.agg #[.slice (some ⟨g, 0, none⟩) 512 512], .int .i64 0]) (by simp [results, Tryz.results153, go_sem, *]) rfl ⟨_, rfl, ?_, fun k hk => by simp [Value.ownBlock] at hk; omega, ?_⟩
  · refine sl_block (cs := intCells (zs.set k.toNat x)) (t := 3) (fr := (0, 0)) ?_ (intCells_list _) (by rw [List.length_set]; exact HN.out.symm) (by rw [List.length_set, HN.out]; simp [maxLen])
    rw [heap_setCell_other _ _ _ _ n2, heap_setCell_same _ _ _ _ _ _ HG3.out, intCells_set]
  · exact (HB3.out.setCell (p := ⟨g, k.toNat, none⟩) (by show w.heap.size ≤ g; omega) _).setCell (p := ⟨w.heap.size + 1, 0, none⟩) (by show w.heap.size ≤ w.heap.size + 1; omega) _
set_option maxHeartbeats 1000000 in
theorem write_err (v : Value) (zs : List Int) (k x : Int) (w : World) (h : Sl w v zs) (hw : ¬ (chk zs = 0 ∧ placeB k = true ∧ wordB x = true)) :
    Calls Tryz.prog 153 #[.agg #[v], .int .i64 k, .int .i64 x] w fun e w' => e = .returned (.tuple #[.agg #[.slice none 0 0], .int .i64 (wrE zs k x)]) ∧ Below w.heap.size w w' := by
  by_cases hk : chk zs = 0
  · by_cases hp : placeB k = true
    · have hx : wordB x = false := by
        cases hh : wordB x
        · rfl
        · exact absurd ⟨hk, hp, hh⟩ hw
      rw [show wrE zs k x = 2 by simp [wrE, hk, hp, hx]]
      clear hw
      go_enter Tryz.func153, Tryz.ntmps153
      go_wp2_with fail
      refine (check_any _ zs _ ?_).mono ?_
      · exact h.keep (bel_alloc (bel_alloc (Below.refl _ _) _) _)
      rintro e w1 ⟨rfl, hb1⟩
      obtain ⟨hc1, hf1⟩ := bcell hb1
      have hs1 : w.heap.size + 1 < w1.heap.size := by have := hb1.size; simp at this; omega
      go_wp2_with (first | (go_at_call 163; refine (isPlace_any _ _).mono ?_; rintro e w' ⟨rfl, rfl⟩) | (go_at_call 63; refine (isWord_any _ _).mono ?_; rintro e w' ⟨rfl, rfl⟩))
      refine bodyPost_ret (v := .tuple #[.agg #[.slice none 0 0], .int .i64 2]) (by simp [results, Tryz.results153, go_sem, *]) rfl ⟨rfl, ?_⟩
      exact (bel_trans (bel_alloc (bel_alloc (Below.refl _ _) _) _) hb1).setCell (by show w.heap.size ≤ w.heap.size + 1; omega) _
    · have hp' : placeB k = false := by simpa using hp
      rw [show wrE zs k x = 4 by simp [wrE, hk, hp']]
      clear hw hp
      go_enter Tryz.func153, Tryz.ntmps153
      go_wp2_with fail
      refine (check_any _ zs _ ?_).mono ?_
      · exact h.keep (bel_alloc (bel_alloc (Below.refl _ _) _) _)
      rintro e w1 ⟨rfl, hb1⟩
      obtain ⟨hc1, hf1⟩ := bcell hb1
      have hs1 : w.heap.size + 1 < w1.heap.size := by have := hb1.size; simp at this; omega
      go_wp2_with (first | (go_at_call 163; refine (isPlace_any _ _).mono ?_; rintro e w' ⟨rfl, rfl⟩) | (go_at_call 63; refine (isWord_any _ _).mono ?_; rintro e w' ⟨rfl, rfl⟩))
      refine bodyPost_ret (v := .tuple #[.agg #[.slice none 0 0], .int .i64 4]) (by simp [results, Tryz.results153, go_sem, *]) rfl ⟨rfl, ?_⟩
      exact (bel_trans (bel_alloc (bel_alloc (Below.refl _ _) _) _) hb1).setCell (by show w.heap.size ≤ w.heap.size + 1; omega) _
  · have hk' : (chk zs != 0) = true := by simpa using hk
    rw [show wrE zs k x = chk zs by simp [wrE, hk]]
    clear hw hk
    go_enter Tryz.func153, Tryz.ntmps153
    go_wp2_with fail
    refine (check_any _ zs _ ?_).mono ?_
    · exact h.keep (bel_alloc (bel_alloc (Below.refl _ _) _) _)
    rintro e w1 ⟨rfl, hb1⟩
    obtain ⟨hc1, hf1⟩ := bcell hb1
    have hs1 : w.heap.size + 1 < w1.heap.size := by have := hb1.size; simp at this; omega
    go_wp2
    refine bodyPost_ret (v := .tuple #[.agg #[.slice none 0 0], .int .i64 (chk zs)]) (by simp [results, Tryz.results153, go_sem, *]) rfl ⟨rfl, ?_⟩
    exact (bel_trans (bel_alloc (bel_alloc (Below.refl _ _) _) _) hb1).setCell (by show w.heap.size ≤ w.heap.size + 1; omega) _
theorem write_anyN (v : Value) (zs : List Int) (k x : Int) (w : World) (h : Sl w v zs) :
    Calls Tryz.prog 153 #[.agg #[v], .int .i64 k, .int .i64 x] w fun e w' => ∃ v', e = .returned (.tuple #[.agg #[v'], .int .i64 (wrE zs k x)]) ∧ Sl w' v' (wrM zs k x) ∧ Fresh w.heap.size v' ∧ Below w.heap.size w w' := by
  by_cases hw : chk zs = 0 ∧ placeB k = true ∧ wordB x = true
  · refine (write_okN v zs k x w h hw.1 hw.2.1 hw.2.2).mono fun e w' ⟨v', he, hs, hf, hb⟩ => ⟨v', ?_, ?_, hf, hb⟩
    · rw [he, show wrE zs k x = 0 by simp [wrE, hw.1, hw.2.1, hw.2.2]]
    · rw [show wrM zs k x = zs.set k.toNat x by rw [wrM, if_pos hw]]; exact hs
  · refine (write_err v zs k x w h hw).mono fun e w' ⟨he, hb⟩ => ⟨_, he, ?_, Fresh.none _ _ _, hb⟩
    rw [show wrM zs k x = [] by rw [wrM, if_neg hw]]; exact Sl.nil _ _ _
end Go.Proofs.YtlgjllmecjkbjacGreat
/-
  drawbridgeref's Put and drawbridgelaw's at: what they answer; nothing that was there turns.
-/
namespace Go.Proofs.YtlgjllmecjkbjacGreat
open Go.RowKit
theorem lit_row (w : World) (base : Nat) (h : base ≤ w.heap.size) : (w.alloc (.cells #[] 3)).ownsRow base 3 1 (.slice (some ⟨w.heap.size, 0, none⟩) 0 0) 0 [] :=
  World.ownsRow_lit (base := base) (e := 3) (size := 1) w #[] 0 h (by simp [maxLen]) rfl
theorem sl_owned {w : World} {base g cap n : Nat} {zs : List Int} (h : w.ownsRow base 3 1 (.slice (some ⟨g, 0, none⟩) n cap) n (zs.map (fun z => Value.int .i64 z))) (hm : zs.length ≤ maxLen) : Sl w (.slice (some ⟨g, 0, none⟩) n cap) zs := by
  have hl := h.1
  simp at hl
  subst hl
  refine ⟨_, cap, rfl, hm, .inr ⟨g, 0, rfl, (h.lt g rfl).2, fun i hi => ?_⟩⟩
  rw [Nat.zero_add, h.cellAt i (by omega), List.getElem?_map, List.getElem?_eq_getElem hi]
  simp [nth, hi]
theorem Sl.setOther {w : World} {v : Value} {zs : List Int} (h : Sl w v zs) {p : Addr} (hp : v.ownBlock ≠ some p.block) (u : Value) : Sl (w.setCell p u) v zs := by
  obtain ⟨a, cap, rfl, hl, h⟩ := h
  refine ⟨a, cap, rfl, hl, ?_⟩
  rcases h with h | ⟨b, o, rfl, hlt, hc⟩
  · exact .inl h
  · have hne : b ≠ p.block := fun e => hp (by simp [Value.ownBlock, e])
    refine .inr ⟨b, o, rfl, by simpa [World.setCell] using hlt, fun i hi => ?_⟩
    rw [World.cell?_of_block (a := ⟨b, o + i, none⟩) (heap_setCell_other w p b u hne)]
    exact hc i hi
end Go.Proofs.YtlgjllmecjkbjacGreat
/-
  The closed fact 'stored' of the statements answers true; nothing that was there turns.
-/
namespace Go.Proofs.YtlgjllmecjkbjacGreat
open Go.RowKit
theorem nth_set_same {zs : List Int} {i : Nat} (h : i < zs.length) (x : Int) : nth (zs.set i x) i = x := by simp [nth, h]
theorem nth_set_other {zs : List Int} {i j : Nat} (h : i ≠ j) (x : Int) : nth (zs.set i x) j = nth zs j := by simp [nth, h]
theorem chk_set {zs : List Int} {k : Nat} {x : Int} (h : chk zs = 0) (hx : wordB x = true) : chk (zs.set k x) = 0 := by
  obtain ⟨hl, ha⟩ := chk_ok h
  refine chk_all (by rw [List.length_set]; exact hl) fun j hj => ?_
  by_cases e : k = j
  · subst e; rw [nth_set_same (by omega)]; exact hx
  · rw [nth_set_other e]; exact ha j hj
theorem wrM_ok {zs : List Int} {k x : Int} (h : chk zs = 0) (hp : placeB k = true) (hx : wordB x = true) : wrM zs k x = zs.set k.toNat x := by rw [wrM, if_pos ⟨h, hp, hx⟩]
end Go.Proofs.YtlgjllmecjkbjacGreat
/-
  The walk of drawbridgelaw.MemKeeps: it answers true, whatever memory and numbers it is given; nothing that was there turns.
-/
namespace Go.Proofs.YtlgjllmecjkbjacGreat
open Go.RowKit
theorem Sl.shape {w : World} {v : Value} {zs : List Int} (h : Sl w v zs) : ∃ a cap, v = .slice a zs.length cap := by
  obtain ⟨a, cap, h, _⟩ := h; exact ⟨a, cap, h⟩
theorem Sl.setSlice {w : World} {v : Value} {zs : List Int} (h : Sl w v zs) {p : Addr} {a : Option Addr} {n c : Nat} (hp : w.cell? p = some (.slice a n c)) (u : Value) : Sl (w.setCell p u) v zs := by
  obtain ⟨a, cap, rfl, hl, h⟩ := h
  refine ⟨a, cap, rfl, hl, ?_⟩
  rcases h with h | ⟨b, o, rfl, hlt, hc⟩
  · exact .inl h
  · refine .inr ⟨b, o, rfl, by simpa [World.setCell] using hlt, fun i hi => ?_⟩
    have hq := hc i hi
    have hne : p ≠ ⟨b, o + i, none⟩ := fun e => by rw [e, hq] at hp; simp at hp
    rw [World.cell?_setCell_other (h := hne)]
    exact hq
end Go.Proofs.YtlgjllmecjkbjacGreat
/-
  Package walk: what Walk answers, errors and faults too; it turns nothing that was there.
-/
namespace Go.Proofs.YtlgjllmecjkbjacGreat
open Go.RowKit
def wkF (zs : List Int) (root page : Int) (wr : Bool) : Five × Int :=
  if (fnd zs root page).2 = 0 then (if ((fnd zs root page).1.2.1 && ((fnd zs root page).1.2.2.1 || !wr)) = true then ((fnd zs root page).1, 0) else (E0, 5)) else (E0, (fnd zs root page).2)
def wkd (zs : List Int) (root page : Int) (wr : Bool) : Five × Int × Int :=
  if chk zs = 0 then
    (if pageB root = true ∧ pageB page = true then ((wkF zs root page wr).1, (wkF zs root page wr).2, 0) else (E0, 0, 4))
  else (E0, 0, chk zs)
set_option maxHeartbeats 2000000 in
theorem walk_any (v : Value) (zs : List Int) (root page : Int) (wr : Bool) (w : World) (h : Sl w v zs) :
    Calls Tryz.prog 108 #[.agg #[v], .int .i64 root, .int .i64 page, .bool wr] w fun e w' => (∃ b r x l p f c, e = .returned (.tuple #[.agg #[.bool b, .bool r, .bool x, .bool l, .int .i64 p], .int .i64 f, .int .i64 c]) ∧ wkd zs root page wr = ((b, r, x, l, p), f, c)) ∧ Below w.heap.size w w' := by
  have HS : Hid (Sl w v zs) := h
  obtain ⟨a0, c0, rfl⟩ := h.shape
  clear h
  go_enter Tryz.func108, Tryz.ntmps108
  go_wp2_with fail
  refine (check_any _ zs _ (HS.out.keep (bel_alloc (bel_alloc (Below.refl _ _) _) _))).mono ?_
  rintro e w1 ⟨rfl, b1⟩
  have B1 : Hid _ := b1
  have BB : Hid (Below w.heap.size w w1) := bel_trans (bel_alloc (bel_alloc (Below.refl _ _) _) _) b1
  obtain ⟨c1, f1⟩ := bcell b1
  have s1 : w.heap.size + 1 < w1.heap.size := by have := b1.size; simp at this; omega
  clear b1
  by_cases hk : chk zs = 0
  rotate_left
  · have hq : (chk zs != 0) = true := by simpa using hk
    go_wp2
    refine bodyPost_ret (v := .tuple #[.agg #[.bool false, .bool false, .bool false, .bool false, .int .i64 0], .int .i64 0, .int .i64 (chk zs)]) (by simp [results, Tryz.results108, go_sem, *]) rfl ⟨⟨_, _, _, _, _, _, _, rfl, by rw [wkd, if_neg hk]; rfl⟩, ?_⟩
    exact bel_set5 (by omega) BB.out _ _ _ _ _
  have hq : (chk zs != 0) = false := by simpa using hk
  have HN : Hid (zs.length = 512) := (chk_ok hk).1
  have HK : Hid (chk zs = 0) := hk
  clear hk
  cases hr : pageB root
  · have hd : ¬ (pageB root = true ∧ pageB page = true) := by rw [hr]; simp
    have HD : Hid _ := hd
    clear hd
    go_wp2_with fail
    refine (wPage_any _ _).mono ?_
    rintro e w2 ⟨rfl, rfl⟩
    rw [hr]
    go_wp2
    refine bodyPost_ret (v := .tuple #[.agg #[.bool false, .bool false, .bool false, .bool false, .int .i64 0], .int .i64 0, .int .i64 4]) (by simp [results, Tryz.results108, go_sem, *]) rfl ⟨⟨_, _, _, _, _, _, _, rfl, by rw [wkd, if_pos HK.out, if_neg HD.out]; rfl⟩, ?_⟩
    exact bel_set5 (by omega) BB.out _ _ _ _ _
  cases hp : pageB page
  · have hd : ¬ (pageB root = true ∧ pageB page = true) := by rw [hp]; simp
    have HD : Hid _ := hd
    clear hd
    go_wp2_with fail
    refine (wPage_any _ _).mono ?_
    rintro e w2 ⟨rfl, rfl⟩
    rw [hr]
    go_wp2_with fail
    refine (wPage_any _ _).mono ?_
    rintro e w2 ⟨rfl, rfl⟩
    rw [hp]
    go_wp2
    refine bodyPost_ret (v := .tuple #[.agg #[.bool false, .bool false, .bool false, .bool false, .int .i64 0], .int .i64 0, .int .i64 4]) (by simp [results, Tryz.results108, go_sem, *]) rfl ⟨⟨_, _, _, _, _, _, _, rfl, by rw [wkd, if_pos HK.out, if_neg HD.out]; rfl⟩, ?_⟩
    exact bel_set5 (by omega) BB.out _ _ _ _ _
  have hd : pageB root = true ∧ pageB page = true := ⟨hr, hp⟩
  have HD : Hid _ := hd
  clear hd
  obtain ⟨r0, r1⟩ : 0 ≤ root ∧ root < 64 := by simpa [pageB] using hr
  obtain ⟨g0, g1⟩ : 0 ≤ page ∧ page < 64 := by simpa [pageB] using hp
  go_wp2_with fail
  refine (wPage_any _ _).mono ?_
  rintro e w2 ⟨rfl, rfl⟩
  rw [hr]
  go_wp2_with fail
  refine (wPage_any _ _).mono ?_
  rintro e w2 ⟨rfl, rfl⟩
  rw [hp]
  clear hr hp
  go_wp2_with fail
  refine (find_any _ zs _ _ _ (HS.out.keep BB.out) HN.out r0 r1 g0 g1).mono ?_
  rintro e w2 ⟨⟨b, r, x, l, p, f, rfl, hfn⟩, b2⟩
  have HF : Hid (fnd zs root page = ((b, r, x, l, p), f)) := hfn
  have B2 : Hid _ := bel_trans B1.out b2
  have BB2 : Hid (Below w.heap.size w w2) := bel_trans BB.out b2
  have s2 : w.heap.size + 1 < w2.heap.size := by have := b2.size; omega
  clear c1 f1 b2 BB B1 s1 hfn
  obtain ⟨c2, f2⟩ := bcell B2.out
  by_cases hf : f = 0
  rotate_left
  · have hq1 : (f == 0) = false := by simpa using hf
    have hq2 : (f != 0) = true := by simpa using hf
    go_wp2
    refine bodyPost_ret (v := .tuple #[.agg #[.bool false, .bool false, .bool false, .bool false, .int .i64 0], .int .i64 f, .int .i64 0]) (by simp [results, Tryz.results108, go_sem, *]) rfl ⟨⟨_, _, _, _, _, _, _, rfl, by rw [wkd, if_pos HK.out, if_pos HD.out, wkF, HF.out, if_neg hf]; rfl⟩, ?_⟩
    exact bel_alloc (bel_set5 (by omega) BB2.out _ _ _ _ _) _
  subst hf
  go_wp2_with fail
  refine (may_any _ _ _ _ _ _ _).mono ?_
  rintro e w3 ⟨rfl, o3, hw3⟩
  have B3 : Hid (Below _ _ w3) := hw3 ▸ bel_alloc (bel_alloc B2.out _) o3
  have BB3 : Hid (Below w.heap.size w w3) := hw3 ▸ bel_alloc (bel_alloc BB2.out _) o3
  have K3 : Blk w3 w2.heap.size #[.bool b, .bool r, .bool x, .bool l, .int .i64 p] := hw3 ▸ (Blk.new w2 _ _ _).past o3
  have s3 : w.heap.size + 1 < w3.heap.size := by rw [hw3]; simp; omega
  obtain ⟨d0, d1, d2, d3, d4⟩ := K3.five
  clear c2 f2 hw3 K3
  obtain ⟨c3, f3⟩ := bcell B3.out
  cases hm : (r && (x || !wr))
  · have hm' : ¬ (r && (x || !wr)) = true := by rw [hm]; decide
    have HM : Hid _ := hm'
    clear hm hm'
    go_wp2
    refine bodyPost_ret (v := .tuple #[.agg #[.bool false, .bool false, .bool false, .bool false, .int .i64 0], .int .i64 5, .int .i64 0]) (by simp [results, Tryz.results108, go_sem, *]) rfl ⟨⟨_, _, _, _, _, _, _, rfl, by rw [wkd, if_pos HK.out, if_pos HD.out, wkF, HF.out, if_pos rfl, if_neg HM.out]; rfl⟩, ?_⟩
    exact bel_set5 (by omega) BB3.out _ _ _ _ _
  · have HM : Hid ((r && (x || !wr)) = true) := hm
    clear hm
    go_wp2
    refine bodyPost_ret (v := .tuple #[.agg #[.bool b, .bool r, .bool x, .bool l, .int .i64 p], .int .i64 0, .int .i64 0]) (by simp [results, Tryz.results108, go_sem, *]) rfl ⟨⟨_, _, _, _, _, _, _, rfl, by rw [wkd, if_pos HK.out, if_pos HD.out, wkF, HF.out, if_pos rfl, if_pos HM.out]⟩, ?_⟩
    exact bel_set5 (by omega) BB3.out _ _ _ _ _
end Go.Proofs.YtlgjllmecjkbjacGreat
/-
  drawbridgelaw's with: words at places, of noughts; it turns nothing that was there.
-/
namespace Go.Proofs.YtlgjllmecjkbjacGreat
open Go.RowKit
def wth (ps : List Int) : Nat → List Int
  | 0 => zeros
  | j + 1 => (wth ps j).set (nth ps (2 * j)).toNat (nth ps (2 * j + 1))
theorem wth_len (ps : List Int) (j : Nat) : (wth ps j).length = 512 := by
  induction j with
  | zero => exact zeros_length
  | succ j ih => rw [wth, List.length_set, ih]
def WithRel (w : World) (ps : List Int) (j : Nat) (w' : World) : Prop :=
  (∃ cs : Array Value, w'.heap[w.heap.size + 1]? = some (.cells cs 3 (0, 0)) ∧ cs.toList = (wth ps j).map (fun z => Value.int .i64 z)) ∧
  w'.heap[w.heap.size + 1 + 1]? = some (.cells #[.slice (some ⟨w.heap.size + 1, 0, none⟩) 512 512] 24 (0, 0)) ∧
  w'.heap[w.heap.size]? = some (.cells #[.slice none 0 0] 24 (0, 0)) ∧
  Below w.heap.size w w'
theorem WithRel.next {w w' : World} {ps : List Int} {j : Nat} (h : WithRel w ps j w') : WithRel w ps (j + 1) ((w'.setCell ⟨w.heap.size + 1, (nth ps (2 * j)).toNat, none⟩ (.int .i64 (nth ps (2 * j + 1)))).drew) := by
  obtain ⟨⟨cs, h1, h2⟩, h3, h4, h5⟩ := h
  refine ⟨⟨_, heap_setCell_same _ _ _ cs _ _ h1, ?_⟩, ?_, ?_, ?_⟩
  · rw [Array.toList_setIfInBounds, h2, wth, List.map_set]
  · show (w'.setCell _ _).heap[_]? = _
    rw [heap_setCell_other _ _ _ _ (by simp)]; exact h3
  · show (w'.setCell _ _).heap[_]? = _
    rw [heap_setCell_other _ _ _ _ (by simp)]; exact h4
  · exact (h5.setCell (p := ⟨w.heap.size + 1, _, none⟩) (by simp) _).drew
set_option maxHeartbeats 2000000 in
theorem with_own (b o cap : Nat) (ps : List Int) (m : Nat) (w : World) (h : Sl w (.slice (some ⟨b, o, none⟩) (2 * m) cap) ps) (hl : ps.length = 2 * m) (hm9 : m < 1000) (hp : ∀ j, j < m → 0 ≤ nth ps (2 * j) ∧ nth ps (2 * j) < 512) :
    Calls Tryz.prog 62 #[.slice (some ⟨b, o, none⟩) (2 * m : Nat) cap] w fun e w' => ∃ g, e = .returned (.agg #[.slice (some ⟨g, 0, none⟩) 512 512]) ∧ Sl w' (.slice (some ⟨g, 0, none⟩) 512 512) (wth ps m) ∧ Below w.heap.size w w' ∧ w.heap.size ≤ g ∧ ∃ cs : Array Value, w'.heap[g]? = some (.cells cs 3 (0, 0)) ∧ cs.toList = (wth ps m).map (fun z => Value.int .i64 z) := by
  have hm := make512
  have HP : Hid (∀ j, j < m → 0 ≤ nth ps (2 * j) ∧ nth ps (2 * j) < 512) := hp
  have HS : Hid (∀ i, i < 2 * m → b < w.heap.size ∧ w.cell? ⟨b, o + i, none⟩ = some (.int .i64 (nth ps i))) := by
    intro i hi
    obtain ⟨a, c, ha, _, hh⟩ := h
    simp at ha
    obtain ⟨rfl, _⟩ := ha
    rcases hh with rfl | ⟨b', o', hb, hlt, hc⟩
    · simp at hl; omega
    · simp at hb
      obtain ⟨rfl, rfl⟩ := hb
      exact ⟨hlt, hc i (by omega)⟩
  clear h hp
  go_enter Tryz.func62, Tryz.ntmps62
  go_wp2
  go_loopw [4] (fun i w' => ∃ j : Nat, j ≤ m ∧ i = .int .i64 (2 * j : Nat) ∧ WithRel w ps j w') (fun i _ => 2 * m - (intOf i).toNat)
  case atStart =>
    refine ⟨0, Nat.zero_le _, rfl, ⟨_, heap_past (by simp) (heap_at (by simp)), zeroCells_list⟩, heap_at (by simp), heap_past (by simp; omega) (heap_past (by simp) (heap_at rfl)), bel_alloc (bel_alloc (bel_alloc (Below.refl _ _) _) _) _⟩
  case round =>
    obtain ⟨j, hj, rfl, hR⟩ := hrel
    have HR : Hid (WithRel w ps j wr) := hR
    obtain ⟨⟨cs, h1, h2⟩, h3, h4, h5⟩ := hR
    have q3 := cell_of_row wr (w.heap.size + 1 + 1) 0 _ _ _ h3
    by_cases hlt : j < m
    · obtain ⟨p0, p1⟩ := HP.out j hlt
      obtain ⟨hb, e0⟩ := HS.out (2 * j) (by omega)
      obtain ⟨_, e1⟩ := HS.out (2 * j + 1) (by omega)
      have g0 : wr.cell? ⟨b, o + 2 * j, none⟩ = some (.int .i64 (nth ps (2 * j))) := by rw [h5.cell (p := ⟨b, _, none⟩) hb]; exact e0
      have g1 : wr.cell? ⟨b, o + (2 * j + 1), none⟩ = some (.int .i64 (nth ps (2 * j + 1))) := by rw [h5.cell (p := ⟨b, _, none⟩) hb]; exact e1
      have gm : wr.cell? ⟨w.heap.size + 1, (nth ps (2 * j)).toNat, none⟩ = some (.int .i64 (nth (wth ps j) (nth ps (2 * j)).toNat)) := by
        rw [cell_of_row _ _ _ _ _ _ h1, ← Array.getElem?_toList, h2, List.getElem?_map, getElem?_nth (by rw [wth_len]; omega)]; rfl
      have gf : wr.frozen? ⟨w.heap.size + 1, (nth ps (2 * j)).toNat, none⟩ = false := frozen_of_row _ _ _ _ _ h1
      have HX : Hid _ := HR.out.next
      generalize nth ps (2 * j) = p at *
      generalize nth ps (2 * j + 1) = x at *
      generalize hk : 2 * j = k at *
      have hlt1 : (k : Int) + 1 < (2 * m : Nat) := by omega
      have hlt0 : (k : Int) < (2 * m : Nat) := by omega
      have hw : wrap64 ((k : Int) + 1) = k + 1 := by unfold wrap64; omega
      clear e0 e1 h1 h2 h3 h4 h5
      go_wp2
      go_region
      go_wp2
      refine ⟨⟨j + 1, by omega, by congr 1; omega, HX.out⟩, by simp [intOf]; omega⟩
    · obtain rfl : j = m := by omega
      have HQ : Hid (Sl wr (.slice (some ⟨w.heap.size + 1, 0, none⟩) 512 512) (wth ps j)) := sl_block h1 h2 (wth_len _ _).symm (by rw [wth_len]; simp [maxLen])
      have q4 := cell_of_row wr w.heap.size 0 _ _ _ h4
      have q5 := frozen_of_row wr w.heap.size 0 _ _ h4
      have HB : Hid (Below w.heap.size w wr) := h5
      have HC : Hid (wr.heap[w.heap.size + 1]? = some (.cells cs 3 (0, 0)) ∧ cs.toList = (wth ps j).map (fun z => Value.int .i64 z)) := ⟨h1, h2⟩
      clear h1 h2 h3 h4 h5 HR
      generalize hk : 2 * j = k at *
      have hk9 : k < 2000 := by omega
      have hw : wrap64 ((k : Int) + 1) = k + 1 := by unfold wrap64; omega
      have hge : ¬ (k : Int) + 1 < (k : Int) := by omega
      go_wp2
      refine bodyPost_ret (v := .agg #[.slice (some ⟨w.heap.size + 1, 0, none⟩) 512 512]) (by simp [results, Tryz.results62, go_sem, *]) rfl ⟨_, rfl, HQ.out.setOther (by simp [Value.ownBlock]) _, HB.out.setCell (p := ⟨w.heap.size, 0, none⟩) (by simp) _, by omega, cs, by rw [heap_setCell_other _ _ _ _ (by simp)]; exact HC.out.1, HC.out.2⟩
end Go.Proofs.YtlgjllmecjkbjacGreat
/-
  The closed fact 'walked' of the statements answers true; nothing that was there turns.
-/
namespace Go.Proofs.YtlgjllmecjkbjacGreat
open Go.RowKit
theorem walk_at {v : Value} {zs : List Int} {root page : Int} {wr : Bool} {w : World} {b r x l : Bool} {p f c : Int} (hk : wkd zs root page wr = ((b, r, x, l, p), f, c)) (h : Sl w v zs) :
    Calls Tryz.prog 108 #[.agg #[v], .int .i64 root, .int .i64 page, .bool wr] w fun e w' => e = .returned (.tuple #[.agg #[.bool b, .bool r, .bool x, .bool l, .int .i64 p], .int .i64 f, .int .i64 c]) ∧ Below w.heap.size w w' := by
  refine (walk_any v zs root page wr w h).mono ?_
  rintro e w' ⟨⟨b', r', x', l', p', f', c', rfl, hk'⟩, hb⟩
  rw [hk] at hk'
  simp only [Prod.mk.injEq] at hk'
  obtain ⟨⟨rfl, rfl, rfl, rfl, rfl⟩, rfl, rfl⟩ := hk'
  exact ⟨rfl, hb⟩
end Go.Proofs.YtlgjllmecjkbjacGreat
/-
  drawbridgelaw's at, with a page's and a word's bounds.
-/
namespace Go.Proofs.YtlgjllmecjkbjacGreat
open Go.RowKit
end Go.Proofs.YtlgjllmecjkbjacGreat
/-
  What Walk answers, held against itself: with another right, with another word of memory.
-/
namespace Go.Proofs.YtlgjllmecjkbjacGreat
open Go.RowKit
theorem vE_of_flt {z : Int} (h : fltR z = 0) : vE z = true := by
  unfold fltR at h
  cases ho : okE z
  · simp [ho] at h
  · cases hv : vE z
    · simp [ho, hv] at h
    · rfl
theorem fnd_good {zs : List Int} {root page : Int} {b r x l : Bool} {p : Int} (h : fnd zs root page = ((b, r, x, l, p), 0)) : b = true ∧ l = true := by
  unfold fnd at h
  by_cases h1 : fltR (one zs root page) = 0
  · rw [if_pos h1] at h
    by_cases h2 : lE (one zs root page) = true
    · rw [if_pos h2] at h
      by_cases h3 : pE (one zs root page) % 8 = 0
      · rw [if_pos h3] at h
        simp only [Prod.mk.injEq] at h
        obtain ⟨⟨e1, _, _, e4, _⟩, _⟩ := h
        exact ⟨e1 ▸ vE_of_flt h1, e4 ▸ h2⟩
      · rw [if_neg h3] at h
        simp only [Prod.mk.injEq] at h
        omega
    · rw [if_neg h2] at h
      by_cases h3 : fltR (two zs root page) = 0
      · rw [if_pos h3] at h
        by_cases h4 : lE (two zs root page) = true
        · rw [if_pos h4, entE] at h
          simp only [Prod.mk.injEq] at h
          obtain ⟨⟨e1, _, _, e4, _⟩, _⟩ := h
          exact ⟨e1 ▸ vE_of_flt h3, e4 ▸ h4⟩
        · rw [if_neg h4] at h
          simp only [Prod.mk.injEq] at h
          omega
      · rw [if_neg h3] at h
        simp only [Prod.mk.injEq] at h
        exact absurd h.2 h3
  · rw [if_neg h1] at h
    simp only [Prod.mk.injEq] at h
    exact absurd h.2 h1
end Go.Proofs.YtlgjllmecjkbjacGreat
/-
  Lines of a cache, as lists alone: what Check, Find, Fill, Drop answer, and what holds of it.
-/
namespace Go.Proofs.YtlgjllmecjkbjacGreat
open Go.RowKit
abbrev Ln := Int × Int × Int × Bool × Bool
def L0 : Ln := (0, 0, 0, false, false)
def lth (l : List Ln) (i : Nat) : Ln := l.getD i L0
theorem lth_get {l : List Ln} {i : Nat} (h : i < l.length) : lth l i = l[i] := by simp [lth, h]
def rngB (x : Ln) : Bool := decide (0 ≤ x.1 ∧ x.1 < 8) && decide (0 ≤ x.2.1 ∧ x.2.1 < 64) && decide (0 ≤ x.2.2.1 ∧ x.2.2.1 < 64)
def keyB (x y : Ln) : Bool := decide (x.1 = y.1) && decide (x.2.1 = y.2.1)
def errL (l : List Ln) (j : Nat) : Int :=
  if rngB (lth l j) = true then (if (lth l j).2.2.2.1 = true then (if (l.take j).any (keyB (lth l j)) = true then 5 else 0) else 3) else 2
def chkC (l : List Ln) : Int := if 6 < l.length then 1 else (((List.range l.length).map (errL l)).find? (fun e => decide (¬ e = 0))).getD 0
theorem chkC_many {l : List Ln} (h : 6 < l.length) : chkC l = 1 := by rw [chkC, if_pos h]
theorem chkC_all {l : List Ln} (h : ¬ 6 < l.length) (k : ∀ j, j < l.length → errL l j = 0) : chkC l = 0 := by
  rw [chkC, if_neg h, List.find?_eq_none.2]
  · rfl
  · intro e he
    obtain ⟨j, hj, rfl⟩ := List.mem_map.1 he
    simp [k j (List.mem_range.1 hj)]
theorem chkC_at {l : List Ln} {j : Nat} {e : Int} (h : ¬ 6 < l.length) (hj : j < l.length) (k : ∀ i, i < j → errL l i = 0) (he : errL l j = e) (h0 : ¬ e = 0) : chkC l = e := by
  rw [chkC, if_neg h, List.find?_eq_some_iff_getElem.2 ⟨by simpa using h0, j, by simpa using hj, by simpa using he, fun i hi => by simpa using k i hi⟩]
  rfl
def GoodC (l : List Ln) : Prop := l.length ≤ 6 ∧ (∀ x ∈ l, rngB x = true ∧ x.2.2.2.1 = true) ∧ l.Pairwise (fun x y => keyB y x = false)
theorem errL_zero {l : List Ln} {j : Nat} : errL l j = 0 ↔ rngB (lth l j) = true ∧ (lth l j).2.2.2.1 = true ∧ (l.take j).any (keyB (lth l j)) = false := by
  unfold errL
  cases h1 : rngB (lth l j)
  · simp
  · cases h2 : (lth l j).2.2.2.1
    · simp
    · cases h3 : (l.take j).any (keyB (lth l j)) <;> simp
theorem chkC_zero {l : List Ln} : chkC l = 0 ↔ GoodC l := by
  constructor
  · intro h
    by_cases hl : 6 < l.length
    · rw [chkC_many hl] at h; omega
    have hz : ∀ j, j < l.length → errL l j = 0 := by
      intro j
      induction j using Nat.strongRecOn with
      | _ j ih =>
        intro hj
        by_cases he : errL l j = 0
        · exact he
        · have := chkC_at hl hj (fun i hi => ih i hi (by omega)) rfl he
          rw [h] at this; omega
    refine ⟨by omega, fun x hx => ?_, ?_⟩
    · obtain ⟨j, hj, rfl⟩ := List.getElem_of_mem hx
      have := errL_zero.1 (hz j hj)
      rw [lth_get hj] at this
      exact ⟨this.1, this.2.1⟩
    · rw [List.pairwise_iff_getElem]
      intro i j hi hj hij
      have := (errL_zero.1 (hz j hj)).2.2
      rw [lth_get hj, List.any_eq_false] at this
      have h2 := this l[i] (List.mem_iff_getElem.2 ⟨i, by simp; omega, by simp⟩)
      simpa using h2
  · rintro ⟨h1, h2, h3⟩
    refine chkC_all (by omega) fun j hj => errL_zero.2 ?_
    rw [lth_get hj]
    refine ⟨(h2 _ (List.getElem_mem hj)).1, (h2 _ (List.getElem_mem hj)).2, ?_⟩
    rw [List.any_eq_false]
    intro x hx
    obtain ⟨i, hi, rfl⟩ := List.mem_iff_getElem.1 hx
    rw [List.pairwise_iff_getElem] at h3
    simp at hi
    have := h3 i j (by omega) hj (by omega)
    simpa using this
def hasB (d p : Int) (x : Ln) : Bool := decide (x.1 = d) && decide (x.2.1 = p)
def fndC (l : List Ln) (d p : Int) : Int := match l.findIdx? (hasB d p) with
  | some i => (i : Int)
  | none => -1
theorem fndC_at {l : List Ln} {d p : Int} {i : Nat} (hi : i < l.length) (h : hasB d p (lth l i) = true) (k : ∀ j, j < i → hasB d p (lth l j) = false) : fndC l d p = i := by
  have : l.findIdx? (hasB d p) = some i := by
    rw [List.findIdx?_eq_some_iff_getElem]
    refine ⟨hi, by rw [← lth_get hi]; exact h, fun j hj => ?_⟩
    rw [← lth_get (by omega), k j hj]; simp
  rw [fndC, this]
theorem fndC_none {l : List Ln} {d p : Int} (k : ∀ j, j < l.length → hasB d p (lth l j) = false) : fndC l d p = -1 := by
  have : l.findIdx? (hasB d p) = none := by
    rw [List.findIdx?_eq_none_iff]
    intro x hx
    obtain ⟨j, hj, rfl⟩ := List.getElem_of_mem hx
    rw [← lth_get hj]; exact k j hj
  rw [fndC, this]
theorem fndC_neg {l : List Ln} {d p : Int} : fndC l d p < 0 ↔ ∀ x ∈ l, hasB d p x = false := by
  unfold fndC
  cases h : l.findIdx? (hasB d p) with
  | none =>
    rw [List.findIdx?_eq_none_iff] at h
    simp only [iff_iff_eq]
    exact propext ⟨fun _ => h, fun _ => by decide⟩
  | some i =>
    rw [List.findIdx?_eq_some_iff_getElem] at h
    obtain ⟨hi, h1, _⟩ := h
    constructor
    · intro h; simp at h; omega
    · intro k; have := k l[i] (List.getElem_mem hi); rw [h1] at this; exact absurd this (by decide)
theorem has_key (x y : Ln) : hasB x.1 x.2.1 y = keyB x y := by
  unfold hasB keyB
  rw [Bool.eq_iff_iff]
  simp only [Bool.and_eq_true, decide_eq_true_eq]
  exact ⟨fun h => ⟨h.1.symm, h.2.symm⟩, fun h => ⟨h.1.symm, h.2.symm⟩⟩
def flE (l : List Ln) (x : Ln) : Int := if chkC l = 0 then (if chkC [x] = 0 then (if 0 ≤ fndC l x.1 x.2.1 then 5 else 0) else chkC [x]) else chkC l
def flC (l : List Ln) (x : Ln) : List Ln := if flE l x = 0 then (if l.length = 6 then l.drop 1 else l) ++ [x] else []
def goesB (k d p : Int) (x : Ln) : Bool := decide (k = 1) || decide (k = 2) && decide (x.1 = d) || decide (k = 3) && decide (x.1 = d) && decide (x.2.1 = p)
def drE (l : List Ln) (k : Int) : Int := if chkC l = 0 then (if 0 ≤ k ∧ k ≤ 3 then 0 else 3) else chkC l
def drC (l : List Ln) (k d p : Int) : List Ln := if drE l k = 0 then l.filter (fun x => !goesB k d p x) else []
theorem flE_zero {l : List Ln} {x : Ln} (h : flE l x = 0) : GoodC l ∧ rngB x = true ∧ x.2.2.2.1 = true ∧ ∀ y ∈ l, keyB x y = false := by
  unfold flE at h
  by_cases h1 : chkC l = 0
  · rw [if_pos h1] at h
    by_cases h2 : chkC [x] = 0
    · rw [if_pos h2] at h
      by_cases h3 : 0 ≤ fndC l x.1 x.2.1
      · rw [if_pos h3] at h; omega
      · have g := (chkC_zero.1 h2).2.1 x (by simp)
        refine ⟨chkC_zero.1 h1, g.1, g.2, fun y hy => ?_⟩
        rw [← has_key]
        exact fndC_neg.1 (by omega) y hy
    · rw [if_neg h2] at h; exact absurd h h2
  · rw [if_neg h1] at h; exact absurd h h1
def oldC (l : List Ln) : List Ln := if l.length = 6 then l.drop 1 else l
theorem oldC_sub (l : List Ln) : (oldC l).Sublist l := by
  unfold oldC; split
  · exact List.drop_sublist 1 l
  · exact List.Sublist.refl l
theorem oldC_len {l : List Ln} (h : l.length ≤ 6) : (oldC l).length ≤ 5 ∧ (oldC l).length ≤ l.length := by
  unfold oldC; split
  · simp; omega
  · omega
theorem flC_ok {l : List Ln} {x : Ln} (h : flE l x = 0) : flC l x = oldC l ++ [x] := by rw [flC, if_pos h, oldC]
theorem fill_good {l : List Ln} {x : Ln} (h : flE l x = 0) : chkC (flC l x) = 0 ∧ fndC (flC l x) x.1 x.2.1 = (oldC l).length ∧ min (l.length + 1) 6 ≤ (flC l x).length := by
  obtain ⟨⟨h1, h2, h3⟩, h4, h5, h6⟩ := flE_zero h
  obtain ⟨o1, o2⟩ := oldC_len h1
  have hs := oldC_sub l
  rw [flC_ok h]
  refine ⟨chkC_zero.2 ⟨by simp; omega, fun y hy => ?_, ?_⟩, ?_, ?_⟩
  · rcases List.mem_append.1 hy with hy | hy
    · exact h2 y (hs.subset hy)
    · obtain rfl := List.mem_singleton.1 hy
      exact ⟨h4, h5⟩
  · rw [List.pairwise_append]
    refine ⟨h3.sublist hs, List.pairwise_singleton _ _, fun a ha b hb => ?_⟩
    obtain rfl := List.mem_singleton.1 hb
    exact h6 a (hs.subset ha)
  · refine fndC_at (by simp) ?_ fun j hj => ?_
    · rw [lth_get (by simp)]; simp [hasB]
    · rw [lth_get (by simp; omega), List.getElem_append_left hj, has_key]
      exact h6 _ (hs.subset (List.getElem_mem hj))
  · unfold oldC; split
    · simp; omega
    · simp; omega
theorem drop_good {l : List Ln} {k d p : Int} (h : drE l k = 0) : chkC (drC l k d p) = 0 := by
  have h1 : chkC l = 0 := by
    unfold drE at h
    by_cases h1 : chkC l = 0
    · exact h1
    · rw [if_neg h1] at h; exact absurd h h1
  obtain ⟨g1, g2, g3⟩ := chkC_zero.1 h1
  rw [drC, if_pos h]
  exact chkC_zero.2 ⟨Nat.le_trans (List.length_filter_le _ _) g1, fun x hx => g2 x (List.mem_filter.1 hx).1, g3.sublist List.filter_sublist⟩
end Go.Proofs.YtlgjllmecjkbjacGreat
/-
  A slice of lines reads as a list of lines in a world (Ls); nothing of it turns while the world only grows.
-/
namespace Go.Proofs.YtlgjllmecjkbjacGreat
open Go.RowKit
def cellsL (x : Ln) : List Value := [.int .i64 x.1, .int .i64 x.2.1, .int .i64 x.2.2.1, .bool x.2.2.2.1, .bool x.2.2.2.2]
def AtL (w : World) (b o : Nat) (x : Ln) : Prop :=
  w.cell? ⟨b, o, none⟩ = some (.int .i64 x.1) ∧ w.cell? ⟨b, o + 1, none⟩ = some (.int .i64 x.2.1) ∧ w.cell? ⟨b, o + 2, none⟩ = some (.int .i64 x.2.2.1) ∧ w.cell? ⟨b, o + 3, none⟩ = some (.bool x.2.2.2.1) ∧ w.cell? ⟨b, o + 4, none⟩ = some (.bool x.2.2.2.2)
def Ls (w : World) (v : Value) (l : List Ln) : Prop :=
  ∃ a cap, v = .slice a l.length cap ∧ l.length ≤ cap ∧ cap ≤ maxLen ∧
    (l = [] ∨ ∃ b o, a = some ⟨b, o, none⟩ ∧ b < w.heap.size ∧ ∀ i, i < l.length → AtL w b (o + i * 5) (lth l i))
theorem AtL.keep {w w' : World} {b o : Nat} {x : Ln} (h : AtL w b o x) (hb : Below w.heap.size w w') (hl : b < w.heap.size) : AtL w' b o x := by
  obtain ⟨c, _⟩ := bcell hb
  unfold AtL
  rw [c _ _ hl, c _ _ hl, c _ _ hl, c _ _ hl, c _ _ hl]
  exact h
theorem Ls.keep {w w' : World} {v : Value} {l : List Ln} (h : Ls w v l) (hb : Below w.heap.size w w') : Ls w' v l := by
  obtain ⟨a, cap, rfl, hl, hm, h⟩ := h
  refine ⟨a, cap, rfl, hl, hm, ?_⟩
  rcases h with h | ⟨b, o, rfl, hlt, hc⟩
  · exact .inl h
  · exact .inr ⟨b, o, rfl, Nat.lt_of_lt_of_le hlt hb.size, fun i hi => (hc i hi).keep hb hlt⟩
theorem Ls.alloc {w : World} {v : Value} {l : List Ln} (h : Ls w v l) (o : Obj) : Ls (w.alloc o) v l := h.keep (bel_alloc (Below.refl _ _) _)
theorem Ls.nil (w : World) (a : Option Addr) (cap : Nat) (h : cap ≤ maxLen) : Ls w (.slice a 0 cap) [] := ⟨a, cap, rfl, Nat.zero_le _, h, .inl rfl⟩
theorem Ls.nothing (w : World) : Ls w (.slice none 0 0) [] := Ls.nil w _ _ (Nat.zero_le _)
theorem upto_next {P : Nat → Prop} {k : Nat} (h : ∀ j, j < k → P j) (hk : P k) : ∀ j, j < k + 1 → P j := fun j hj => by
  by_cases e : j = k
  · rw [e]; exact hk
  · exact h j (by omega)
end Go.Proofs.YtlgjllmecjkbjacGreat
/-
  Package cache: isDev, isPage, checkLine, the closure of isOf, isOf itself; drawbridgeref's in. None turns memory that was there.
-/
namespace Go.Proofs.YtlgjllmecjkbjacGreat
open Go.RowKit
def devB (z : Int) : Bool := decide (0 ≤ z ∧ z < 8)
def pgB (z : Int) : Bool := decide (0 ≤ z ∧ z < 64)
theorem isDev_any (z : Int) (w : World) : Calls Tryz.prog 123 #[.int .i64 z] w fun e w' => e = .returned (.bool (devB z)) ∧ w' = w := by
  by_cases h1 : 0 ≤ z
  · by_cases h2 : z < 8
    · have : devB z = true := by simp [devB, h1, h2]
      rw [this]
      go_enter Tryz.func123, Tryz.ntmps123
      go_wp2
      go_ret
      exact ⟨rfl, rfl⟩
    · have : devB z = false := by simp [devB, h2]
      rw [this]
      go_enter Tryz.func123, Tryz.ntmps123
      go_wp2
      go_ret
      exact ⟨rfl, rfl⟩
  · have : devB z = false := by simp [devB, h1]
    rw [this]
    go_enter Tryz.func123, Tryz.ntmps123
    go_wp2
    go_ret
    exact ⟨rfl, rfl⟩
theorem cPage_any (z : Int) (w : World) : Calls Tryz.prog 124 #[.int .i64 z] w fun e w' => e = .returned (.bool (pgB z)) ∧ w' = w := by
  by_cases h1 : 0 ≤ z
  · by_cases h2 : z < 64
    · have : pgB z = true := by simp [pgB, h1, h2]
      rw [this]
      go_enter Tryz.func124, Tryz.ntmps124
      go_wp2
      go_ret
      exact ⟨rfl, rfl⟩
    · have : pgB z = false := by simp [pgB, h2]
      rw [this]
      go_enter Tryz.func124, Tryz.ntmps124
      go_wp2
      go_ret
      exact ⟨rfl, rfl⟩
  · have : pgB z = false := by simp [pgB, h1]
    rw [this]
    go_enter Tryz.func124, Tryz.ntmps124
    go_wp2
    go_ret
    exact ⟨rfl, rfl⟩
def own (x : Ln) : Int := if rngB x = true then (if x.2.2.2.1 = true then 0 else 3) else 2
set_option maxHeartbeats 1000000 in
theorem checkLine_any (d p a : Int) (r x : Bool) (w : World) :
    Calls Tryz.prog 94 #[.agg #[.int .i64 d, .int .i64 p, .int .i64 a, .bool r, .bool x]] w fun e w' => e = .returned (.int .i64 (own (d, p, a, r, x))) ∧ ∃ o, w' = w.alloc o := by
  have ho : own (d, p, a, r, x) = if (devB d && pgB p && pgB a) = true then (if r = true then 0 else 3) else 2 := rfl
  rw [ho]
  clear ho
  cases h1 : devB d
  · go_enter Tryz.func94, Tryz.ntmps94
    go_wp2_with (first | (go_at_call 123; refine (isDev_any _ _).mono ?_; rintro e w1 ⟨rfl, rfl⟩; rw [h1]))
    go_ret
    exact ⟨rfl, _, rfl⟩
  cases h2 : pgB p
  · go_enter Tryz.func94, Tryz.ntmps94
    go_wp2_with (first | (go_at_call 123; refine (isDev_any _ _).mono ?_; rintro e w1 ⟨rfl, rfl⟩; rw [h1]) | (go_at_call 124; refine (cPage_any _ _).mono ?_; rintro e w1 ⟨rfl, rfl⟩; rw [h2]))
    go_ret
    exact ⟨rfl, _, rfl⟩
  cases h3 : pgB a
  · go_enter Tryz.func94, Tryz.ntmps94
    go_wp2_with (first | (go_at_call 123; refine (isDev_any _ _).mono ?_; rintro e w1 ⟨rfl, rfl⟩; rw [h1]) | (go_at_call 124; refine (cPage_any _ _).mono ?_; rintro e w1 ⟨rfl, rfl⟩; first | rw [h2] | rw [h3]))
    go_ret
    exact ⟨rfl, _, rfl⟩
  cases r
  all_goals
    go_enter Tryz.func94, Tryz.ntmps94
    go_wp2_with (first | (go_at_call 123; refine (isDev_any _ _).mono ?_; rintro e w1 ⟨rfl, rfl⟩; rw [h1]) | (go_at_call 124; refine (cPage_any _ _).mono ?_; rintro e w1 ⟨rfl, rfl⟩; first | rw [h2] | rw [h3]))
    go_ret
    exact ⟨rfl, _, rfl⟩
theorem is_any (n m : Nat) (d p d1 p1 a : Int) (r x : Bool) (w : World) (h1 : w.cell? ⟨n, 0, none⟩ = some (.int .i64 d)) (h2 : w.cell? ⟨m, 0, none⟩ = some (.int .i64 p)) (l1 : n < w.heap.size) (l2 : m < w.heap.size) :
    Calls Tryz.prog 154 #[.agg #[.int .i64 d1, .int .i64 p1, .int .i64 a, .bool r, .bool x], .pointer (some ⟨n, 0, none⟩), .pointer (some ⟨m, 0, none⟩)] w fun e w' => e = .returned (.bool (hasB d p (d1, p1, a, r, x))) ∧ ∃ o, w' = w.alloc o := by
  have ho : hasB d p (d1, p1, a, r, x) = (decide (d1 = d) && decide (p1 = p)) := rfl
  rw [ho]
  clear ho
  by_cases e1 : d1 = d
  · by_cases e2 : p1 = p
    · subst e1 e2
      go_enter Tryz.func154, Tryz.ntmps154
      go_wp2
      go_ret
      exact ⟨by simp, _, rfl⟩
    · have q1 : (d1 == d) = true := by simpa using e1
      have q2 : (p1 == p) = false := by simpa using e2
      have q3 : Hid ((decide (d1 = d) && decide (p1 = p)) = false) := by show _ = _; simp [e2]
      rw [q3.out]
      clear e1 e2 q3
      go_enter Tryz.func154, Tryz.ntmps154
      go_wp2
      go_ret
      exact ⟨rfl, _, rfl⟩
  · have q1 : (d1 == d) = false := by simpa using e1
    have q3 : Hid ((decide (d1 = d) && decide (p1 = p)) = false) := by show _ = _; simp [e1]
    rw [q3.out]
    clear e1 q3
    go_enter Tryz.func154, Tryz.ntmps154
    go_wp2
    go_ret
    exact ⟨rfl, _, rfl⟩
theorem isOf_any (d p : Int) (w : World) :
    Calls Tryz.prog 126 #[.int .i64 d, .int .i64 p] w fun e w' => e = .returned (.func (.func 154) #[] #[.pointer (some ⟨w.heap.size, 0, none⟩), .pointer (some ⟨w.heap.size + 1, 0, none⟩)]) ∧ w' = (w.alloc (.cells #[.int .i64 d] 3)).alloc (.cells #[.int .i64 p] 3) := by
  have hmf : ∀ (fn : Fn) (first cap : Array Value) (w : World), (Instr.makeFunc fn first cap).run Tryz.prog w = .ok (.func fn first cap) w := fun _ _ _ _ => rfl
  go_enter Tryz.func126, Tryz.ntmps126
  go_wp2
  go_ret
  exact ⟨rfl, rfl⟩
end Go.Proofs.YtlgjllmecjkbjacGreat
/-
  slices.IndexFunc with the closure of isOf, and cache.Find: which line it is; nothing that was there turns.
-/
namespace Go.Proofs.YtlgjllmecjkbjacGreat
open Go.RowKit
set_option maxHeartbeats 1000000 in
theorem indexFunc_any (v : Value) (l : List Ln) (n m : Nat) (d p : Int) (w : World) (h : Ls w v l) (h1 : w.cell? ⟨n, 0, none⟩ = some (.int .i64 d)) (h2 : w.cell? ⟨m, 0, none⟩ = some (.int .i64 p)) (l1 : n < w.heap.size) (l2 : m < w.heap.size) :
    Calls Tryz.prog 125 #[v, .func (.func 154) #[] #[.pointer (some ⟨n, 0, none⟩), .pointer (some ⟨m, 0, none⟩)]] w fun e w' => e = .returned (.int .i64 (fndC l d p)) ∧ Below w.heap.size w w' := by
  obtain ⟨a, cap, rfl, hl, hm, h⟩ := h
  unfold maxLen at hm
  rcases h with rfl | ⟨b, o, rfl, hb, hc⟩
  · go_enter Tryz.func125, Tryz.ntmps125
    go_wp2
    go_loopw [5, 8] (fun _ i w' => i = .int .i64 0 ∧ w' = w) (fun _ i _ => 0)
    case atStart => exact ⟨rfl, rfl⟩
    case round =>
      obtain ⟨rfl, rfl⟩ := hrel
      go_wp2
      go_ret
      exact ⟨ret_int (fndC_none (fun j hj => absurd hj (Nat.not_lt_zero _))).symm, Below.refl _ _⟩
  · have HC : Hid _ := hc
    have H1 : Hid _ := h1
    have H2 : Hid _ := h2
    clear hc h1 h2
    go_enter Tryz.func125, Tryz.ntmps125
    go_wp2
    go_loopw [5, 8] (fun _ i w' => ∃ k : Nat, k ≤ l.length ∧ i = .int .i64 k ∧ (∀ j, j < k → hasB d p (lth l j) = false) ∧ Below w.heap.size w w') (fun _ i _ => l.length - (intOf i).toNat)
    case atStart => exact ⟨0, Nat.zero_le _, rfl, fun j hj => absurd hj (Nat.not_lt_zero _), Below.refl _ _⟩
    case round =>
      obtain ⟨k, hk, rfl, hpre, hB⟩ := hrel
      have HP : Hid _ := hpre
      have HB : Hid _ := hB
      by_cases hlt : k < l.length
      · obtain ⟨g0, g1, g2, g3, g4⟩ := (HC.out k hlt).keep hB hb
        have c1 : Hid (wr.cell? ⟨n, 0, none⟩ = _) := ((bcell hB).1 n 0 l1).trans H1.out
        have c2 : Hid (wr.cell? ⟨m, 0, none⟩ = _) := ((bcell hB).1 m 0 l2).trans H2.out
        have s1 : n < wr.heap.size := Nat.lt_of_lt_of_le l1 hB.size
        have s2 : m < wr.heap.size := Nat.lt_of_lt_of_le l2 hB.size
        have hb' : b < wr.heap.size := Nat.lt_of_lt_of_le hb hB.size
        obtain ⟨y, hy⟩ : ∃ y, y = lth l k := ⟨_, rfl⟩
        have HY : Hid _ := hy
        rw [← hy] at g0 g1 g2 g3 g4
        clear hy hpre hB
        obtain ⟨d1, p1, a1, r1, x1⟩ := y
        simp only at g0 g1 g2 g3 g4
        have hlt1 : (k : Int) < l.length := by omega
        go_wp2_with fail
        refine (is_any n m d p d1 p1 a1 r1 x1 wr c1.out c2.out s1 s2).mono ?_
        rintro e w1 ⟨rfl, ob, rfl⟩
        cases hh : hasB d p (d1, p1, a1, r1, x1)
        · have HN : Hid (hasB d p (lth l k) = false) := by show _ = _; rw [← HY.out]; exact hh
          go_wp2
          exact ⟨⟨k + 1, by omega, by go_num, upto_next HP.out HN.out, bel_alloc HB.out _⟩, by simp [intOf]; omega⟩
        · have HF : Hid (fndC l d p = k) := fndC_at hlt (by rw [← HY.out]; exact hh) HP.out
          go_wp2
          go_ret
          exact ⟨ret_int HF.out.symm, bel_alloc HB.out _⟩
      · have HF : Hid (fndC l d p = -1) := fndC_none fun j hj => HP.out j (by omega)
        clear hpre hB
        go_wp2
        go_ret
        exact ⟨ret_int HF.out.symm, HB.out⟩
set_option maxHeartbeats 1000000 in
theorem cFind_any (v : Value) (l : List Ln) (d p : Int) (w : World) (h : Ls w v l) :
    Calls Tryz.prog 95 #[v, .int .i64 d, .int .i64 p] w fun e w' => e = .returned (.int .i64 (fndC l d p)) ∧ Below w.heap.size w w' := by
  go_enter Tryz.func95, Tryz.ntmps95
  go_wp2_with fail
  refine (isOf_any _ _ _).mono ?_
  rintro e w1 ⟨rfl, rfl⟩
  have B1 : Hid (Below w.heap.size w ((w.alloc (.cells #[.int .i64 d] 3)).alloc (.cells #[.int .i64 p] 3))) := bel_alloc (bel_alloc (Below.refl _ _) _) _
  go_wp2_with fail
  refine (indexFunc_any v l w.heap.size (w.heap.size + 1) d p _ (h.keep B1.out) ?_ ?_ ?_ ?_).mono ?_
  · simp [go_sem]
  · simp [go_sem]
  · simp; omega
  · simp
  rintro e w2 ⟨rfl, b2⟩
  go_wp2
  go_ret
  exact ⟨rfl, bel_trans B1.out b2⟩
end Go.Proofs.YtlgjllmecjkbjacGreat
/-
  cache.Check: the first thing that is wrong with lines; nothing that was there turns.
-/
namespace Go.Proofs.YtlgjllmecjkbjacGreat
open Go.RowKit
theorem Ls.take {w : World} {a : Option Addr} {n cap : Nat} {l : List Ln} (h : Ls w (.slice a n cap) l) {k : Nat} (hk : k ≤ l.length) : Ls w (.slice a k cap) (l.take k) := by
  obtain ⟨a', cap', e, hl, hm, h⟩ := h
  simp only [Value.slice.injEq] at e
  obtain ⟨rfl, _, rfl⟩ := e
  have hn : (l.take k).length = k := by simp; omega
  refine ⟨a, cap, by rw [hn], by omega, hm, ?_⟩
  rcases h with rfl | ⟨b, o, rfl, hb, hc⟩
  · exact .inl (by simp)
  · refine .inr ⟨b, o, rfl, hb, fun i hi => ?_⟩
    rw [hn] at hi
    have : lth (l.take k) i = lth l i := by simp [lth, hi]
    rw [this]
    exact hc i (by omega)
theorem Ls.drop {w : World} {b o n cap : Nat} {l : List Ln} (h : Ls w (.slice (some ⟨b, o, none⟩) n cap) l) {k : Nat} (hk : k ≤ l.length) : Ls w (.slice (some ⟨b, o + k * 5, none⟩) (l.length - k) (cap - k)) (l.drop k) := by
  obtain ⟨a', cap', e, hl, hm, h⟩ := h
  simp only [Value.slice.injEq] at e
  obtain ⟨rfl, _, rfl⟩ := e
  have hn : (l.drop k).length = l.length - k := by simp
  refine ⟨_, cap - k, by rw [hn], by omega, by omega, ?_⟩
  rcases h with rfl | ⟨b', o', e, hb, hc⟩
  · exact .inl (by simp)
  · simp only [Option.some.injEq, Addr.mk.injEq, and_true] at e
    obtain ⟨rfl, rfl⟩ := e
    refine .inr ⟨b, o + k * 5, rfl, hb, fun i hi => ?_⟩
    rw [hn] at hi
    have hlth : lth (l.drop k) i = lth l (k + i) := by simp [lth]
    rw [hlth]
    have := hc (k + i) (by omega)
    rwa [Nat.add_mul, ← Nat.add_assoc] at this
theorem any_find (l : List Ln) (x : Ln) : l.any (keyB x) = true ↔ 0 ≤ fndC l x.1 x.2.1 := by
  have h := @fndC_neg l x.1 x.2.1
  constructor
  · intro ha
    have : ¬ fndC l x.1 x.2.1 < 0 := fun hn => by
      obtain ⟨y, hy, hk⟩ := List.any_eq_true.1 ha
      have := h.1 hn y hy
      rw [has_key, hk] at this
      exact absurd this (by decide)
    omega
  · intro h0
    cases ha : l.any (keyB x)
    · exfalso
      have : fndC l x.1 x.2.1 < 0 := h.2 fun y hy => by
        rw [has_key]
        rw [List.any_eq_false] at ha
        simpa using ha y hy
      omega
    · rfl
theorem errL_own {l : List Ln} {k : Nat} (h : ¬ own (lth l k) = 0) : errL l k = own (lth l k) := by
  unfold errL own at *
  cases h1 : rngB (lth l k)
  · simp
  · cases h2 : (lth l k).2.2.2.1
    · simp
    · simp [h1, h2] at h
theorem errL_twice {l : List Ln} {k : Nat} (h : own (lth l k) = 0) (hf : 0 ≤ fndC (l.take k) (lth l k).1 (lth l k).2.1) : errL l k = 5 := by
  unfold errL own at *
  cases h1 : rngB (lth l k)
  · simp [h1] at h
  · cases h2 : (lth l k).2.2.2.1
    · simp [h1, h2] at h
    · simp only [if_true]
      rw [if_pos ((any_find _ _).2 hf)]
theorem errL_fine {l : List Ln} {k : Nat} (h : own (lth l k) = 0) (hf : ¬ 0 ≤ fndC (l.take k) (lth l k).1 (lth l k).2.1) : errL l k = 0 := by
  unfold errL own at *
  cases h1 : rngB (lth l k)
  · simp [h1] at h
  · cases h2 : (lth l k).2.2.2.1
    · simp [h1, h2] at h
    · simp only [if_true]
      rw [if_neg fun ha => hf ((any_find _ _).1 ha)]
theorem keep2 {W w' : World} {n : Nat} {u v : Value} (h0 : W.cell? ⟨n, 0, none⟩ = some u) (h1 : W.cell? ⟨n, 1, none⟩ = some v) (hn : n < W.heap.size) (hb : Below W.heap.size W w') :
    w'.cell? ⟨n, 0, none⟩ = some u ∧ w'.cell? ⟨n, 1, none⟩ = some v ∧ Below W.heap.size W w' :=
  ⟨((bcell hb).1 n 0 hn).trans h0, ((bcell hb).1 n 1 hn).trans h1, hb⟩
set_option maxHeartbeats 1000000 in
theorem cCheck_any (v : Value) (l : List Ln) (w : World) (h : Ls w v l) :
    Calls Tryz.prog 66 #[v] w fun e w' => e = .returned (.int .i64 (chkC l)) ∧ Below w.heap.size w w' := by
  have HL : Hid (Ls w v l) := h
  obtain ⟨a, cap, rfl, hl, hm, h⟩ := h
  unfold maxLen at hm
  by_cases h6 : 6 < l.length
  · have e6 : chkC l = 1 := chkC_many h6
    rw [e6]
    have h6' : (6 : Int) < l.length := by omega
    go_enter Tryz.func66, Tryz.ntmps66
    go_wp2
    go_ret
    exact ⟨rfl, Below.refl _ _⟩
  have h6' : ¬ (6 : Int) < l.length := by omega
  have hmz : (l.length : Int) ≤ 6 := by omega
  rcases h with rfl | ⟨b, o, rfl, hb, hc⟩
  · go_enter Tryz.func66, Tryz.ntmps66
    go_wp2
    go_loopw [3, 4, 5, 11] (fun _ _ _ i w' => i = .int .i64 0 ∧ w' = w) (fun _ _ _ i _ => 0)
    case atStart => exact ⟨rfl, rfl⟩
    case round =>
      obtain ⟨rfl, rfl⟩ := hrel
      go_wp2
      go_ret
      exact ⟨ret_int (chkC_all h6 (fun j hj => absurd hj (Nat.not_lt_zero _))).symm, Below.refl _ _⟩
  · have HC : Hid _ := hc
    clear hc
    go_enter Tryz.func66, Tryz.ntmps66
    go_wp2
    go_loopw [3, 4, 5, 11] (fun _ _ _ i w' => ∃ k : Nat, k ≤ l.length ∧ i = .int .i64 k ∧ (∀ j, j < k → errL l j = 0) ∧ Below w.heap.size w w') (fun _ _ _ i _ => l.length - (intOf i).toNat)
    case atStart => exact ⟨0, Nat.zero_le _, rfl, fun j hj => absurd hj (Nat.not_lt_zero _), Below.refl _ _⟩
    case round =>
      obtain ⟨k, hk, rfl, hpre, hB⟩ := hrel
      have HP : Hid _ := hpre
      have HB : Hid _ := hB
      by_cases hlt : k < l.length
      · obtain ⟨g0, g1, g2, g3, g4⟩ := (HC.out k hlt).keep hB hb
        have hb' : b < wr.heap.size := Nat.lt_of_lt_of_le hb hB.size
        obtain ⟨y, hy⟩ : ∃ y, y = lth l k := ⟨_, rfl⟩
        have HY : Hid _ := hy
        rw [← hy] at g0 g1 g2 g3 g4
        clear hy hpre hB
        obtain ⟨d1, p1, a1, r1, x1⟩ := y
        simp only at g0 g1 g2 g3 g4
        have hlt1 : (k : Int) < l.length := by omega
        go_wp2_with fail
        refine (checkLine_any d1 p1 a1 r1 x1 _).mono ?_
        rintro e w1 ⟨rfl, ob, rfl⟩
        by_cases ho : own (d1, p1, a1, r1, x1) = 0
        rotate_left
        · have HE : Hid (chkC l = own (d1, p1, a1, r1, x1)) := chkC_at h6 hlt HP.out (by have := errL_own (l := l) (k := k) (by rw [← HY.out]; exact ho); rw [this, ← HY.out]) ho
          have hq : (own (d1, p1, a1, r1, x1) != 0) = true := by simpa using ho
          clear ho
          generalize own (d1, p1, a1, r1, x1) = z at *
          go_wp2
          go_ret
          exact ⟨ret_int HE.out.symm, bel_alloc (bel_alloc HB.out _) _⟩
        rw [ho]
        have k1 := ((Blk.new wr #[.int .i64 d1, .int .i64 p1, .int .i64 a1, .bool r1, .bool x1] 52 (0, 0)).past ob).five
        have B1 := bel_alloc (bel_alloc HB.out (.cells #[.int .i64 d1, .int .i64 p1, .int .i64 a1, .bool r1, .bool x1] 52 (0, 0))) ob
        have s1 : wr.heap.size < ((wr.alloc (.cells #[.int .i64 d1, .int .i64 p1, .int .i64 a1, .bool r1, .bool x1] 52 (0, 0))).alloc ob).heap.size := by simp; omega
        obtain ⟨c0, c1, _, _, _⟩ := k1
        go_wp2
        generalize ((wr.alloc (.cells #[.int .i64 d1, .int .i64 p1, .int .i64 a1, .bool r1, .bool x1] 52 (0, 0))).alloc ob) = wx at *
        have HT : Hid (Ls wx (.slice (some ⟨b, o, none⟩) k cap) (l.take k)) := (HL.out.keep B1).take hk
        have HO : Hid _ := ho
        have HB1 : Hid _ := B1
        clear B1 ho g0 g1 g2 g3 g4 HB HC
        have z0 : (0 : Int) ≤ k := by omega
        have z1 : (k : Int) ≤ cap := by omega
        have z2 : k ≤ cap := by omega
        have z3 : ¬ cap = 0 := by omega
        go_region_held3 (fun w' => w'.cell? ⟨wr.heap.size, 0, none⟩ = some (.int .i64 d1) ∧ w'.cell? ⟨wr.heap.size, 1, none⟩ = some (.int .i64 p1) ∧ Below wx.heap.size wx w')
          (with_reducible refine keep2 (by assumption) (by assumption) (by assumption) ?_; (repeat (first | with_reducible assumption | (with_reducible (refine And.right (a := _ = _) (And.right (a := _ = _) (?_ : _ ∧ _ ∧ _)); assumption)) | with_reducible exact Below.refl _ _ | with_reducible refine Below.drew ?_ | with_reducible refine bel_drewN ?_ _ | with_reducible refine bel_alloc ?_ _ | with_reducible refine bel_trans ?_ (by assumption))))
          (first | (go_at_call 95; refine (cFind_any _ (l.take k) d1 p1 _ ?_).mono ?_; (focus (refine HT.out.keep ?_; (repeat (first | with_reducible assumption | (with_reducible (refine And.right (a := _ = _) (And.right (a := _ = _) (?_ : _ ∧ _ ∧ _)); assumption)) | with_reducible exact Below.refl _ _ | with_reducible refine Below.drew ?_ | with_reducible refine bel_drewN ?_ _)))); rintro e w1 ⟨rfl, b1⟩))
        rename_i hH
        have HB2 : Hid _ := bel_trans HB1.out hH.2.2
        clear hH b1
        by_cases hf : 0 ≤ fndC (l.take k) d1 p1
        · have HE : Hid (chkC l = 5) := chkC_at h6 hlt HP.out (errL_twice (by rw [← HY.out]; exact HO.out) (by rw [← HY.out]; exact hf)) (by decide)
          go_wp2
          go_ret
          exact ⟨ret_int HE.out.symm, HB2.out⟩
        · have HE : Hid (errL l k = 0) := errL_fine (by rw [← HY.out]; exact HO.out) (by rw [← HY.out]; exact hf)
          go_wp2
          exact ⟨⟨k + 1, by omega, by go_num, upto_next HP.out HE.out, HB2.out⟩, by simp [intOf]; omega⟩
      · have HF : Hid (chkC l = 0) := chkC_all h6 fun j hj => HP.out j (by omega)
        clear hpre hB
        go_wp2
        go_ret
        exact ⟨ret_int HF.out.symm, HB.out⟩
end Go.Proofs.YtlgjllmecjkbjacGreat
