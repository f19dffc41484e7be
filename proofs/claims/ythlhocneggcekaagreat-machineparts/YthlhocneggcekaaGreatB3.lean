/-
  Laid together: Write, Put, Stored, KeepsWalk, Walk2, WithA, With, WalkMath.
-/
import Derived.Test.YthlhocneggcekaaGreatB1
import Derived.Test.YthlhocneggcekaaGreatB2
import Derived.Laws.CopyOwn
import Derived.Test.YthlhocneggcekaaGreatRows
import Derived.WalkKit
import Derived.WalkSpells
import Derived.WalkLawsBesides
import Derived.Below
import Derived.WalkSmall
import Derived.Deep.QuietTactic
import Derived.BigQuiet
import Derived.Deep.Draws
import Derived.Deep.AppendLies
import Derived.LoopN
import Derived.Deep.CutRange
import Derived.Deep.RegionHeld3
import Derived.Deep.RegionWith
namespace Go.Proofs.YthlhocneggcekaaGreat
open Go.RowKit
def wrE (zs : List Int) (k x : Int) : Int := if chk zs = 0 then (if placeB k = true then (if wordB x = true then 0 else 2) else 4) else chk zs
def wrM (zs : List Int) (k x : Int) : List Int := if chk zs = 0 ∧ placeB k = true ∧ wordB x = true then zs.set k.toNat x else []
def intCells (zs : List Int) : Array Value := (zs.map (fun z => J z)).toArray
theorem intCells_list (zs : List Int) : (intCells zs).toList = zs.map (fun z => J z) := by simp [intCells]
theorem intCells_at {zs : List Int} {i : Nat} (h : i < zs.length) : (intCells zs)[i]? = some (J (nth zs i)) := by
  simp [intCells, nth, h]
theorem intCells_set (zs : List Int) (i : Nat) (x : Int) : (intCells zs).setIfInBounds i (J x) = intCells (zs.set i x) := by
  simp [intCells, List.map_set]
theorem copy_full (w : World) (b o cap g : Nat) (zs : List Int) (cur : Array Value) (hn : zs.length = 512) (hg : w.heap[g]? = some (.cells cur 3 (0, 0))) (hcur : cur.size = 512)
    (hc : ∀ i, i < 512 → w.cell? ⟨b, o + i, none⟩ = some (J (nth zs i))) :
    ∃ w3, (Builtin.copy_ #[22, 22] 3 #[.slice (some ⟨g, 0, none⟩) 512 512, .slice (some ⟨b, o, none⟩) 512 cap]).run Tryz.prog w = .ok (J 512) w3 ∧ w3.heap[g]? = some (.cells (intCells zs) 3 (0, 0)) ∧
      (∀ k, k ≠ g → w3.heap[k]? = w.heap[k]?) ∧ w3.heap.size = w.heap.size ∧ Below g w w3 := by
  have hl : (zs.map (fun z => J z)).length = 512 := by simp [hn]
  have h := run_copy_row (P := Tryz.prog) w 22 22 3 3 g 0 512 512 ⟨b, o, none⟩ 512 cap cur 3 (zs.map (fun z => J z)) Tryz.underlying22 (by kernel_rfl) hg (by rw [hl]; rfl)
    (fun j v hv => by
      rw [List.getElem?_map] at hv
      by_cases hj : j < 512
      · rw [List.getElem?_eq_getElem (by omega)] at hv
        simp only [Option.map_some, Option.some.injEq] at hv
        have := hc j hj
        rw [← hv]
        have ha : Addr.add ⟨b, o, none⟩ j = ⟨b, o + j, none⟩ := by unfold Addr.add; split <;> simp_all
        rw [ha, this]
        simp [nth, hn, hj]
      · rw [List.getElem?_eq_none (by omega)] at hv
        simp at hv) (by rw [hl]; omega) (by
      intro v hv
      obtain ⟨z, _, rfl⟩ := List.mem_map.1 hv
      rfl)
  have hd : List.drop (0 + 512) cur.toList = [] := List.drop_of_length_le (by simp [hcur])
  rw [hl, hd, List.take_zero, List.nil_append, List.append_nil] at h
  exact ⟨_, h, setRow_heap w g _ _ _ _ hg, fun k hk => setRow_other w g k _ hk, by simp [World.setRow], ⟨rfl, rfl, rfl, by simp [World.setRow], fun k hk => setRow_other w g k _ (by omega)⟩⟩
set_option maxHeartbeats 1000000 in
theorem write_okN (v : Value) (zs : List Int) (k x : Int) (w : World) (h : Sl w v zs) (hk : chk zs = 0) (hp : placeB k = true) (hx : wordB x = true) :
    Calls Tryz.prog 163 #[.agg #[v], J k, J x] w fun e w' => ∃ v', e = .returned (.tuple #[.agg #[v'], J 0]) ∧ Sl w' v' (zs.set k.toNat x) ∧ Fresh w.heap.size v' ∧ Below w.heap.size w w' := by
  obtain ⟨hn, _⟩ := chk_ok hk
  have hp' := hp
  simp only [placeB, decide_eq_true_eq] at hp'
  obtain ⟨p0, p1⟩ := hp'
  obtain ⟨b, o, cap, rfl, hb, hc⟩ := h.open512 hn
  have HC : Hid (∀ i, i < 512 → w.cell? ⟨b, o + i, none⟩ = some (J (nth zs i))) := hc
  have HN : Hid (zs.length = 512) := hn
  clear hc hn
  go_enter Tryz.func163, Tryz.ntmps163
  go_wp2_with fail
  refine (check_any _ zs _ ?_).mono ?_
  · exact h.keep (bel_alloc (bel_alloc (Below.refl _ _) _) _)
  rintro e w1 ⟨rfl, hb1⟩
  obtain ⟨hc1, hf1⟩ := bcell hb1
  have hs1 : w.heap.size + 1 < w1.heap.size := by have := hb1.size; simp at this; omega
  go_wp2_with (first | (go_at_call 172; refine (isPlace_any _ _).mono ?_; rintro e w' ⟨rfl, rfl⟩) | (go_at_call 72; refine (isWord_any _ _).mono ?_; rintro e w' ⟨rfl, rfl⟩))
  refine (new_own _).mono ?_
  rintro e w2 ⟨g, rfl, hg2, hge, hb2⟩
  obtain ⟨hc2, hf2⟩ := bcell hb2
  have hs2 := hb2.size
  have z2 : w.heap.size < w2.heap.size := by omega
  have z3 : w.heap.size + 1 < w2.heap.size := by omega
  have q0 : w2.cell? ⟨w.heap.size, 0, none⟩ = some (.slice (some ⟨b, o, none⟩) 512 cap) := by rw [hc2 _ _ (by omega), hc1 _ _ (by simp; omega)]; simp [go_sem]
  have q1 : w2.cell? ⟨w.heap.size + 1, 0, none⟩ = some (.slice none 0 0) := by rw [hc2 _ _ (by omega), hc1 _ _ (by simp)]; simp [go_sem]
  have q2 : w2.frozen? ⟨w.heap.size + 1, 0, none⟩ = false := by rw [hf2 _ _ (by omega), hf1 _ _ (by simp)]; simp [go_sem]
  have HB2 : Hid (Below w.heap.size w w2) := bel_trans (bel_trans (bel_alloc (bel_alloc (Below.refl _ _) _) _) hb1) hb2
  clear hc1 hf1 hc2 hf2 hb1 hb2
  have hg2' := Array.getElem?_eq_some_iff.1 hg2
  obtain ⟨hglt, _⟩ := hg2'
  obtain ⟨w3, hrun, hg3, ho3, hs3, hb3⟩ := copy_full (w2.alloc (.cells #[.slice (some ⟨g, 0, none⟩) 512 512] 24)) b o cap g zs zeroCells HN.out (heap_past hglt hg2) (by simp [zeroCells, size_madeCells]) (fun i hi => by
    rw [World.cell?_alloc_past _ _ _ (by omega), HB2.out.cell (p := ⟨b, o + i, none⟩) hb]; exact HC.out i hi)
  have r0 : w3.cell? ⟨w2.heap.size, 0, none⟩ = some (.slice (some ⟨g, 0, none⟩) 512 512) := by
    rw [World.cell?_of_block (a := ⟨w2.heap.size, 0, none⟩) (ho3 w2.heap.size (by omega))]; simp [go_sem]
  have r1 : w3.cell? ⟨w.heap.size + 1, 0, none⟩ = some (.slice none 0 0) := by
    rw [World.cell?_of_block (a := ⟨w.heap.size + 1, 0, none⟩) (ho3 (w.heap.size + 1) (by omega)), World.cell?_alloc_past _ _ _ z3]; exact q1
  have r2 : w3.frozen? ⟨w.heap.size + 1, 0, none⟩ = false := by
    rw [World.frozen?_of_block (a := ⟨w.heap.size + 1, 0, none⟩) (ho3 (w.heap.size + 1) (by omega)), World.frozen?_alloc_past _ _ _ z3]; exact q2
  have r3 : w3.cell? ⟨g, k.toNat, none⟩ = some (J (nth zs k.toNat)) := by
    rw [cell_of_row w3 g _ _ _ _ hg3, intCells_at (by have := HN.out; omega)]
  have r4 : w3.frozen? ⟨g, k.toNat, none⟩ = false := frozen_of_row w3 g _ _ _ hg3
  have n1 : ¬ g = w2.heap.size := by omega
  have n2 : ¬ g = w.heap.size + 1 := by omega
  have HG3 : Hid _ := hg3
  have HB3 : Hid (Below w.heap.size w w3) := (bel_alloc HB2.out _).trans (hb3.mono (by omega))
  clear ho3 hb3 hg3 hg2
  go_wp2_with fail
  refine bodyPost_ret (v := .tuple #[.agg #[.slice (some ⟨g, 0, none⟩) 512 512], J 0]) (by simp [results, Tryz.results163, go_sem, *]) rfl ⟨_, rfl, ?_, fun k hk => by simp [Value.ownBlock] at hk; omega, ?_⟩
  · refine sl_block (cs := intCells (zs.set k.toNat x)) (t := 3) (fr := (0, 0)) ?_ (intCells_list _) (by rw [List.length_set]; exact HN.out.symm) (by rw [List.length_set, HN.out]; simp [maxLen])
    rw [heap_setCell_other _ _ _ _ n2, heap_setCell_same _ _ _ _ _ _ HG3.out, intCells_set]
  · exact (HB3.out.setCell (p := ⟨g, k.toNat, none⟩) (by show w.heap.size ≤ g; omega) _).setCell (p := ⟨w.heap.size + 1, 0, none⟩) (by show w.heap.size ≤ w.heap.size + 1; omega) _
set_option maxHeartbeats 1000000 in
theorem write_err (v : Value) (zs : List Int) (k x : Int) (w : World) (h : Sl w v zs) (hw : ¬ (chk zs = 0 ∧ placeB k = true ∧ wordB x = true)) :
    Calls Tryz.prog 163 #[.agg #[v], J k, J x] w fun e w' => e = .returned (.tuple #[.agg #[.slice none 0 0], J (wrE zs k x)]) ∧ Below w.heap.size w w' := by
  by_cases hk : chk zs = 0
  · by_cases hp : placeB k = true
    · have hx : wordB x = false := by
        cases hh : wordB x
        · rfl
        · exact absurd ⟨hk, hp, hh⟩ hw
      rw [show wrE zs k x = 2 by simp [wrE, hk, hp, hx]]
      clear hw
      go_enter Tryz.func163, Tryz.ntmps163
      go_wp2_with fail
      refine (check_any _ zs _ ?_).mono ?_
      · exact h.keep (bel_alloc (bel_alloc (Below.refl _ _) _) _)
      rintro e w1 ⟨rfl, hb1⟩
      obtain ⟨hc1, hf1⟩ := bcell hb1
      have hs1 : w.heap.size + 1 < w1.heap.size := by have := hb1.size; simp at this; omega
      go_wp2_with (first | (go_at_call 172; refine (isPlace_any _ _).mono ?_; rintro e w' ⟨rfl, rfl⟩) | (go_at_call 72; refine (isWord_any _ _).mono ?_; rintro e w' ⟨rfl, rfl⟩))
      refine bodyPost_ret (v := .tuple #[.agg #[.slice none 0 0], J 2]) (by simp [results, Tryz.results163, go_sem, *]) rfl ⟨rfl, ?_⟩
      exact (bel_trans (bel_alloc (bel_alloc (Below.refl _ _) _) _) hb1).setCell (by show w.heap.size ≤ w.heap.size + 1; omega) _
    · have hp' : placeB k = false := by simpa using hp
      rw [show wrE zs k x = 4 by simp [wrE, hk, hp']]
      clear hw hp
      go_enter Tryz.func163, Tryz.ntmps163
      go_wp2_with fail
      refine (check_any _ zs _ ?_).mono ?_
      · exact h.keep (bel_alloc (bel_alloc (Below.refl _ _) _) _)
      rintro e w1 ⟨rfl, hb1⟩
      obtain ⟨hc1, hf1⟩ := bcell hb1
      have hs1 : w.heap.size + 1 < w1.heap.size := by have := hb1.size; simp at this; omega
      go_wp2_with (first | (go_at_call 172; refine (isPlace_any _ _).mono ?_; rintro e w' ⟨rfl, rfl⟩) | (go_at_call 72; refine (isWord_any _ _).mono ?_; rintro e w' ⟨rfl, rfl⟩))
      refine bodyPost_ret (v := .tuple #[.agg #[.slice none 0 0], J 4]) (by simp [results, Tryz.results163, go_sem, *]) rfl ⟨rfl, ?_⟩
      exact (bel_trans (bel_alloc (bel_alloc (Below.refl _ _) _) _) hb1).setCell (by show w.heap.size ≤ w.heap.size + 1; omega) _
  · have hk' : (chk zs != 0) = true := by simpa using hk
    rw [show wrE zs k x = chk zs by simp [wrE, hk]]
    clear hw hk
    go_enter Tryz.func163, Tryz.ntmps163
    go_wp2_with fail
    refine (check_any _ zs _ ?_).mono ?_
    · exact h.keep (bel_alloc (bel_alloc (Below.refl _ _) _) _)
    rintro e w1 ⟨rfl, hb1⟩
    obtain ⟨hc1, hf1⟩ := bcell hb1
    have hs1 : w.heap.size + 1 < w1.heap.size := by have := hb1.size; simp at this; omega
    go_wp2
    refine bodyPost_ret (v := .tuple #[.agg #[.slice none 0 0], J (chk zs)]) (by simp [results, Tryz.results163, go_sem, *]) rfl ⟨rfl, ?_⟩
    exact (bel_trans (bel_alloc (bel_alloc (Below.refl _ _) _) _) hb1).setCell (by show w.heap.size ≤ w.heap.size + 1; omega) _
theorem write_anyN (v : Value) (zs : List Int) (k x : Int) (w : World) (h : Sl w v zs) :
    Calls Tryz.prog 163 #[.agg #[v], J k, J x] w fun e w' => ∃ v', e = .returned (.tuple #[.agg #[v'], J (wrE zs k x)]) ∧ Sl w' v' (wrM zs k x) ∧ Fresh w.heap.size v' ∧ Below w.heap.size w w' := by
  by_cases hw : chk zs = 0 ∧ placeB k = true ∧ wordB x = true
  · refine (write_okN v zs k x w h hw.1 hw.2.1 hw.2.2).mono fun e w' ⟨v', he, hs, hf, hb⟩ => ⟨v', ?_, ?_, hf, hb⟩
    · rw [he, show wrE zs k x = 0 by simp [wrE, hw.1, hw.2.1, hw.2.2]]
    · rw [show wrM zs k x = zs.set k.toNat x by rw [wrM, if_pos hw]]; exact hs
  · refine (write_err v zs k x w h hw).mono fun e w' ⟨he, hb⟩ => ⟨_, he, ?_, Fresh.none _ _ _, hb⟩
    rw [show wrM zs k x = [] by rw [wrM, if_neg hw]]; exact Sl.nil _ _ _
theorem lit_row (w : World) (base : Nat) (h : base ≤ w.heap.size) : (w.alloc (.cells #[] 3)).ownsRow base 3 1 (.slice (some ⟨w.heap.size, 0, none⟩) 0 0) 0 [] :=
  World.ownsRow_lit (base := base) (e := 3) (size := 1) w #[] 0 h (by simp [maxLen]) rfl
theorem sl_owned {w : World} {base g cap n : Nat} {zs : List Int} (h : w.ownsRow base 3 1 (.slice (some ⟨g, 0, none⟩) n cap) n (zs.map (fun z => J z))) (hm : zs.length ≤ maxLen) : Sl w (.slice (some ⟨g, 0, none⟩) n cap) zs := by
  have hl := h.1
  simp at hl
  subst hl
  refine ⟨_, cap, rfl, hm, .inr ⟨g, 0, rfl, (h.lt g rfl).2, fun i hi => ?_⟩⟩
  rw [Nat.zero_add, h.cellAt i (by omega), List.getElem?_map, List.getElem?_eq_getElem hi]
  simp [nth, hi]
theorem Sl.setOther {w : World} {v : Value} {zs : List Int} (h : Sl w v zs) {p : Addr} (hp : v.ownBlock ≠ some p.block) (u : Value) : Sl (w.setCell p u) v zs := by
  obtain ⟨a, cap, rfl, hl, h⟩ := h
  refine ⟨a, cap, rfl, hl, ?_⟩
  rcases h with h | ⟨b, o, rfl, hlt, hc⟩
  · exact .inl h
  · have hne : b ≠ p.block := fun e => hp (by simp [Value.ownBlock, e])
    refine .inr ⟨b, o, rfl, by simpa [World.setCell] using hlt, fun i hi => ?_⟩
    rw [World.cell?_of_block (a := ⟨b, o + i, none⟩) (heap_setCell_other w p b u hne)]
    exact hc i hi
theorem nth_set_same {zs : List Int} {i : Nat} (h : i < zs.length) (x : Int) : nth (zs.set i x) i = x := by simp [nth, h]
theorem nth_set_other {zs : List Int} {i j : Nat} (h : i ≠ j) (x : Int) : nth (zs.set i x) j = nth zs j := by simp [nth, h]
theorem chk_set {zs : List Int} {k : Nat} {x : Int} (h : chk zs = 0) (hx : wordB x = true) : chk (zs.set k x) = 0 := by
  obtain ⟨hl, ha⟩ := chk_ok h
  refine chk_all (by rw [List.length_set]; exact hl) fun j hj => ?_
  by_cases e : k = j
  · subst e; rw [nth_set_same (by omega)]; exact hx
  · rw [nth_set_other e]; exact ha j hj
theorem wrM_ok {zs : List Int} {k x : Int} (h : chk zs = 0) (hp : placeB k = true) (hx : wordB x = true) : wrM zs k x = zs.set k.toNat x := by rw [wrM, if_pos ⟨h, hp, hx⟩]
theorem Sl.shape {w : World} {v : Value} {zs : List Int} (h : Sl w v zs) : ∃ a cap, v = .slice a zs.length cap := by
  obtain ⟨a, cap, h, _⟩ := h; exact ⟨a, cap, h⟩
theorem Sl.setSlice {w : World} {v : Value} {zs : List Int} (h : Sl w v zs) {p : Addr} {a : Option Addr} {n c : Nat} (hp : w.cell? p = some (.slice a n c)) (u : Value) : Sl (w.setCell p u) v zs := by
  obtain ⟨a, cap, rfl, hl, h⟩ := h
  refine ⟨a, cap, rfl, hl, ?_⟩
  rcases h with h | ⟨b, o, rfl, hlt, hc⟩
  · exact .inl h
  · refine .inr ⟨b, o, rfl, by simpa [World.setCell] using hlt, fun i hi => ?_⟩
    have hq := hc i hi
    have hne : p ≠ ⟨b, o + i, none⟩ := fun e => by rw [e, hq] at hp; simp at hp
    rw [World.cell?_setCell_other (h := hne)]
    exact hq
def wkF (zs : List Int) (root page : Int) (wr : Bool) : Five × Int :=
  if (fnd zs root page).2 = 0 then (if ((fnd zs root page).1.2.1 && ((fnd zs root page).1.2.2.1 || !wr)) = true then ((fnd zs root page).1, 0) else (E0, 5)) else (E0, (fnd zs root page).2)
def wkd (zs : List Int) (root page : Int) (wr : Bool) : Five × Int × Int :=
  if chk zs = 0 then
    (if pageB root = true ∧ pageB page = true then ((wkF zs root page wr).1, (wkF zs root page wr).2, 0) else (E0, 0, 4))
  else (E0, 0, chk zs)
set_option maxHeartbeats 2000000 in
theorem walk_any (v : Value) (zs : List Int) (root page : Int) (wr : Bool) (w : World) (h : Sl w v zs) :
    Calls Tryz.prog 123 #[.agg #[v], J root, J page, .bool wr] w fun e w' => (∃ b r x l p f c, e = .returned (.tuple #[.agg #[.bool b, .bool r, .bool x, .bool l, J p], J f, J c]) ∧ wkd zs root page wr = ((b, r, x, l, p), f, c)) ∧ Below w.heap.size w w' := by
  have HS : Hid (Sl w v zs) := h
  obtain ⟨a0, c0, rfl⟩ := h.shape
  clear h
  go_enter Tryz.func123, Tryz.ntmps123
  go_wp2_with fail
  refine (check_any _ zs _ (HS.out.keep (bel_alloc (bel_alloc (Below.refl _ _) _) _))).mono ?_
  rintro e w1 ⟨rfl, b1⟩
  have B1 : Hid _ := b1
  have BB : Hid (Below w.heap.size w w1) := bel_trans (bel_alloc (bel_alloc (Below.refl _ _) _) _) b1
  obtain ⟨c1, f1⟩ := bcell b1
  have s1 : w.heap.size + 1 < w1.heap.size := by have := b1.size; simp at this; omega
  clear b1
  by_cases hk : chk zs = 0
  rotate_left
  · have hq : (chk zs != 0) = true := by simpa using hk
    go_wp2
    refine bodyPost_ret (v := .tuple #[.agg #[.bool false, .bool false, .bool false, .bool false, J 0], J 0, J (chk zs)]) (by simp [results, Tryz.results123, go_sem, *]) rfl ⟨⟨_, _, _, _, _, _, _, rfl, by rw [wkd, if_neg hk]; rfl⟩, ?_⟩
    exact bel_set5 (by omega) BB.out _ _ _ _ _
  have hq : (chk zs != 0) = false := by simpa using hk
  have HN : Hid (zs.length = 512) := (chk_ok hk).1
  have HK : Hid (chk zs = 0) := hk
  clear hk
  cases hr : pageB root
  · have hd : ¬ (pageB root = true ∧ pageB page = true) := by rw [hr]; simp
    have HD : Hid _ := hd
    clear hd
    go_wp2_with fail
    refine (wPage_any _ _).mono ?_
    rintro e w2 ⟨rfl, rfl⟩
    rw [hr]
    go_wp2
    refine bodyPost_ret (v := .tuple #[.agg #[.bool false, .bool false, .bool false, .bool false, J 0], J 0, J 4]) (by simp [results, Tryz.results123, go_sem, *]) rfl ⟨⟨_, _, _, _, _, _, _, rfl, by rw [wkd, if_pos HK.out, if_neg HD.out]; rfl⟩, ?_⟩
    exact bel_set5 (by omega) BB.out _ _ _ _ _
  cases hp : pageB page
  · have hd : ¬ (pageB root = true ∧ pageB page = true) := by rw [hp]; simp
    have HD : Hid _ := hd
    clear hd
    go_wp2_with fail
    refine (wPage_any _ _).mono ?_
    rintro e w2 ⟨rfl, rfl⟩
    rw [hr]
    go_wp2_with fail
    refine (wPage_any _ _).mono ?_
    rintro e w2 ⟨rfl, rfl⟩
    rw [hp]
    go_wp2
    refine bodyPost_ret (v := .tuple #[.agg #[.bool false, .bool false, .bool false, .bool false, J 0], J 0, J 4]) (by simp [results, Tryz.results123, go_sem, *]) rfl ⟨⟨_, _, _, _, _, _, _, rfl, by rw [wkd, if_pos HK.out, if_neg HD.out]; rfl⟩, ?_⟩
    exact bel_set5 (by omega) BB.out _ _ _ _ _
  have hd : pageB root = true ∧ pageB page = true := ⟨hr, hp⟩
  have HD : Hid _ := hd
  clear hd
  obtain ⟨r0, r1⟩ : 0 ≤ root ∧ root < 64 := by simpa [pageB] using hr
  obtain ⟨g0, g1⟩ : 0 ≤ page ∧ page < 64 := by simpa [pageB] using hp
  go_wp2_with fail
  refine (wPage_any _ _).mono ?_
  rintro e w2 ⟨rfl, rfl⟩
  rw [hr]
  go_wp2_with fail
  refine (wPage_any _ _).mono ?_
  rintro e w2 ⟨rfl, rfl⟩
  rw [hp]
  clear hr hp
  go_wp2_with fail
  refine (find_any _ zs _ _ _ (HS.out.keep BB.out) HN.out r0 r1 g0 g1).mono ?_
  rintro e w2 ⟨⟨b, r, x, l, p, f, rfl, hfn⟩, b2⟩
  have HF : Hid (fnd zs root page = ((b, r, x, l, p), f)) := hfn
  have B2 : Hid _ := bel_trans B1.out b2
  have BB2 : Hid (Below w.heap.size w w2) := bel_trans BB.out b2
  have s2 : w.heap.size + 1 < w2.heap.size := by have := b2.size; omega
  clear c1 f1 b2 BB B1 s1 hfn
  obtain ⟨c2, f2⟩ := bcell B2.out
  by_cases hf : f = 0
  rotate_left
  · have hq1 : (f == 0) = false := by simpa using hf
    have hq2 : (f != 0) = true := by simpa using hf
    go_wp2
    refine bodyPost_ret (v := .tuple #[.agg #[.bool false, .bool false, .bool false, .bool false, J 0], J f, J 0]) (by simp [results, Tryz.results123, go_sem, *]) rfl ⟨⟨_, _, _, _, _, _, _, rfl, by rw [wkd, if_pos HK.out, if_pos HD.out, wkF, HF.out, if_neg hf]; rfl⟩, ?_⟩
    exact bel_alloc (bel_set5 (by omega) BB2.out _ _ _ _ _) _
  subst hf
  go_wp2_with fail
  refine (may_any _ _ _ _ _ _ _).mono ?_
  rintro e w3 ⟨rfl, o3, hw3⟩
  have B3 : Hid (Below _ _ w3) := hw3 ▸ bel_alloc (bel_alloc B2.out _) o3
  have BB3 : Hid (Below w.heap.size w w3) := hw3 ▸ bel_alloc (bel_alloc BB2.out _) o3
  have K3 : Blk w3 w2.heap.size #[.bool b, .bool r, .bool x, .bool l, J p] := hw3 ▸ (Blk.new w2 _ _ _).past o3
  have s3 : w.heap.size + 1 < w3.heap.size := by rw [hw3]; simp; omega
  obtain ⟨d0, d1, d2, d3, d4⟩ := K3.five
  clear c2 f2 hw3 K3
  obtain ⟨c3, f3⟩ := bcell B3.out
  cases hm : (r && (x || !wr))
  · have hm' : ¬ (r && (x || !wr)) = true := by rw [hm]; decide
    have HM : Hid _ := hm'
    clear hm hm'
    go_wp2
    refine bodyPost_ret (v := .tuple #[.agg #[.bool false, .bool false, .bool false, .bool false, J 0], J 5, J 0]) (by simp [results, Tryz.results123, go_sem, *]) rfl ⟨⟨_, _, _, _, _, _, _, rfl, by rw [wkd, if_pos HK.out, if_pos HD.out, wkF, HF.out, if_pos rfl, if_neg HM.out]; rfl⟩, ?_⟩
    exact bel_set5 (by omega) BB3.out _ _ _ _ _
  · have HM : Hid ((r && (x || !wr)) = true) := hm
    clear hm
    go_wp2
    refine bodyPost_ret (v := .tuple #[.agg #[.bool b, .bool r, .bool x, .bool l, J p], J 0, J 0]) (by simp [results, Tryz.results123, go_sem, *]) rfl ⟨⟨_, _, _, _, _, _, _, rfl, by rw [wkd, if_pos HK.out, if_pos HD.out, wkF, HF.out, if_pos rfl, if_pos HM.out]⟩, ?_⟩
    exact bel_set5 (by omega) BB3.out _ _ _ _ _
def wth (ps : List Int) : Nat → List Int
  | 0 => zeros
  | j + 1 => (wth ps j).set (nth ps (2 * j)).toNat (nth ps (2 * j + 1))
theorem wth_len (ps : List Int) (j : Nat) : (wth ps j).length = 512 := by
  induction j with
  | zero => exact zeros_length
  | succ j ih => rw [wth, List.length_set, ih]
def WithRel (w : World) (ps : List Int) (j : Nat) (w' : World) : Prop :=
  (∃ cs : Array Value, w'.heap[w.heap.size + 1]? = some (.cells cs 3 (0, 0)) ∧ cs.toList = (wth ps j).map (fun z => J z)) ∧
  w'.heap[w.heap.size + 1 + 1]? = some (.cells #[.slice (some ⟨w.heap.size + 1, 0, none⟩) 512 512] 24 (0, 0)) ∧
  w'.heap[w.heap.size]? = some (.cells #[.slice none 0 0] 24 (0, 0)) ∧
  Below w.heap.size w w'
theorem WithRel.next {w w' : World} {ps : List Int} {j : Nat} (h : WithRel w ps j w') : WithRel w ps (j + 1) ((w'.setCell ⟨w.heap.size + 1, (nth ps (2 * j)).toNat, none⟩ (J (nth ps (2 * j + 1)))).drew) := by
  obtain ⟨⟨cs, h1, h2⟩, h3, h4, h5⟩ := h
  refine ⟨⟨_, heap_setCell_same _ _ _ cs _ _ h1, ?_⟩, ?_, ?_, ?_⟩
  · rw [Array.toList_setIfInBounds, h2, wth, List.map_set]
  · show (w'.setCell _ _).heap[_]? = _
    rw [heap_setCell_other _ _ _ _ (by simp)]; exact h3
  · show (w'.setCell _ _).heap[_]? = _
    rw [heap_setCell_other _ _ _ _ (by simp)]; exact h4
  · exact (h5.setCell (p := ⟨w.heap.size + 1, _, none⟩) (by simp) _).drew
set_option maxHeartbeats 2000000 in
theorem with_own (b o cap : Nat) (ps : List Int) (m : Nat) (w : World) (h : Sl w (.slice (some ⟨b, o, none⟩) (2 * m) cap) ps) (hl : ps.length = 2 * m) (hm9 : m < 1000) (hp : ∀ j, j < m → 0 ≤ nth ps (2 * j) ∧ nth ps (2 * j) < 512) :
    Calls Tryz.prog 71 #[.slice (some ⟨b, o, none⟩) (2 * m : Nat) cap] w fun e w' => ∃ g, e = .returned (.agg #[.slice (some ⟨g, 0, none⟩) 512 512]) ∧ Sl w' (.slice (some ⟨g, 0, none⟩) 512 512) (wth ps m) ∧ Below w.heap.size w w' ∧ w.heap.size ≤ g ∧ ∃ cs : Array Value, w'.heap[g]? = some (.cells cs 3 (0, 0)) ∧ cs.toList = (wth ps m).map (fun z => J z) := by
  have hm := make512
  have HP : Hid (∀ j, j < m → 0 ≤ nth ps (2 * j) ∧ nth ps (2 * j) < 512) := hp
  have HS : Hid (∀ i, i < 2 * m → b < w.heap.size ∧ w.cell? ⟨b, o + i, none⟩ = some (J (nth ps i))) := by
    intro i hi
    obtain ⟨a, c, ha, _, hh⟩ := h
    simp at ha
    obtain ⟨rfl, _⟩ := ha
    rcases hh with rfl | ⟨b', o', hb, hlt, hc⟩
    · simp at hl; omega
    · simp at hb
      obtain ⟨rfl, rfl⟩ := hb
      exact ⟨hlt, hc i (by omega)⟩
  clear h hp
  go_enter Tryz.func71, Tryz.ntmps71
  go_wp2
  go_loopw [4] (fun i w' => ∃ j : Nat, j ≤ m ∧ i = J (2 * j : Nat) ∧ WithRel w ps j w') (fun i _ => 2 * m - (intOf i).toNat)
  case atStart =>
    refine ⟨0, Nat.zero_le _, rfl, ⟨_, heap_past (by simp) (heap_at (by simp)), zeroCells_list⟩, heap_at (by simp), heap_past (by simp; omega) (heap_past (by simp) (heap_at rfl)), bel_alloc (bel_alloc (bel_alloc (Below.refl _ _) _) _) _⟩
  case round =>
    obtain ⟨j, hj, rfl, hR⟩ := hrel
    have HR : Hid (WithRel w ps j wr) := hR
    obtain ⟨⟨cs, h1, h2⟩, h3, h4, h5⟩ := hR
    have q3 := cell_of_row wr (w.heap.size + 1 + 1) 0 _ _ _ h3
    by_cases hlt : j < m
    · obtain ⟨p0, p1⟩ := HP.out j hlt
      obtain ⟨hb, e0⟩ := HS.out (2 * j) (by omega)
      obtain ⟨_, e1⟩ := HS.out (2 * j + 1) (by omega)
      have g0 : wr.cell? ⟨b, o + 2 * j, none⟩ = some (J (nth ps (2 * j))) := by rw [h5.cell (p := ⟨b, _, none⟩) hb]; exact e0
      have g1 : wr.cell? ⟨b, o + (2 * j + 1), none⟩ = some (J (nth ps (2 * j + 1))) := by rw [h5.cell (p := ⟨b, _, none⟩) hb]; exact e1
      have gm : wr.cell? ⟨w.heap.size + 1, (nth ps (2 * j)).toNat, none⟩ = some (J (nth (wth ps j) (nth ps (2 * j)).toNat)) := by
        rw [cell_of_row _ _ _ _ _ _ h1, ← Array.getElem?_toList, h2, List.getElem?_map, getElem?_nth (by rw [wth_len]; omega)]; rfl
      have gf : wr.frozen? ⟨w.heap.size + 1, (nth ps (2 * j)).toNat, none⟩ = false := frozen_of_row _ _ _ _ _ h1
      have HX : Hid _ := HR.out.next
      generalize nth ps (2 * j) = p at *
      generalize nth ps (2 * j + 1) = x at *
      generalize hk : 2 * j = k at *
      have hlt1 : (k : Int) + 1 < (2 * m : Nat) := by omega
      have hlt0 : (k : Int) < (2 * m : Nat) := by omega
      have hw : wrap64 ((k : Int) + 1) = k + 1 := by unfold wrap64; omega
      clear e0 e1 h1 h2 h3 h4 h5
      go_wp2
      go_region
      go_wp2
      refine ⟨⟨j + 1, by omega, by congr 1; omega, HX.out⟩, by simp [intOf]; omega⟩
    · obtain rfl : j = m := by omega
      have HQ : Hid (Sl wr (.slice (some ⟨w.heap.size + 1, 0, none⟩) 512 512) (wth ps j)) := sl_block h1 h2 (wth_len _ _).symm (by rw [wth_len]; simp [maxLen])
      have q4 := cell_of_row wr w.heap.size 0 _ _ _ h4
      have q5 := frozen_of_row wr w.heap.size 0 _ _ h4
      have HB : Hid (Below w.heap.size w wr) := h5
      have HC : Hid (wr.heap[w.heap.size + 1]? = some (.cells cs 3 (0, 0)) ∧ cs.toList = (wth ps j).map (fun z => J z)) := ⟨h1, h2⟩
      clear h1 h2 h3 h4 h5 HR
      generalize hk : 2 * j = k at *
      have hk9 : k < 2000 := by omega
      have hw : wrap64 ((k : Int) + 1) = k + 1 := by unfold wrap64; omega
      have hge : ¬ (k : Int) + 1 < (k : Int) := by omega
      go_wp2
      refine bodyPost_ret (v := .agg #[.slice (some ⟨w.heap.size + 1, 0, none⟩) 512 512]) (by simp [results, Tryz.results71, go_sem, *]) rfl ⟨_, rfl, HQ.out.setOther (by simp [Value.ownBlock]) _, HB.out.setCell (p := ⟨w.heap.size, 0, none⟩) (by simp) _, by omega, cs, by rw [heap_setCell_other _ _ _ _ (by simp)]; exact HC.out.1, HC.out.2⟩
theorem walk_at {v : Value} {zs : List Int} {root page : Int} {wr : Bool} {w : World} {b r x l : Bool} {p f c : Int} (hk : wkd zs root page wr = ((b, r, x, l, p), f, c)) (h : Sl w v zs) :
    Calls Tryz.prog 123 #[.agg #[v], J root, J page, .bool wr] w fun e w' => e = .returned (.tuple #[.agg #[.bool b, .bool r, .bool x, .bool l, J p], J f, J c]) ∧ Below w.heap.size w w' := by
  refine (walk_any v zs root page wr w h).mono ?_
  rintro e w' ⟨⟨b', r', x', l', p', f', c', rfl, hk'⟩, hb⟩
  rw [hk] at hk'
  simp only [Prod.mk.injEq] at hk'
  obtain ⟨⟨rfl, rfl, rfl, rfl, rfl⟩, rfl, rfl⟩ := hk'
  exact ⟨rfl, hb⟩
theorem vE_of_flt {z : Int} (h : fltR z = 0) : vE z = true := by
  unfold fltR at h
  cases ho : okE z
  · simp [ho] at h
  · cases hv : vE z
    · simp [ho, hv] at h
    · rfl
theorem fnd_good {zs : List Int} {root page : Int} {b r x l : Bool} {p : Int} (h : fnd zs root page = ((b, r, x, l, p), 0)) : b = true ∧ l = true := by
  unfold fnd at h
  by_cases h1 : fltR (one zs root page) = 0
  · rw [if_pos h1] at h
    by_cases h2 : lE (one zs root page) = true
    · rw [if_pos h2] at h
      by_cases h3 : pE (one zs root page) % 8 = 0
      · rw [if_pos h3] at h
        simp only [Prod.mk.injEq] at h
        obtain ⟨⟨e1, _, _, e4, _⟩, _⟩ := h
        exact ⟨e1 ▸ vE_of_flt h1, e4 ▸ h2⟩
      · rw [if_neg h3] at h
        simp only [Prod.mk.injEq] at h
        omega
    · rw [if_neg h2] at h
      by_cases h3 : fltR (two zs root page) = 0
      · rw [if_pos h3] at h
        by_cases h4 : lE (two zs root page) = true
        · rw [if_pos h4, entE] at h
          simp only [Prod.mk.injEq] at h
          obtain ⟨⟨e1, _, _, e4, _⟩, _⟩ := h
          exact ⟨e1 ▸ vE_of_flt h3, e4 ▸ h4⟩
        · rw [if_neg h4] at h
          simp only [Prod.mk.injEq] at h
          omega
      · rw [if_neg h3] at h
        simp only [Prod.mk.injEq] at h
        exact absurd h.2 h3
  · rw [if_neg h1] at h
    simp only [Prod.mk.injEq] at h
    exact absurd h.2 h1
end Go.Proofs.YthlhocneggcekaaGreat
