/-
  drawbridgelaw's with: words at places, of noughts; it turns nothing that was there.
-/
import Derived.Test.YtnpgldcambbnhaaWalk2
namespace Go.Proofs.Ytnpgldcambbnhaa
open Go.RowKit

/-- Noughts, and the first so many pairs laid. -/
def wth (ps : List Int) : Nat → List Int
  | 0 => zeros
  | j + 1 => (wth ps j).set (nth ps (2 * j)).toNat (nth ps (2 * j + 1))
theorem wth_len (ps : List Int) (j : Nat) : (wth ps j).length = 512 := by
  induction j with
  | zero => exact zeros_length
  | succ j ih => rw [wth, List.length_set, ih]

/-- What the rounds of with keep. -/
def WithRel (w : World) (ps : List Int) (j : Nat) (w' : World) : Prop :=
  (∃ cs : Array Value, w'.heap[w.heap.size + 1]? = some (.cells cs 3 (0, 0)) ∧ cs.toList = (wth ps j).map (fun z => Value.int .i64 z)) ∧
  w'.heap[w.heap.size + 1 + 1]? = some (.cells #[.slice (some ⟨w.heap.size + 1, 0, none⟩) 512 512] 28 (0, 0)) ∧
  w'.heap[w.heap.size]? = some (.cells #[.slice none 0 0] 28 (0, 0)) ∧
  Below w.heap.size w w'

theorem WithRel.next {w w' : World} {ps : List Int} {j : Nat} (h : WithRel w ps j w') : WithRel w ps (j + 1) ((w'.setCell ⟨w.heap.size + 1, (nth ps (2 * j)).toNat, none⟩ (.int .i64 (nth ps (2 * j + 1)))).drew) := by
  obtain ⟨⟨cs, h1, h2⟩, h3, h4, h5⟩ := h
  refine ⟨⟨_, heap_setCell_same _ _ _ cs _ _ h1, ?_⟩, ?_, ?_, ?_⟩
  · rw [Array.toList_setIfInBounds, h2, wth, List.map_set]
  · show (w'.setCell _ _).heap[_]? = _
    rw [heap_setCell_other _ _ _ _ (by simp)]; exact h3
  · show (w'.setCell _ _).heap[_]? = _
    rw [heap_setCell_other _ _ _ _ (by simp)]; exact h4
  · exact (h5.setCell (p := ⟨w.heap.size + 1, _, none⟩) (by simp) _).drew

set_option maxHeartbeats 2000000 in
theorem with_any (b o cap : Nat) (ps : List Int) (m : Nat) (w : World) (h : Sl w (.slice (some ⟨b, o, none⟩) (2 * m) cap) ps) (hl : ps.length = 2 * m) (hm9 : m < 1000) (hp : ∀ j, j < m → 0 ≤ nth ps (2 * j) ∧ nth ps (2 * j) < 512) :
    Calls Try.prog 48 #[.slice (some ⟨b, o, none⟩) (2 * m : Nat) cap] w fun e w' => ∃ g, e = .returned (.agg #[.slice (some ⟨g, 0, none⟩) 512 512]) ∧ Sl w' (.slice (some ⟨g, 0, none⟩) 512 512) (wth ps m) ∧ Below w.heap.size w w' := by
  have hm := make512
  have HP : Hid (∀ j, j < m → 0 ≤ nth ps (2 * j) ∧ nth ps (2 * j) < 512) := hp
  have HS : Hid (∀ i, i < 2 * m → b < w.heap.size ∧ w.cell? ⟨b, o + i, none⟩ = some (.int .i64 (nth ps i))) := by
    intro i hi
    obtain ⟨a, c, ha, _, hh⟩ := h
    simp at ha
    obtain ⟨rfl, _⟩ := ha
    rcases hh with rfl | ⟨b', o', hb, hlt, hc⟩
    · simp at hl; omega
    · simp at hb
      obtain ⟨rfl, rfl⟩ := hb
      exact ⟨hlt, hc i (by omega)⟩
  clear h hp
  go_enter Try.func48, Try.ntmps48
  go_wp2
  go_loopw [4] (fun i w' => ∃ j : Nat, j ≤ m ∧ i = .int .i64 (2 * j : Nat) ∧ WithRel w ps j w') (fun i _ => 2 * m - (intOf i).toNat)
  case atStart =>
    refine ⟨0, Nat.zero_le _, rfl, ⟨_, heap_past (by simp) (heap_at (by simp)), zeroCells_list⟩, heap_at (by simp), heap_past (by simp; omega) (heap_past (by simp) (heap_at rfl)), bel_alloc (bel_alloc (bel_alloc (Below.refl _ _) _) _) _⟩
  case round =>
    obtain ⟨j, hj, rfl, hR⟩ := hrel
    have HR : Hid (WithRel w ps j wr) := hR
    obtain ⟨⟨cs, h1, h2⟩, h3, h4, h5⟩ := hR
    have q3 := cell_of_row wr (w.heap.size + 1 + 1) 0 _ _ _ h3
    by_cases hlt : j < m
    · obtain ⟨p0, p1⟩ := HP.out j hlt
      obtain ⟨hb, e0⟩ := HS.out (2 * j) (by omega)
      obtain ⟨_, e1⟩ := HS.out (2 * j + 1) (by omega)
      have g0 : wr.cell? ⟨b, o + 2 * j, none⟩ = some (.int .i64 (nth ps (2 * j))) := by rw [h5.cell (p := ⟨b, _, none⟩) hb]; exact e0
      have g1 : wr.cell? ⟨b, o + (2 * j + 1), none⟩ = some (.int .i64 (nth ps (2 * j + 1))) := by rw [h5.cell (p := ⟨b, _, none⟩) hb]; exact e1
      have gm : wr.cell? ⟨w.heap.size + 1, (nth ps (2 * j)).toNat, none⟩ = some (.int .i64 (nth (wth ps j) (nth ps (2 * j)).toNat)) := by
        rw [cell_of_row _ _ _ _ _ _ h1, ← Array.getElem?_toList, h2, List.getElem?_map, getElem?_nth (by rw [wth_len]; omega)]; rfl
      have gf : wr.frozen? ⟨w.heap.size + 1, (nth ps (2 * j)).toNat, none⟩ = false := frozen_of_row _ _ _ _ _ h1
      have HX : Hid _ := HR.out.next
      generalize nth ps (2 * j) = p at *
      generalize nth ps (2 * j + 1) = x at *
      generalize hk : 2 * j = k at *
      have hlt1 : (k : Int) + 1 < (2 * m : Nat) := by omega
      have hlt0 : (k : Int) < (2 * m : Nat) := by omega
      have hw : wrap64 ((k : Int) + 1) = k + 1 := by unfold wrap64; omega
      clear e0 e1 h1 h2 h3 h4 h5
      go_wp2
      go_region
      go_wp2
      refine ⟨⟨j + 1, by omega, by congr 1; omega, HX.out⟩, by simp [intOf]; omega⟩
    · obtain rfl : j = m := by omega
      have HQ : Hid (Sl wr (.slice (some ⟨w.heap.size + 1, 0, none⟩) 512 512) (wth ps j)) := sl_block h1 h2 (wth_len _ _).symm (by rw [wth_len]; simp [maxLen])
      have q4 := cell_of_row wr w.heap.size 0 _ _ _ h4
      have q5 := frozen_of_row wr w.heap.size 0 _ _ h4
      have HB : Hid (Below w.heap.size w wr) := h5
      clear h1 h2 h3 h4 h5 HR
      generalize hk : 2 * j = k at *
      have hk9 : k < 2000 := by omega
      have hw : wrap64 ((k : Int) + 1) = k + 1 := by unfold wrap64; omega
      have hge : ¬ (k : Int) + 1 < (k : Int) := by omega
      go_wp2
      refine bodyPost_ret (v := .agg #[.slice (some ⟨w.heap.size + 1, 0, none⟩) 512 512]) (by simp [results, Try.results48, go_sem, *]) rfl ⟨_, rfl, HQ.out.setOther (by simp [Value.ownBlock]) _, HB.out.setCell (p := ⟨w.heap.size, 0, none⟩) (by simp) _⟩

/-- The memory of the closed fact walked. -/
def wkm : List Int := wth [16, 49, 17, 143, 25, 155] 3
theorem wkm_len : wkm.length = 512 := wth_len _ _
theorem wkd_1 : wkd wkm 2 1 false = ((true, true, false, true, 9), 0, 0) := by decide +kernel
theorem wkd_2 : wkd wkm 2 1 true = ((false, false, false, false, 0), 5, 0) := by decide +kernel
theorem wkd_3 : wkd wkm 2 13 true = ((true, true, true, true, 13), 0, 0) := by decide +kernel
theorem wkd_4 : wkd wkm 2 2 false = ((false, false, false, false, 0), 3, 0) := by decide +kernel

/-- Walk, where its answer is known. -/
theorem walk_at {v : Value} {zs : List Int} {root page : Int} {wr : Bool} {w : World} {b r x l : Bool} {p f c : Int} (hk : wkd zs root page wr = ((b, r, x, l, p), f, c)) (h : Sl w v zs) :
    Calls Try.prog 30 #[.agg #[v], .int .i64 root, .int .i64 page, .bool wr] w fun e w' => e = .returned (.tuple #[.agg #[.bool b, .bool r, .bool x, .bool l, .int .i64 p], .int .i64 f, .int .i64 c]) ∧ Below w.heap.size w w' := by
  refine (walk_any v zs root page wr w h).mono ?_
  rintro e w' ⟨⟨b', r', x', l', p', f', c', rfl, hk'⟩, hb⟩
  rw [hk] at hk'
  simp only [Prod.mk.injEq] at hk'
  obtain ⟨⟨rfl, rfl, rfl, rfl, rfl⟩, rfl, rfl⟩ := hk'
  exact ⟨rfl, hb⟩

set_option maxHeartbeats 2000000 in
theorem walked_true (w : World) : Calls Try.prog 31 #[] w fun e w' => e = .returned (.bool true) ∧ Below w.heap.size w w' := by
  go_enter Try.func31, Try.ntmps31
  go_wp2_with fail
  refine (with_any _ 0 6 [16, 49, 17, 143, 25, 155] 3 _ (sl_block (heap_at rfl) rfl rfl (by simp [maxLen])) rfl (by decide) (by decide)).mono ?_
  rintro e w1 ⟨g1, rfl, h1, b1⟩
  have B1 : Hid (Below w.heap.size w w1) := bel_trans (bel_alloc (Below.refl _ _) _) b1
  clear b1
  go_wp2_with fail
  refine (walk_at wkd_1 (h1.keep (bel_alloc (Below.refl _ _) _))).mono ?_
  rintro e w2 ⟨rfl, b2⟩
  have K2 := (Blk.new _ _ _ _).keep b2
  have B2 : Hid (Below w.heap.size w w2) := bel_trans (bel_alloc B1.out _) b2
  have h2 := h1.keep (bel_trans (bel_alloc (Below.refl _ _) _) b2)
  have L2 := K2.lt
  have d2 := K2.cell 0
  clear b2 h1 B1
  go_wp2_with fail
  refine (walk_at wkd_2 (h2.keep (bel_alloc (Below.refl _ _) _))).mono ?_
  rintro e w3 ⟨rfl, b3⟩
  have K3 := (K2.past _).keep b3
  have J3 := (Blk.new _ _ _ _).keep b3
  have B3 : Hid (Below w.heap.size w w3) := bel_trans (bel_alloc B2.out _) b3
  have h3 := h2.keep (bel_trans (bel_alloc (Below.refl _ _) _) b3)
  have L3 := K3.lt
  have d3 := K3.cell 0
  clear b3 h2 B2 K2 d2 L2
  go_wp2_with fail
  refine (walk_at wkd_3 (h3.keep (bel_alloc (Below.refl _ _) _))).mono ?_
  rintro e w4 ⟨rfl, b4⟩
  have K4 := (K3.past _).keep b4
  have J4 := (J3.past _).keep b4
  have B4 : Hid (Below w.heap.size w w4) := bel_trans (bel_alloc B3.out _) b4
  have h4 := h3.keep (bel_trans (bel_alloc (Below.refl _ _) _) b4)
  have L4 := K4.lt
  have d4 := K4.cell 0
  clear b4 h3 B3 K3 d3 L3 J3
  go_wp2_with fail
  refine (walk_at wkd_4 (h4.keep (bel_alloc (Below.refl _ _) _))).mono ?_
  rintro e w5 ⟨rfl, b5⟩
  have J5 := (J4.past _).keep b5
  have M5 := (Blk.new _ _ _ _).keep b5
  have B5 : Hid (Below w.heap.size w w5) := bel_trans (bel_alloc B4.out _) b5
  obtain ⟨j0, j1, j2, j3, j4⟩ := J5.five
  obtain ⟨m0, m1, m2, m3, m4⟩ := M5.five
  have l1 := J5.lt
  have l2 := M5.lt
  clear b5 h4 B4 K4 d4 L4 J4 J5 M5
  go_wp2
  go_ret
  exact ⟨rfl, bel_alloc B5.out _⟩
end Go.Proofs.Ytnpgldcambbnhaa
