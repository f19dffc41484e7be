/-
  drawbridgelaw's with: words at places, of noughts; it turns nothing that was there.
-/
import Derived.Test.YtemnklppplgcoabPut
namespace Go.Proofs.Ytemnklppplgcoab
open Go.RowKit

/-- Noughts, and the first so many pairs laid. -/
def wth (ps : List Int) : Nat → List Int
  | 0 => zeros
  | j + 1 => (wth ps j).set (nth ps (2 * j)).toNat (nth ps (2 * j + 1))
theorem wth_len (ps : List Int) (j : Nat) : (wth ps j).length = 512 := by
  induction j with
  | zero => exact zeros_length
  | succ j ih => rw [wth, List.length_set, ih]

/-- What the rounds of with keep. -/
def WithRel (w : World) (ps : List Int) (j : Nat) (w' : World) : Prop :=
  (∃ cs : Array Value, w'.heap[w.heap.size + 1]? = some (.cells cs 3 (0, 0)) ∧ cs.toList = (wth ps j).map (fun z => Value.int .i64 z)) ∧
  w'.heap[w.heap.size + 1 + 1]? = some (.cells #[.slice (some ⟨w.heap.size + 1, 0, none⟩) 512 512] 39 (0, 0)) ∧
  w'.heap[w.heap.size]? = some (.cells #[.slice none 0 0] 39 (0, 0)) ∧
  Below w.heap.size w w'

theorem WithRel.next {w w' : World} {ps : List Int} {j : Nat} (h : WithRel w ps j w') : WithRel w ps (j + 1) ((w'.setCell ⟨w.heap.size + 1, (nth ps (2 * j)).toNat, none⟩ (.int .i64 (nth ps (2 * j + 1)))).drew) := by
  obtain ⟨⟨cs, h1, h2⟩, h3, h4, h5⟩ := h
  refine ⟨⟨_, heap_setCell_same _ _ _ cs _ _ h1, ?_⟩, ?_, ?_, ?_⟩
  · rw [Array.toList_setIfInBounds, h2, wth, List.map_set]
  · show (w'.setCell _ _).heap[_]? = _
    rw [heap_setCell_other _ _ _ _ (by simp)]; exact h3
  · show (w'.setCell _ _).heap[_]? = _
    rw [heap_setCell_other _ _ _ _ (by simp)]; exact h4
  · exact (h5.setCell (p := ⟨w.heap.size + 1, _, none⟩) (by simp) _).drew

set_option maxHeartbeats 2000000 in
theorem with_own (b o cap : Nat) (ps : List Int) (m : Nat) (w : World) (h : Sl w (.slice (some ⟨b, o, none⟩) (2 * m) cap) ps) (hl : ps.length = 2 * m) (hm9 : m < 1000) (hp : ∀ j, j < m → 0 ≤ nth ps (2 * j) ∧ nth ps (2 * j) < 512) :
    Calls Try.prog 79 #[.slice (some ⟨b, o, none⟩) (2 * m : Nat) cap] w fun e w' => ∃ g, e = .returned (.agg #[.slice (some ⟨g, 0, none⟩) 512 512]) ∧ Sl w' (.slice (some ⟨g, 0, none⟩) 512 512) (wth ps m) ∧ Below w.heap.size w w' ∧ w.heap.size ≤ g ∧ ∃ cs : Array Value, w'.heap[g]? = some (.cells cs 3 (0, 0)) ∧ cs.toList = (wth ps m).map (fun z => Value.int .i64 z) := by
  have hm := make512
  have HP : Hid (∀ j, j < m → 0 ≤ nth ps (2 * j) ∧ nth ps (2 * j) < 512) := hp
  have HS : Hid (∀ i, i < 2 * m → b < w.heap.size ∧ w.cell? ⟨b, o + i, none⟩ = some (.int .i64 (nth ps i))) := by
    intro i hi
    obtain ⟨a, c, ha, _, hh⟩ := h
    simp at ha
    obtain ⟨rfl, _⟩ := ha
    rcases hh with rfl | ⟨b', o', hb, hlt, hc⟩
    · simp at hl; omega
    · simp at hb
      obtain ⟨rfl, rfl⟩ := hb
      exact ⟨hlt, hc i (by omega)⟩
  clear h hp
  go_enter Try.func79, Try.ntmps79
  go_wp2
  go_loopw [4] (fun i w' => ∃ j : Nat, j ≤ m ∧ i = .int .i64 (2 * j : Nat) ∧ WithRel w ps j w') (fun i _ => 2 * m - (intOf i).toNat)
  case atStart =>
    refine ⟨0, Nat.zero_le _, rfl, ⟨_, heap_past (by simp) (heap_at (by simp)), zeroCells_list⟩, heap_at (by simp), heap_past (by simp; omega) (heap_past (by simp) (heap_at rfl)), bel_alloc (bel_alloc (bel_alloc (Below.refl _ _) _) _) _⟩
  case round =>
    obtain ⟨j, hj, rfl, hR⟩ := hrel
    have HR : Hid (WithRel w ps j wr) := hR
    obtain ⟨⟨cs, h1, h2⟩, h3, h4, h5⟩ := hR
    have q3 := cell_of_row wr (w.heap.size + 1 + 1) 0 _ _ _ h3
    by_cases hlt : j < m
    · obtain ⟨p0, p1⟩ := HP.out j hlt
      obtain ⟨hb, e0⟩ := HS.out (2 * j) (by omega)
      obtain ⟨_, e1⟩ := HS.out (2 * j + 1) (by omega)
      have g0 : wr.cell? ⟨b, o + 2 * j, none⟩ = some (.int .i64 (nth ps (2 * j))) := by rw [h5.cell (p := ⟨b, _, none⟩) hb]; exact e0
      have g1 : wr.cell? ⟨b, o + (2 * j + 1), none⟩ = some (.int .i64 (nth ps (2 * j + 1))) := by rw [h5.cell (p := ⟨b, _, none⟩) hb]; exact e1
      have gm : wr.cell? ⟨w.heap.size + 1, (nth ps (2 * j)).toNat, none⟩ = some (.int .i64 (nth (wth ps j) (nth ps (2 * j)).toNat)) := by
        rw [cell_of_row _ _ _ _ _ _ h1, ← Array.getElem?_toList, h2, List.getElem?_map, getElem?_nth (by rw [wth_len]; omega)]; rfl
      have gf : wr.frozen? ⟨w.heap.size + 1, (nth ps (2 * j)).toNat, none⟩ = false := frozen_of_row _ _ _ _ _ h1
      have HX : Hid _ := HR.out.next
      generalize nth ps (2 * j) = p at *
      generalize nth ps (2 * j + 1) = x at *
      generalize hk : 2 * j = k at *
      have hlt1 : (k : Int) + 1 < (2 * m : Nat) := by omega
      have hlt0 : (k : Int) < (2 * m : Nat) := by omega
      have hw : wrap64 ((k : Int) + 1) = k + 1 := by unfold wrap64; omega
      clear e0 e1 h1 h2 h3 h4 h5
      go_wp2
      go_region
      go_wp2
      refine ⟨⟨j + 1, by omega, by congr 1; omega, HX.out⟩, by simp [intOf]; omega⟩
    · obtain rfl : j = m := by omega
      have HQ : Hid (Sl wr (.slice (some ⟨w.heap.size + 1, 0, none⟩) 512 512) (wth ps j)) := sl_block h1 h2 (wth_len _ _).symm (by rw [wth_len]; simp [maxLen])
      have q4 := cell_of_row wr w.heap.size 0 _ _ _ h4
      have q5 := frozen_of_row wr w.heap.size 0 _ _ h4
      have HB : Hid (Below w.heap.size w wr) := h5
      have HC : Hid (wr.heap[w.heap.size + 1]? = some (.cells cs 3 (0, 0)) ∧ cs.toList = (wth ps j).map (fun z => Value.int .i64 z)) := ⟨h1, h2⟩
      clear h1 h2 h3 h4 h5 HR
      generalize hk : 2 * j = k at *
      have hk9 : k < 2000 := by omega
      have hw : wrap64 ((k : Int) + 1) = k + 1 := by unfold wrap64; omega
      have hge : ¬ (k : Int) + 1 < (k : Int) := by omega
      go_wp2
      refine bodyPost_ret (v := .agg #[.slice (some ⟨w.heap.size + 1, 0, none⟩) 512 512]) (by simp [results, Try.results79, go_sem, *]) rfl ⟨_, rfl, HQ.out.setOther (by simp [Value.ownBlock]) _, HB.out.setCell (p := ⟨w.heap.size, 0, none⟩) (by simp) _, by omega, cs, by rw [heap_setCell_other _ _ _ _ (by simp)]; exact HC.out.1, HC.out.2⟩
theorem with_any (b o cap : Nat) (ps : List Int) (m : Nat) (w : World) (h : Sl w (.slice (some ⟨b, o, none⟩) (2 * m) cap) ps) (hl : ps.length = 2 * m) (hm9 : m < 1000) (hp : ∀ j, j < m → 0 ≤ nth ps (2 * j) ∧ nth ps (2 * j) < 512) :
    Calls Try.prog 79 #[.slice (some ⟨b, o, none⟩) (2 * m : Nat) cap] w fun e w' => ∃ g, e = .returned (.agg #[.slice (some ⟨g, 0, none⟩) 512 512]) ∧ Sl w' (.slice (some ⟨g, 0, none⟩) 512 512) (wth ps m) ∧ Below w.heap.size w w' :=
  (with_own b o cap ps m w h hl hm9 hp).mono fun _ _ ⟨g, he, hs, hb, _⟩ => ⟨g, he, hs, hb⟩
end Go.Proofs.Ytemnklppplgcoab
