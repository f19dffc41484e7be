/-
  Package mem: what Read, New, Same answer; none turns memory that was there.
-/
import Derived.Test.YtemnklppplgcoabMem
namespace Go.Proofs.Ytemnklppplgcoab
open Go.RowKit

/-- What Read answers: the word, the error. -/
def rdV (zs : List Int) (k : Int) : Int := if chk zs = 0 ∧ placeB k = true then nth zs k.toNat else 0
def rdE (zs : List Int) (k : Int) : Int := if chk zs = 0 then (if placeB k = true then 0 else 4) else chk zs

theorem Sl.open512 {w : World} {v : Value} {zs : List Int} (h : Sl w v zs) (hn : zs.length = 512) : ∃ b o cap, v = .slice (some ⟨b, o, none⟩) 512 cap ∧ b < w.heap.size ∧ ∀ i, i < 512 → w.cell? ⟨b, o + i, none⟩ = some (.int .i64 (nth zs i)) := by
  obtain ⟨a, cap, rfl, hl, h⟩ := h
  rcases h with rfl | ⟨b, o, rfl, hb, hc⟩
  · simp at hn
  · exact ⟨b, o, cap, by rw [hn], hb, fun i hi => hc i (by omega)⟩

theorem ret_pair {a b c d : Int} (h : a = c) (k : b = d) : Ending.returned (.tuple #[.int .i64 a, .int .i64 b]) = .returned (.tuple #[.int .i64 c, .int .i64 d]) := by rw [h, k]

theorem same_any (v1 v2 : Value) (xs ys : List Int) (w : World) (h1 : Sl w v1 xs) (h2 : Sl w v2 ys) :
    Calls Try.prog 40 #[.agg #[v1], .agg #[v2]] w fun e w' => e = .returned (.bool (decide (xs = ys))) ∧ Below w.heap.size w w' := by
  have bel : ∀ o1 o2, Below w.heap.size w ((w.alloc o1).alloc o2) := fun o1 o2 => bel_alloc (bel_alloc (Below.refl _ _) _) _
  go_enter Try.func40, Try.ntmps40
  go_wp2_with fail
  refine (equal_any _ _ xs ys _ ?_ ?_).mono ?_
  · exact h1.keep (bel _ _)
  · exact h2.keep (bel _ _)
  rintro e w1 ⟨rfl, n, rfl⟩
  go_wp2
  go_ret
  exact ⟨rfl, bel_drewN (bel _ _) _⟩

/-- The cells of new memory: a plain name, so that the walk's own rules leave it standing. -/
def zeroCells : Array Value := madeCells #[.int .i64 0] 512
def zeros : List Int := List.replicate 512 0
theorem zeroCells_list : zeroCells.toList = zeros.map (fun z => Value.int .i64 z) := by
  unfold zeroCells zeros
  rw [toList_madeCells_one, List.map_replicate]
theorem zeros_length : zeros.length = 512 := List.length_replicate

theorem infoInt : ∃ i, Try.prog.info? 3 = some i ∧ i.zero = some (.int .i64 0) ∧ i.size = 1 ∧ i.bytes = 8 := by
  have h : (Try.prog.info? 3).map (fun i => (i.zero, i.size, i.bytes)) = some (some (.int .i64 0), 1, 8) := by kernel_rfl
  cases hi : Try.prog.info? 3 with
  | none => rw [hi] at h; simp at h
  | some i => rw [hi] at h; simp at h; exact ⟨i, rfl, h.1, h.2.1, h.2.2⟩

theorem make512 (w : World) : (Instr.makeSlice 37 (.int .i64 512) (.int .i64 512)).run Try.prog w = .ok (.slice (some ⟨w.heap.size, 0, none⟩) 512 512) (w.alloc (.cells zeroCells 3)) := by
  obtain ⟨i, hi, hz, hs, hb⟩ := infoInt
  have h := run_make (P := Try.prog) w 37 3 i _ Try.underlying37 hi hz .i64 .i64 512 512 (by decide) (by decide) (by rw [hb]; decide) (by decide)
  rw [hs] at h
  exact h

set_option maxHeartbeats 1000000 in
/-- New's memory lies in a block of its own. -/
theorem new_own (w : World) :
    Calls Try.prog 87 #[] w fun e w' => ∃ g, e = .returned (.agg #[.slice (some ⟨g, 0, none⟩) 512 512]) ∧ w'.heap[g]? = some (.cells zeroCells 3 (0, 0)) ∧ w.heap.size ≤ g ∧ Below w.heap.size w w' := by
  have hm := make512
  go_enter Try.func87, Try.ntmps87
  go_wp2
  exact bodyPost_ret (v := .agg #[.slice (some ⟨w.heap.size + 1, 0, none⟩) 512 512]) (by simp [results, Try.results87, go_sem]) rfl ⟨_, rfl, heap_at (by simp), by omega, bel_alloc (bel_alloc (Below.refl _ _) _) _⟩

theorem new_any (w : World) :
    Calls Try.prog 87 #[] w fun e w' => ∃ v, e = .returned (.agg #[v]) ∧ Sl w' v zeros ∧ Below w.heap.size w w' :=
  (new_own w).mono fun e w' ⟨g, he, hg, _, hb⟩ => ⟨_, he, sl_block hg zeroCells_list zeros_length.symm (by rw [zeros_length]; simp [maxLen]), hb⟩
end Go.Proofs.Ytemnklppplgcoab
