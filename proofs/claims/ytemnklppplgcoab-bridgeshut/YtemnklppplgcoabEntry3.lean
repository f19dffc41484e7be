/-
  Package entry: what ReadContext, Put, PutContext answer; none turns memory that was there.
-/
import Derived.Test.YtemnklppplgcoabEntry2
namespace Go.Proofs.Ytemnklppplgcoab
open Go.RowKit

set_option maxHeartbeats 2000000 in
theorem eReadContext_any (z : Int) (w : World) :
    Calls Try.prog 76 #[.int .i64 z] w fun e w' => e = .returned (.tuple #[.agg #[.bool (vC z), .bool (aC z), .int .i64 (pC z)], .bool (okC z)]) ∧ Below w.heap.size w w' := by
  cases hw : wordB z
  · have ho : okC z = false := by simp [okC, hw]
    have hv : vC z = false := by simp [vC, ho]
    rw [ho, hv, show aC z = false by simp [aC, hv], show pC z = 0 by simp [pC, hv]]
    go_enter Try.func76, Try.ntmps76
    go_wp2_with fail
    refine (eIsWord_any _ _).mono ?_
    rintro e w1 ⟨rfl, rfl⟩
    rw [hw]
    go_wp2
    refine bodyPost_ret (v := .tuple #[.agg #[.bool false, .bool false, .int .i64 0], .bool false]) (by simp [results, Try.results76, go_sem]) rfl ⟨rfl, ?_⟩
    exact bel_alloc (Below.refl _ _) _
  · obtain ⟨h0, h1⟩ : 0 ≤ z ∧ z ≤ 65535 := by simpa [wordB] using hw
    cases hb : bitB z 0
    · have ho : okC z = true := by simp [okC, hw, hb]
      have hv : vC z = false := by simp [vC, hb]
      rw [ho, hv, show aC z = false by simp [aC, hv], show pC z = 0 by simp [pC, hv]]
      go_enter Try.func76, Try.ntmps76
      go_wp2_with fail
      refine (eIsWord_any _ _).mono ?_
      rintro e w1 ⟨rfl, rfl⟩
      rw [hw]
      go_wp2_with fail
      refine (has_any _ _ [0] _ h0 h1 (sl_block (by repeat (first | (refine heap_at ?_; simp; done) | (refine heap_past ?_ ?_; · (simp; try omega)))) rfl rfl (by simp [maxLen])) (by decide)).mono ?_
      rintro e w1 ⟨rfl, rfl⟩
      rw [show anyB z [0] = false from (any_one z 0).trans hb]
      go_wp2
      refine bodyPost_ret (v := .tuple #[.agg #[.bool false, .bool false, .int .i64 0], .bool true]) (by simp [results, Try.results76, go_sem]) rfl ⟨rfl, ?_⟩
      exact bel_alloc (bel_alloc (Below.refl _ _) _) _
    · have goal : ∀ hi fo : Bool, anyB z [2, 3, 10, 11, 12, 13, 14, 15] = hi → formC true (bitB z 1) (z / 16 % 64) = fo →
          Calls Try.prog 76 #[.int .i64 z] w fun e w' => e = .returned (.tuple #[.agg #[.bool (!hi && fo), .bool ((!hi && fo) && bitB z 1), .int .i64 (if !hi && fo then z / 16 % 64 else 0)], .bool (!hi && fo)]) ∧ Below w.heap.size w w' := by
        intro hi fo hhi hfo
        go_enter Try.func76, Try.ntmps76
        go_wp2_with fail
        refine (eIsWord_any _ _).mono ?_
        rintro e w1 ⟨rfl, rfl⟩
        rw [hw]
        go_wp2_with fail
        refine (has_any _ _ [0] _ h0 h1 (sl_block (by repeat (first | (refine heap_at ?_; simp; done) | (refine heap_past ?_ ?_; · (simp; try omega)))) rfl rfl (by simp [maxLen])) (by decide)).mono ?_
        rintro e w1 ⟨rfl, rfl⟩
        rw [show anyB z [0] = true from (any_one z 0).trans hb]
        go_wp2_with fail
        refine (has_any _ _ [1] _ h0 h1 (sl_block (by repeat (first | (refine heap_at ?_; simp; done) | (refine heap_past ?_ ?_; · (simp; try omega)))) rfl rfl (by simp [maxLen])) (by decide)).mono ?_
        rintro e w1 ⟨rfl, rfl⟩
        rw [show anyB z [1] = bitB z 1 from any_one z 1]
        go_wp2_with fail
        refine (pageOf_any _ _ h0 h1).mono ?_
        rintro e w1 ⟨rfl, rfl⟩
        go_wp2_with fail
        refine (has_any _ _ [2, 3, 10, 11, 12, 13, 14, 15] _ h0 h1 (sl_block (by repeat (first | (refine heap_at ?_; simp; done) | (refine heap_past ?_ ?_; · (simp; try omega)))) rfl rfl (by simp [maxLen])) (by decide)).mono ?_
        rintro e w1 ⟨rfl, rfl⟩
        rw [hhi]
        cases hi
        · go_wp2_with fail
          refine (isContext_any _ _ _ _).mono ?_
          rintro e w1 ⟨rfl, o1, rfl⟩
          rw [hfo]
          cases fo
          · go_wp2
            refine bodyPost_ret (v := .tuple #[.agg #[.bool false, .bool false, .int .i64 0], .bool false]) (by simp [results, Try.results76, go_sem]) rfl ⟨rfl, ?_⟩
            repeat (first | exact Below.refl _ _ | refine bel_alloc ?_ _)
          · go_wp2
            refine bodyPost_ret (v := .tuple #[.agg #[.bool true, .bool (bitB z 1), .int .i64 (z / 16 % 64)], .bool true]) (by simp [results, Try.results76, go_sem]) rfl ⟨rfl, ?_⟩
            repeat (first | exact Below.refl _ _ | refine bel_alloc ?_ _)
        · go_wp2
          refine bodyPost_ret (v := .tuple #[.agg #[.bool false, .bool false, .int .i64 0], .bool false]) (by simp [results, Try.results76, go_sem]) rfl ⟨rfl, ?_⟩
          repeat (first | exact Below.refl _ _ | refine bel_alloc ?_ _)
      have ho : okC z = (!anyB z [2, 3, 10, 11, 12, 13, 14, 15] && formC true (bitB z 1) (z / 16 % 64)) := by simp [okC, hw, hb]
      have hv : vC z = okC z := by simp [vC, hb]
      have := goal _ _ rfl rfl
      rw [← ho] at this
      rw [aC, pC, hv]
      exact this

/-- What Put answers, and PutContext. -/
def putE (v r x l : Bool) (p : Int) : Int := if pageB p then (if formE v r x l p then 0 else 3) else 2
def putW (v r x l : Bool) (p : Int) : Int := if putE v r x l p = 0 then accB p [v, r, x, l] 4 else 0
def ptcE (v a : Bool) (p : Int) : Int := if pageB p then (if formC v a p then 0 else 3) else 2
def ptcW (v a : Bool) (p : Int) : Int := if ptcE v a p = 0 then accB p [v, a] 2 else 0

theorem flag_cells {w : World} {b : Nat} {t : TypeId} {fr : Nat × Nat} {cs : Array Value} {fs : List Bool} (hb : w.heap[b]? = some (.cells cs t fr)) (hcs : cs.toList = fs.map Value.bool) :
    ∀ i, i < fs.length → w.cell? ⟨b, i, none⟩ = some (.bool (bth fs i)) := fun i hi => by
  rw [cell_of_row w b i cs t fr hb, ← Array.getElem?_toList, hcs, List.getElem?_map, List.getElem?_eq_getElem hi]
  simp [bth, hi]

end Go.Proofs.Ytemnklppplgcoab
