/-
  Package entry: what ReadContext, Put, PutContext answer; none turns memory that was there.
-/
import Derived.Test.YtnpgldcambbnhaaEntry2
namespace Go.Proofs.Ytnpgldcambbnhaa
open Go.RowKit

set_option maxHeartbeats 2000000 in
theorem eReadContext_any (z : Int) (w : World) :
    Calls Try.prog 23 #[.int .i64 z] w fun e w' => e = .returned (.tuple #[.agg #[.bool (vC z), .bool (aC z), .int .i64 (pC z)], .bool (okC z)]) ∧ Below w.heap.size w w' := by
  cases hw : wordB z
  · have ho : okC z = false := by simp [okC, hw]
    have hv : vC z = false := by simp [vC, ho]
    rw [ho, hv, show aC z = false by simp [aC, hv], show pC z = 0 by simp [pC, hv]]
    go_enter Try.func23, Try.ntmps23
    go_wp2_with fail
    refine (eIsWord_any _ _).mono ?_
    rintro e w1 ⟨rfl, rfl⟩
    rw [hw]
    go_wp2
    refine bodyPost_ret (v := .tuple #[.agg #[.bool false, .bool false, .int .i64 0], .bool false]) (by simp [results, Try.results23, go_sem]) rfl ⟨rfl, ?_⟩
    exact bel_alloc (Below.refl _ _) _
  · obtain ⟨h0, h1⟩ : 0 ≤ z ∧ z ≤ 65535 := by simpa [wordB] using hw
    cases hb : bitB z 0
    · have ho : okC z = true := by simp [okC, hw, hb]
      have hv : vC z = false := by simp [vC, hb]
      rw [ho, hv, show aC z = false by simp [aC, hv], show pC z = 0 by simp [pC, hv]]
      go_enter Try.func23, Try.ntmps23
      go_wp2_with fail
      refine (eIsWord_any _ _).mono ?_
      rintro e w1 ⟨rfl, rfl⟩
      rw [hw]
      go_wp2_with fail
      refine (has_any _ _ [0] _ h0 h1 (sl_block (by repeat (first | (refine heap_at ?_; simp; done) | (refine heap_past ?_ ?_; · (simp; try omega)))) rfl rfl (by simp [maxLen])) (by decide)).mono ?_
      rintro e w1 ⟨rfl, rfl⟩
      rw [show anyB z [0] = false from (any_one z 0).trans hb]
      go_wp2
      refine bodyPost_ret (v := .tuple #[.agg #[.bool false, .bool false, .int .i64 0], .bool true]) (by simp [results, Try.results23, go_sem]) rfl ⟨rfl, ?_⟩
      exact bel_alloc (bel_alloc (Below.refl _ _) _) _
    · have goal : ∀ hi fo : Bool, anyB z [2, 3, 10, 11, 12, 13, 14, 15] = hi → formC true (bitB z 1) (z / 16 % 64) = fo →
          Calls Try.prog 23 #[.int .i64 z] w fun e w' => e = .returned (.tuple #[.agg #[.bool (!hi && fo), .bool ((!hi && fo) && bitB z 1), .int .i64 (if !hi && fo then z / 16 % 64 else 0)], .bool (!hi && fo)]) ∧ Below w.heap.size w w' := by
        intro hi fo hhi hfo
        go_enter Try.func23, Try.ntmps23
        go_wp2_with fail
        refine (eIsWord_any _ _).mono ?_
        rintro e w1 ⟨rfl, rfl⟩
        rw [hw]
        go_wp2_with fail
        refine (has_any _ _ [0] _ h0 h1 (sl_block (by repeat (first | (refine heap_at ?_; simp; done) | (refine heap_past ?_ ?_; · (simp; try omega)))) rfl rfl (by simp [maxLen])) (by decide)).mono ?_
        rintro e w1 ⟨rfl, rfl⟩
        rw [show anyB z [0] = true from (any_one z 0).trans hb]
        go_wp2_with fail
        refine (has_any _ _ [1] _ h0 h1 (sl_block (by repeat (first | (refine heap_at ?_; simp; done) | (refine heap_past ?_ ?_; · (simp; try omega)))) rfl rfl (by simp [maxLen])) (by decide)).mono ?_
        rintro e w1 ⟨rfl, rfl⟩
        rw [show anyB z [1] = bitB z 1 from any_one z 1]
        go_wp2_with fail
        refine (pageOf_any _ _ h0 h1).mono ?_
        rintro e w1 ⟨rfl, rfl⟩
        go_wp2_with fail
        refine (has_any _ _ [2, 3, 10, 11, 12, 13, 14, 15] _ h0 h1 (sl_block (by repeat (first | (refine heap_at ?_; simp; done) | (refine heap_past ?_ ?_; · (simp; try omega)))) rfl rfl (by simp [maxLen])) (by decide)).mono ?_
        rintro e w1 ⟨rfl, rfl⟩
        rw [hhi]
        cases hi
        · go_wp2_with fail
          refine (isContext_any _ _ _ _).mono ?_
          rintro e w1 ⟨rfl, o1, rfl⟩
          rw [hfo]
          cases fo
          · go_wp2
            refine bodyPost_ret (v := .tuple #[.agg #[.bool false, .bool false, .int .i64 0], .bool false]) (by simp [results, Try.results23, go_sem]) rfl ⟨rfl, ?_⟩
            repeat (first | exact Below.refl _ _ | refine bel_alloc ?_ _)
          · go_wp2
            refine bodyPost_ret (v := .tuple #[.agg #[.bool true, .bool (bitB z 1), .int .i64 (z / 16 % 64)], .bool true]) (by simp [results, Try.results23, go_sem]) rfl ⟨rfl, ?_⟩
            repeat (first | exact Below.refl _ _ | refine bel_alloc ?_ _)
        · go_wp2
          refine bodyPost_ret (v := .tuple #[.agg #[.bool false, .bool false, .int .i64 0], .bool false]) (by simp [results, Try.results23, go_sem]) rfl ⟨rfl, ?_⟩
          repeat (first | exact Below.refl _ _ | refine bel_alloc ?_ _)
      have ho : okC z = (!anyB z [2, 3, 10, 11, 12, 13, 14, 15] && formC true (bitB z 1) (z / 16 % 64)) := by simp [okC, hw, hb]
      have hv : vC z = okC z := by simp [vC, hb]
      have := goal _ _ rfl rfl
      rw [← ho] at this
      rw [aC, pC, hv]
      exact this

/-- What Put answers, and PutContext. -/
def putE (v r x l : Bool) (p : Int) : Int := if pageB p then (if formE v r x l p then 0 else 3) else 2
def putW (v r x l : Bool) (p : Int) : Int := if putE v r x l p = 0 then accB p [v, r, x, l] 4 else 0
def ptcE (v a : Bool) (p : Int) : Int := if pageB p then (if formC v a p then 0 else 3) else 2
def ptcW (v a : Bool) (p : Int) : Int := if ptcE v a p = 0 then accB p [v, a] 2 else 0

theorem flag_cells {w : World} {b : Nat} {t : TypeId} {fr : Nat × Nat} {cs : Array Value} {fs : List Bool} (hb : w.heap[b]? = some (.cells cs t fr)) (hcs : cs.toList = fs.map Value.bool) :
    ∀ i, i < fs.length → w.cell? ⟨b, i, none⟩ = some (.bool (bth fs i)) := fun i hi => by
  rw [cell_of_row w b i cs t fr hb, ← Array.getElem?_toList, hcs, List.getElem?_map, List.getElem?_eq_getElem hi]
  simp [bth, hi]

set_option maxHeartbeats 2000000 in
theorem ePut_any (v r x l : Bool) (p : Int) (w : World) :
    Calls Try.prog 25 #[.agg #[.bool v, .bool r, .bool x, .bool l, .int .i64 p]] w fun e w' => e = .returned (.tuple #[.int .i64 (putW v r x l p), .int .i64 (putE v r x l p)]) ∧ Below w.heap.size w w' := by
  cases hp : pageB p
  · have he : putE v r x l p = 2 := by simp [putE, hp]
    rw [putW, he]
    go_enter Try.func25, Try.ntmps25
    go_wp2_with fail
    refine (ePage_any _ _).mono ?_
    rintro e w1 ⟨rfl, rfl⟩
    rw [hp]
    go_wp2
    go_ret2
    exact ⟨rfl, bel_alloc (Below.refl _ _) _⟩
  · obtain ⟨h0, h1⟩ : 0 ≤ p ∧ p < 64 := by simpa [pageB] using hp
    cases hf : formE v r x l p
    · have he : putE v r x l p = 3 := by simp [putE, hp, hf]
      rw [putW, he]
      go_enter Try.func25, Try.ntmps25
      go_wp2_with fail
      refine (ePage_any _ _).mono ?_
      rintro e w1 ⟨rfl, rfl⟩
      rw [hp]
      go_wp2_with fail
      refine (isEntry_any _ _ _ _ _ _).mono ?_
      rintro e w1 ⟨rfl, o1, rfl⟩
      rw [hf]
      go_wp2
      go_ret2
      refine ⟨rfl, ?_⟩
      repeat (first | exact Below.refl _ _ | refine bel_alloc ?_ _)
    · have he : putE v r x l p = 0 := by simp [putE, hp, hf]
      rw [putW, he]
      go_enter Try.func25, Try.ntmps25
      go_wp2_with fail
      refine (ePage_any _ _).mono ?_
      rintro e w1 ⟨rfl, rfl⟩
      rw [hp]
      go_wp2_with fail
      refine (isEntry_any _ _ _ _ _ _).mono ?_
      rintro e w1 ⟨rfl, o1, rfl⟩
      rw [hf]
      go_wp2_with fail
      refine (wordOf_any p _ _ [v, r, x, l] _ h0 h1 (by simp) (flag_cells (by repeat (first | (refine heap_at ?_; simp; done) | (refine heap_past ?_ ?_; · (simp; try omega)))) rfl)).mono ?_
      rintro e w1 ⟨rfl, rfl⟩
      go_wp2
      go_ret2
      refine ⟨rfl, ?_⟩
      repeat (first | exact Below.refl _ _ | refine bel_alloc ?_ _)

set_option maxHeartbeats 2000000 in
theorem ePutContext_any (v a : Bool) (p : Int) (w : World) :
    Calls Try.prog 27 #[.agg #[.bool v, .bool a, .int .i64 p]] w fun e w' => e = .returned (.tuple #[.int .i64 (ptcW v a p), .int .i64 (ptcE v a p)]) ∧ Below w.heap.size w w' := by
  cases hp : pageB p
  · have he : ptcE v a p = 2 := by simp [ptcE, hp]
    rw [ptcW, he]
    go_enter Try.func27, Try.ntmps27
    go_wp2_with fail
    refine (ePage_any _ _).mono ?_
    rintro e w1 ⟨rfl, rfl⟩
    rw [hp]
    go_wp2
    go_ret2
    exact ⟨rfl, bel_alloc (Below.refl _ _) _⟩
  · obtain ⟨h0, h1⟩ : 0 ≤ p ∧ p < 64 := by simpa [pageB] using hp
    cases hf : formC v a p
    · have he : ptcE v a p = 3 := by simp [ptcE, hp, hf]
      rw [ptcW, he]
      go_enter Try.func27, Try.ntmps27
      go_wp2_with fail
      refine (ePage_any _ _).mono ?_
      rintro e w1 ⟨rfl, rfl⟩
      rw [hp]
      go_wp2_with fail
      refine (isContext_any _ _ _ _).mono ?_
      rintro e w1 ⟨rfl, o1, rfl⟩
      rw [hf]
      go_wp2
      go_ret2
      refine ⟨rfl, ?_⟩
      repeat (first | exact Below.refl _ _ | refine bel_alloc ?_ _)
    · have he : ptcE v a p = 0 := by simp [ptcE, hp, hf]
      rw [ptcW, he]
      go_enter Try.func27, Try.ntmps27
      go_wp2_with fail
      refine (ePage_any _ _).mono ?_
      rintro e w1 ⟨rfl, rfl⟩
      rw [hp]
      go_wp2_with fail
      refine (isContext_any _ _ _ _).mono ?_
      rintro e w1 ⟨rfl, o1, rfl⟩
      rw [hf]
      go_wp2_with fail
      refine (wordOf_any p _ _ [v, a] _ h0 h1 (by simp) (flag_cells (by repeat (first | (refine heap_at ?_; simp; done) | (refine heap_past ?_ ?_; · (simp; try omega)))) rfl)).mono ?_
      rintro e w1 ⟨rfl, rfl⟩
      go_wp2
      go_ret2
      refine ⟨rfl, ?_⟩
      repeat (first | exact Below.refl _ _ | refine bel_alloc ?_ _)
end Go.Proofs.Ytnpgldcambbnhaa
