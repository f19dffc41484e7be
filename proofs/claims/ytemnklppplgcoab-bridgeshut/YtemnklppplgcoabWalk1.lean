/-
  Package walk: what isPage, may, read, within answer; none turns memory that was there.
-/
import Derived.Test.YtemnklppplgcoabParted
import Derived.Test.YtemnklppplgcoabMem2
import Derived.Deep.RegionWith
namespace Go.Proofs.Ytemnklppplgcoab
open Go.RowKit

theorem wPage_any (z : Int) (w : World) : Calls Try.prog 98 #[.int .i64 z] w fun e w' => e = .returned (.bool (pageB z)) ∧ w' = w := by
  by_cases h1 : 0 ≤ z
  · by_cases h2 : z < 64
    · have : pageB z = true := by simp [pageB, h1, h2]
      rw [this]
      go_enter Try.func98, Try.ntmps98
      go_wp2
      go_ret
      exact ⟨rfl, rfl⟩
    · have : pageB z = false := by simp [pageB, h2]
      rw [this]
      go_enter Try.func98, Try.ntmps98
      go_wp2
      go_ret
      exact ⟨rfl, rfl⟩
  · have : pageB z = false := by simp [pageB, h1]
    rw [this]
    go_enter Try.func98, Try.ntmps98
    go_wp2
    go_ret
    exact ⟨rfl, rfl⟩

theorem may_any (v r x l : Bool) (p : Int) (wr : Bool) (w : World) :
    Calls Try.prog 100 #[.agg #[.bool v, .bool r, .bool x, .bool l, .int .i64 p], .bool wr] w fun e w' => e = .returned (.bool (r && (x || !wr))) ∧ ∃ o, w' = w.alloc o := by
  cases r <;> cases x <;> cases wr
  all_goals
    go_enter Try.func100, Try.ntmps100
    go_wp2
    go_ret
    exact ⟨rfl, _, rfl⟩

/-- The fault of one word: it may not be an entry; it isn't valid. -/
def fltR (z : Int) : Int := if okE z = true then (if vE z = true then 0 else 3) else 4

theorem fields_none {z : Int} (h : vE z = false) : rE z = false ∧ xE z = false ∧ lE z = false ∧ pE z = 0 := by simp [rE, xE, lE, pE, h]

set_option maxHeartbeats 2000000 in
theorem wRead_any (v : Value) (zs : List Int) (t k : Int) (w : World) (h : Sl w v zs) (hn : zs.length = 512) (t0 : 0 ≤ t) (t1 : t < 64) (k0 : 0 ≤ k) (k1 : k < 8) :
    Calls Try.prog 104 #[.agg #[v], .int .i64 t, .int .i64 k] w fun e w' => e = .returned (.tuple #[.agg #[.bool (vE (nth zs (8 * t + k).toNat)), .bool (rE (nth zs (8 * t + k).toNat)), .bool (xE (nth zs (8 * t + k).toNat)), .bool (lE (nth zs (8 * t + k).toNat)), .int .i64 (pE (nth zs (8 * t + k).toNat))], .int .i64 (fltR (nth zs (8 * t + k).toNat))]) ∧ Below w.heap.size w w' := by
  obtain ⟨b, o, cap, rfl, hb, hc⟩ := h.open512 hn
  have g := hc (t * 8 + k).toNat (by omega)
  rw [show (8 * t + k).toNat = (t * 8 + k).toNat by rw [Int.mul_comm]]
  generalize nth zs (t * 8 + k).toNat = z at *
  clear hc hn h
  go_enter Try.func104, Try.ntmps104
  go_wp2_with fail
  refine (eRead_any _ _).mono ?_
  rintro e w1 ⟨rfl, b1⟩
  obtain ⟨c1, f1⟩ := bcell b1
  have B1 : Hid (Below w.heap.size w w1) := bel_trans (bel_alloc (bel_alloc (Below.refl _ _) _) _) b1
  have K1 := (Blk.newAt (n := w.heap.size + 1) (by simp) _ _ _).keep b1
  have L1 := K1.lt
  clear b1 K1
  cases ho : okE z
  · have hv : vE z = false := by simp [vE, ho]
    obtain ⟨e1, e2, e3, e4⟩ := fields_none hv
    have HF : Hid (vE z = false ∧ rE z = false ∧ xE z = false ∧ lE z = false ∧ pE z = 0 ∧ fltR z = 4) := ⟨hv, e1, e2, e3, e4, by simp [fltR, ho]⟩
    rw [hv, e1, e2, e3, e4]
    clear hv e1 e2 e3 e4 ho
    go_wp2
    refine bodyPost_ret (v := .tuple #[.agg #[.bool false, .bool false, .bool false, .bool false, .int .i64 0], .int .i64 4]) (by simp [results, Try.results104, go_sem, *]) rfl ⟨?_, ?_⟩
    · obtain ⟨e0, e1, e2, e3, e4, e5⟩ := HF.out
      rw [e0, e1, e2, e3, e4, e5]
    exact bel_alloc (bel_set5 (by omega) B1.out _ _ _ _ _) _
  · cases hv : vE z
    · obtain ⟨e1, e2, e3, e4⟩ := fields_none hv
      have HF : Hid (vE z = false ∧ rE z = false ∧ xE z = false ∧ lE z = false ∧ pE z = 0 ∧ fltR z = 3) := ⟨hv, e1, e2, e3, e4, by simp [fltR, ho, hv]⟩
      rw [e1, e2, e3, e4]
      clear e1 e2 e3 e4 ho hv
      go_wp2
      refine bodyPost_ret (v := .tuple #[.agg #[.bool false, .bool false, .bool false, .bool false, .int .i64 0], .int .i64 3]) (by simp [results, Try.results104, go_sem, *]) rfl ⟨?_, ?_⟩
      · obtain ⟨e0, e1, e2, e3, e4, e5⟩ := HF.out
        rw [e0, e1, e2, e3, e4, e5]
      exact bel_alloc (bel_set5 (by omega) B1.out _ _ _ _ _) _
    · have HF : Hid (vE z = true ∧ fltR z = 0) := ⟨hv, by simp [fltR, ho, hv]⟩
      clear ho hv
      go_wp2
      refine bodyPost_ret (v := .tuple #[.agg #[.bool true, .bool (rE z), .bool (xE z), .bool (lE z), .int .i64 (pE z)], .int .i64 0]) (by simp [results, Try.results104, go_sem, *]) rfl ⟨?_, ?_⟩
      · obtain ⟨e0, e5⟩ := HF.out
        rw [e0, e5]
      exact bel_alloc (bel_set5 (by omega) B1.out _ _ _ _ _) _

set_option maxHeartbeats 2000000 in
theorem within_yes (v r x l : Bool) (p page span : Int) (w : World) (p0 : 0 ≤ p) (p1 : p < 64) (g0 : 0 ≤ page) (g1 : page < 64) (hs : span = 8 ∨ span = 1) (h : p % span = 0) :
    Calls Try.prog 105 #[.agg #[.bool v, .bool r, .bool x, .bool l, .int .i64 p], .int .i64 page, .int .i64 span] w fun e w' => e = .returned (.tuple #[.agg #[.bool v, .bool r, .bool x, .bool l, .int .i64 (p + page % span)], .int .i64 0]) ∧ Below w.heap.size w w' := by
  rcases hs with rfl | rfl
  · go_enter Try.func105, Try.ntmps105
    go_wp2
    go_region
    go_wp2
    refine bodyPost_ret (v := .tuple #[.agg #[.bool v, .bool r, .bool x, .bool l, .int .i64 (p + page % 8)], .int .i64 0]) (by simp [results, Try.results105, go_sem]) rfl ⟨rfl, ?_⟩
    exact below_drew (bel_alloc (bel_alloc (Below.refl _ _) _) _)
  · go_enter Try.func105, Try.ntmps105
    go_wp2
    go_region
    go_wp2
    refine bodyPost_ret (v := .tuple #[.agg #[.bool v, .bool r, .bool x, .bool l, .int .i64 (p + page % 1)], .int .i64 0]) (by simp [results, Try.results105, go_sem]) rfl ⟨rfl, ?_⟩
    exact below_drew (bel_alloc (bel_alloc (Below.refl _ _) _) _)
set_option maxHeartbeats 2000000 in
theorem within_no (v r x l : Bool) (p page : Int) (w : World) (p0 : 0 ≤ p) (p1 : p < 64) (h : ¬ p % 8 = 0) :
    Calls Try.prog 105 #[.agg #[.bool v, .bool r, .bool x, .bool l, .int .i64 p], .int .i64 page, .int .i64 8] w fun e w' => e = .returned (.tuple #[.agg #[.bool false, .bool false, .bool false, .bool false, .int .i64 0], .int .i64 4]) ∧ Below w.heap.size w w' := by
  go_enter Try.func105, Try.ntmps105
  go_wp2
  refine bodyPost_ret (v := .tuple #[.agg #[.bool false, .bool false, .bool false, .bool false, .int .i64 0], .int .i64 4]) (by simp [results, Try.results105, go_sem]) rfl ⟨rfl, ?_⟩
  exact bel_alloc (bel_alloc (Below.refl _ _) _) _
end Go.Proofs.Ytemnklppplgcoab
