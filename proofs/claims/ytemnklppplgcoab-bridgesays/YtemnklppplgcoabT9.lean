/-
  Laid together: EntryOf, ContextOf, WalkedR, WalkSaysWalk, LineAt, FilledR.
-/
import Derived.Test.YtemnklppplgcoabT8
import Derived.Deep.RegionHeld3
import Derived.Deep.DrawnRows
/-
  drawbridgeref's EntryOf: it answers what entry.Read answers; nothing that was there turns.
-/
namespace Go.Proofs.Ytemnklppplgcoab
open Go.RowKit
attribute [local go_sem ↓] Go.wp_at_zero Go.wp_at_succ

/-- A part of a block reads as these numbers. -/
theorem sl_part {w : World} {b o n cap : Nat} {t : TypeId} {fr : Nat × Nat} {cs : Array Value} {zs : List Int} (hb : w.heap[b]? = some (.cells cs t fr)) (hcs : (cs.toList.drop o).take zs.length = zs.map (fun z => Value.int .i64 z)) (hn : n = zs.length) (hm : zs.length ≤ maxLen) :
    Sl w (.slice (some ⟨b, o, none⟩) n cap) zs := by
  subst hn
  refine ⟨_, cap, rfl, hm, .inr ⟨b, o, rfl, ?_, fun i hi => ?_⟩⟩
  · rcases Nat.lt_or_ge b w.heap.size with h | h
    · exact h
    · rw [Array.getElem?_eq_none h] at hb; exact absurd hb (by simp)
  · have h : ((cs.toList.drop o).take zs.length)[i]? = (zs.map (fun z => Value.int .i64 z))[i]? := by rw [hcs]
    rw [List.getElem?_take, if_pos hi, List.getElem?_drop, List.getElem?_map, List.getElem?_eq_getElem hi] at h
    rw [cell_of_row w b (o + i) cs t fr hb, ← Array.getElem?_toList, h]
    simp [nth, hi]

theorem dg_in (z : Int) (j : Nat) : 0 ≤ dg z j ∧ dg z j ≤ 1 := by unfold dg; omega
theorem dg_bit (z : Int) (j : Nat) : (dg z j == 1) = bitB z j := rfl
theorem num_hi (z : Int) (h0 : 0 ≤ z) (h1 : z ≤ 65535) : num [dg z 10, dg z 11, dg z 12, dg z 13, dg z 14, dg z 15] = z / 1024 := by
  simp only [num, dg]; omega
theorem num_mid (z : Int) : num [dg z 4, dg z 5, dg z 6, dg z 7, dg z 8, dg z 9] = z / 16 % 64 := by
  simp only [num, dg]; omega
theorem six_in {a b c d e f : Int} (ha : 0 ≤ a ∧ a ≤ 1) (hb : 0 ≤ b ∧ b ≤ 1) (hc : 0 ≤ c ∧ c ≤ 1) (hd : 0 ≤ d ∧ d ≤ 1) (he : 0 ≤ e ∧ e ≤ 1) (hf : 0 ≤ f ∧ f ≤ 1) :
    ∀ i, i < [a, b, c, d, e, f].length → 0 ≤ nth [a, b, c, d, e, f] i ∧ nth [a, b, c, d, e, f] i ≤ 1 := by
  intro i hi
  obtain rfl | rfl | rfl | rfl | rfl | rfl : i = 0 ∨ i = 1 ∨ i = 2 ∨ i = 3 ∨ i = 4 ∨ i = 5 := by simp at hi; omega
  · exact ha
  · exact hb
  · exact hc
  · exact hd
  · exact he
  · exact hf
/-- number of b[10:], and of b[4:10], where b lies in a block. -/
theorem number_hi {z : Int} {w : World} {n : Nat} (h0 : 0 ≤ z) (h1 : z ≤ 65535) (hb : w.heap[n]? = some (.cells #[.int .i64 (dg z 0), .int .i64 (dg z 1), .int .i64 (dg z 2), .int .i64 (dg z 3), .int .i64 (dg z 4), .int .i64 (dg z 5), .int .i64 (dg z 6), .int .i64 (dg z 7), .int .i64 (dg z 8), .int .i64 (dg z 9), .int .i64 (dg z 10), .int .i64 (dg z 11), .int .i64 (dg z 12), .int .i64 (dg z 13), .int .i64 (dg z 14), .int .i64 (dg z 15)] 114 (0, 0))) :
    Calls Try.prog 84 #[.slice (some ⟨n, 10, none⟩) 6 6] w fun e w' => e = .returned (.int .i64 (z / 1024)) ∧ w' = w := by
  rw [← num_hi z h0 h1]
  exact number_any _ _ _ (sl_part hb rfl rfl (by simp [maxLen])) (six_in (dg_in _ _) (dg_in _ _) (dg_in _ _) (dg_in _ _) (dg_in _ _) (dg_in _ _)) (by simp)
theorem number_mid {z : Int} {w : World} {n : Nat} (hb : w.heap[n]? = some (.cells #[.int .i64 (dg z 0), .int .i64 (dg z 1), .int .i64 (dg z 2), .int .i64 (dg z 3), .int .i64 (dg z 4), .int .i64 (dg z 5), .int .i64 (dg z 6), .int .i64 (dg z 7), .int .i64 (dg z 8), .int .i64 (dg z 9), .int .i64 (dg z 10), .int .i64 (dg z 11), .int .i64 (dg z 12), .int .i64 (dg z 13), .int .i64 (dg z 14), .int .i64 (dg z 15)] 114 (0, 0))) :
    Calls Try.prog 84 #[.slice (some ⟨n, 4, none⟩) 6 12] w fun e w' => e = .returned (.int .i64 (z / 16 % 64)) ∧ w' = w := by
  rw [← num_mid z]
  exact number_any _ _ _ (sl_part hb rfl rfl (by simp [maxLen])) (six_in (dg_in _ _) (dg_in _ _) (dg_in _ _) (dg_in _ _) (dg_in _ _) (dg_in _ _)) (by simp)

theorem okE_not {z : Int} (h : wordB z = false) : okE z = false ∧ vE z = false ∧ rE z = false ∧ xE z = false ∧ lE z = false ∧ pE z = 0 := by
  have ho : okE z = false := by simp [okE, h]
  have hv : vE z = false := by simp [vE, ho]
  exact ⟨ho, hv, by simp [rE, hv], by simp [xE, hv], by simp [lE, hv], by simp [pE, hv]⟩
theorem okE_nil {z : Int} (hw : wordB z = true) (h : dg z 0 = 0) : okE z = true ∧ vE z = false ∧ rE z = false ∧ xE z = false ∧ lE z = false ∧ pE z = 0 := by
  have hb : bitB z 0 = false := by rw [← dg_bit, h]; rfl
  have ho : okE z = true := by simp [okE, hw, hb]
  have hv : vE z = false := by simp [vE, hb]
  exact ⟨ho, hv, by simp [rE, hv], by simp [xE, hv], by simp [lE, hv], by simp [pE, hv]⟩
theorem okE_bad {z : Int} (hw : wordB z = true) (h : dg z 0 = 1) (k : 0 < z / 1024 ∨ dg z 1 < dg z 2 ∨ dg z 3 < dg z 1) : okE z = false ∧ vE z = false ∧ rE z = false ∧ xE z = false ∧ lE z = false ∧ pE z = 0 := by
  obtain ⟨h0, h1⟩ : 0 ≤ z ∧ z ≤ 65535 := by simpa [wordB] using hw
  have hb : bitB z 0 = true := by rw [← dg_bit, h]; rfl
  have ho : okE z = false := by
    rw [okE, hw, hb, hi_six z h0 h1]
    rcases k with k | k | k
    · rw [show decide (1024 ≤ z) = true by simp; omega]; rfl
    · have a := dg_in z 1
      have b := dg_in z 2
      have c1 : bitB z 1 = false := by rw [← dg_bit, show dg z 1 = 0 by omega]; rfl
      have c2 : bitB z 2 = true := by rw [← dg_bit, show dg z 2 = 1 by omega]; rfl
      rw [c1, c2]; simp [formE]
    · have a := dg_in z 1
      have b := dg_in z 3
      have c1 : bitB z 1 = true := by rw [← dg_bit, show dg z 1 = 1 by omega]; rfl
      have c2 : bitB z 3 = false := by rw [← dg_bit, show dg z 3 = 0 by omega]; rfl
      rw [c1, c2]; simp [formE]
  have hv : vE z = false := by simp [vE, ho]
  exact ⟨ho, hv, by simp [rE, hv], by simp [xE, hv], by simp [lE, hv], by simp [pE, hv]⟩
theorem okE_good {z : Int} (hw : wordB z = true) (h : dg z 0 = 1) (k1 : ¬ 0 < z / 1024) (k2 : ¬ dg z 1 < dg z 2) (k3 : ¬ dg z 3 < dg z 1) : okE z = true ∧ vE z = true ∧ rE z = (dg z 1 == 1) ∧ xE z = (dg z 2 == 1) ∧ lE z = (dg z 3 == 1) ∧ pE z = z / 16 % 64 := by
  obtain ⟨h0, h1⟩ : 0 ≤ z ∧ z ≤ 65535 := by simpa [wordB] using hw
  have hb : bitB z 0 = true := by rw [← dg_bit, h]; rfl
  have ho : okE z = true := by
    rw [okE, hw, hb, hi_six z h0 h1, show decide (1024 ≤ z) = false by simp; omega, ← dg_bit, ← dg_bit, ← dg_bit]
    obtain ⟨a1, a2⟩ := dg_in z 1
    obtain ⟨b1, b2⟩ := dg_in z 2
    obtain ⟨c1, c2⟩ := dg_in z 3
    have x1 : dg z 1 = 0 ∨ dg z 1 = 1 := by omega
    have x2 : dg z 2 = 0 ∨ dg z 2 = 1 := by omega
    have x3 : dg z 3 = 0 ∨ dg z 3 = 1 := by omega
    rcases x1 with x1 | x1 <;> rcases x2 with x2 | x2 <;> rcases x3 with x3 | x3 <;> rw [x1, x2] at k2 <;> rw [x1, x3] at k3 <;> rw [x1, x2, x3] <;> simp [formE] at * 
  have hv : vE z = true := by simp [vE, ho, hb]
  exact ⟨ho, hv, by simp [rE, hv, dg_bit], by simp [xE, hv, dg_bit], by simp [lE, hv, dg_bit], by simp [pE, hv]⟩

theorem keepD {w w' : World} {n : Nat} {z : Int} (h : w'.heap[n]? = some (.cells #[.int .i64 (dg z 0), .int .i64 (dg z 1), .int .i64 (dg z 2), .int .i64 (dg z 3), .int .i64 (dg z 4), .int .i64 (dg z 5), .int .i64 (dg z 6), .int .i64 (dg z 7), .int .i64 (dg z 8), .int .i64 (dg z 9), .int .i64 (dg z 10), .int .i64 (dg z 11), .int .i64 (dg z 12), .int .i64 (dg z 13), .int .i64 (dg z 14), .int .i64 (dg z 15)] 114 (0, 0))) (hb : Below w.heap.size w w') :
    w'.cell? ⟨n, 1, none⟩ = some (.int .i64 (dg z 1)) ∧ w'.cell? ⟨n, 2, none⟩ = some (.int .i64 (dg z 2)) ∧ w'.cell? ⟨n, 3, none⟩ = some (.int .i64 (dg z 3)) ∧ w'.heap[n]? = some (.cells #[.int .i64 (dg z 0), .int .i64 (dg z 1), .int .i64 (dg z 2), .int .i64 (dg z 3), .int .i64 (dg z 4), .int .i64 (dg z 5), .int .i64 (dg z 6), .int .i64 (dg z 7), .int .i64 (dg z 8), .int .i64 (dg z 9), .int .i64 (dg z 10), .int .i64 (dg z 11), .int .i64 (dg z 12), .int .i64 (dg z 13), .int .i64 (dg z 14), .int .i64 (dg z 15)] 114 (0, 0)) ∧ Below w.heap.size w w' :=
  ⟨cell_of_row _ _ _ _ _ _ h, cell_of_row _ _ _ _ _ _ h, cell_of_row _ _ _ _ _ _ h, h, hb⟩

set_option maxHeartbeats 4000000 in
theorem entryOf_any (z : Int) (w : World) :
    Calls Try.prog 85 #[.int .i64 z] w fun e w' => e = .returned (.tuple #[.agg #[.bool (vE z), .bool (rE z), .bool (xE z), .bool (lE z), .int .i64 (pE z)], .bool (okE z)]) ∧ Below w.heap.size w w' := by
  cases hw : wordB z
  · obtain ⟨e1, e2, e3, e4, e5, e6⟩ := okE_not hw
    rw [e1, e2, e3, e4, e5, e6]
    clear e1 e2 e3 e4 e5 e6
    go_enter Try.func85, Try.ntmps85
    go_wp2_with fail
    refine (in_any _ _ _ _).mono ?_
    rintro e w1 ⟨rfl, rfl⟩
    rw [between_word, hw]
    go_wp2
    refine bodyPost_ret (v := .tuple #[.agg #[.bool false, .bool false, .bool false, .bool false, .int .i64 0], .bool false]) (by simp [results, Try.results85, go_sem]) rfl ⟨rfl, ?_⟩
    exact bel_alloc (Below.refl _ _) _
  obtain ⟨h0, h1⟩ : 0 ≤ z ∧ z ≤ 65535 := by simpa [wordB] using hw
  by_cases hb : dg z 0 = 0
  · obtain ⟨e1, e2, e3, e4, e5, e6⟩ := okE_nil hw hb
    rw [e1, e2, e3, e4, e5, e6]
    clear e1 e2 e3 e4 e5 e6
    go_enter Try.func85, Try.ntmps85
    go_wp2_with fail
    refine (in_any _ _ _ _).mono ?_
    rintro e w1 ⟨rfl, rfl⟩
    rw [between_word, hw]
    go_wp2_with fail
    refine (digits_any _ _ h0 h1).mono ?_
    rintro e w2 ⟨rfl, o1, o2, rfl⟩
    rw [hb]
    go_wp2
    refine bodyPost_ret (v := .tuple #[.agg #[.bool false, .bool false, .bool false, .bool false, .int .i64 0], .bool true]) (by simp [results, Try.results85, go_sem]) rfl ⟨rfl, ?_⟩
    repeat (first | exact Below.refl _ _ | refine bel_alloc ?_ _)
  have hb1 : dg z 0 = 1 := by have := dg_in z 0; omega
  have hn0 : (dg z 0 == 0) = false := by simpa using hb
  by_cases hk : 0 < z / 1024 ∨ dg z 1 < dg z 2 ∨ dg z 3 < dg z 1
  · obtain ⟨e1, e2, e3, e4, e5, e6⟩ := okE_bad hw hb1 hk
    rw [e1, e2, e3, e4, e5, e6]
    clear e1 e2 e3 e4 e5 e6 hb1 hb
    go_enter Try.func85, Try.ntmps85
    go_wp2_with fail
    refine (in_any _ _ _ _).mono ?_
    rintro e w1 ⟨rfl, rfl⟩
    rw [between_word, hw]
    go_wp2_with fail
    refine (digits_any _ _ h0 h1).mono ?_
    rintro e w2 ⟨rfl, o1, o2, rfl⟩
    go_wp2_with fail
    refine (number_hi h0 h1 (heap_at (by simp))).mono ?_
    rintro e w2 ⟨rfl, rfl⟩
    by_cases k1 : 0 < z / 1024
    · clear hk
      go_wp2
      refine bodyPost_ret (v := .tuple #[.agg #[.bool false, .bool false, .bool false, .bool false, .int .i64 0], .bool false]) (by simp [results, Try.results85, go_sem]) rfl ⟨rfl, ?_⟩
      repeat (first | exact Below.refl _ _ | refine bel_alloc ?_ _)
    by_cases k2 : dg z 1 < dg z 2
    · clear hk
      go_wp2
      refine bodyPost_ret (v := .tuple #[.agg #[.bool false, .bool false, .bool false, .bool false, .int .i64 0], .bool false]) (by simp [results, Try.results85, go_sem]) rfl ⟨rfl, ?_⟩
      repeat (first | exact Below.refl _ _ | refine bel_alloc ?_ _)
    have k3 : dg z 3 < dg z 1 := by
      rcases hk with h | h | h
      · exact absurd h k1
      · exact absurd h k2
      · exact h
    clear hk
    go_wp2
    refine bodyPost_ret (v := .tuple #[.agg #[.bool false, .bool false, .bool false, .bool false, .int .i64 0], .bool false]) (by simp [results, Try.results85, go_sem]) rfl ⟨rfl, ?_⟩
    repeat (first | exact Below.refl _ _ | refine bel_alloc ?_ _)
  have k1 : ¬ 0 < z / 1024 := fun h => hk (.inl h)
  have k2 : ¬ dg z 1 < dg z 2 := fun h => hk (.inr (.inl h))
  have k3 : ¬ dg z 3 < dg z 1 := fun h => hk (.inr (.inr h))
  obtain ⟨e1, e2, e3, e4, e5, e6⟩ := okE_good hw hb1 k1 k2 k3
  rw [e1, e2, e3, e4, e5, e6]
  clear e1 e2 e3 e4 e5 e6 hb1 hb hk
  go_enter Try.func85, Try.ntmps85
  go_wp2_with fail
  refine (in_any _ _ _ _).mono ?_
  rintro e w1 ⟨rfl, rfl⟩
  rw [between_word, hw]
  go_wp2_with fail
  refine (digits_any _ _ h0 h1).mono ?_
  rintro e w2 ⟨rfl, o1, o2, rfl⟩
  go_wp2_with fail
  refine (number_hi h0 h1 (heap_at (by simp))).mono ?_
  rintro e w2 ⟨rfl, rfl⟩
  go_wp2
  go_region_held3 (fun w' => w'.cell? ⟨w.heap.size + 1 + 1 + 1, 1, none⟩ = some (.int .i64 (dg z 1)) ∧ w'.cell? ⟨w.heap.size + 1 + 1 + 1, 2, none⟩ = some (.int .i64 (dg z 2)) ∧ w'.cell? ⟨w.heap.size + 1 + 1 + 1, 3, none⟩ = some (.int .i64 (dg z 3)) ∧ w'.heap[w.heap.size + 1 + 1 + 1]? = some (.cells #[.int .i64 (dg z 0), .int .i64 (dg z 1), .int .i64 (dg z 2), .int .i64 (dg z 3), .int .i64 (dg z 4), .int .i64 (dg z 5), .int .i64 (dg z 6), .int .i64 (dg z 7), .int .i64 (dg z 8), .int .i64 (dg z 9), .int .i64 (dg z 10), .int .i64 (dg z 11), .int .i64 (dg z 12), .int .i64 (dg z 13), .int .i64 (dg z 14), .int .i64 (dg z 15)] 114 (0, 0)) ∧ Below w.heap.size w w')
    ((refine keepD ?_ ?_; (focus (first | assumption | exact heap_at (by simp) | exact heap_drawn (heap_at (by simp)))); (repeat (first | assumption | exact Below.refl _ _ | refine Below.drew ?_ | refine bel_drewN ?_ _ | refine bel_alloc ?_ _ | refine bel_trans ?_ (by assumption)))))
    (first | (go_at_call 84; refine (number_mid (by first | assumption | exact heap_at (by simp) | exact heap_drawn (heap_at (by simp)))).mono ?_; rintro e w5 ⟨rfl, rfl⟩))
  rename_i hH
  have hB := hH.2.2.2.2
  clear hH
  go_wp2
  refine bodyPost_ret (v := .tuple #[.agg #[.bool true, .bool (dg z 1 == 1), .bool (dg z 2 == 1), .bool (dg z 3 == 1), .int .i64 (z / 16 % 64)], .bool true]) (by simp [results, Try.results85, go_sem]) rfl ⟨rfl, ?_⟩
  repeat (first | assumption | exact Below.refl _ _ | refine Below.drew ?_ | refine bel_drewN ?_ _ | refine bel_alloc ?_ _)
end Go.Proofs.Ytemnklppplgcoab
/-
  drawbridgeref's ContextOf: it answers what entry.ReadContext answers; nothing that was there turns.
-/
namespace Go.Proofs.Ytemnklppplgcoab
open Go.RowKit

/-- A draw turns no cell. -/
theorem setCell_drewN (w : World) (n : Nat) (p : Addr) (u : Value) : (w.drewN n).setCell p u = (w.setCell p u).drewN n := rfl
attribute [local go_sem] setCell_drewN

theorem okC_not {z : Int} (h : wordB z = false) : okC z = false ∧ vC z = false ∧ aC z = false ∧ pC z = 0 := by
  have ho : okC z = false := by simp [okC, h]
  have hv : vC z = false := by simp [vC, ho]
  exact ⟨ho, hv, by simp [aC, hv], by simp [pC, hv]⟩
theorem okC_nil {z : Int} (hw : wordB z = true) (h : dg z 0 = 0) : okC z = true ∧ vC z = false ∧ aC z = false ∧ pC z = 0 := by
  have hb : bitB z 0 = false := by rw [← dg_bit, h]; rfl
  have ho : okC z = true := by simp [okC, hw, hb]
  have hv : vC z = false := by simp [vC, hb]
  exact ⟨ho, hv, by simp [aC, hv], by simp [pC, hv]⟩
theorem okC_bad {z : Int} (hw : wordB z = true) (h : dg z 0 = 1) (k : 0 < dg z 2 + dg z 3 + z / 1024 ∨ (dg z 1 = 1 ∧ 0 < z / 16 % 64)) : okC z = false ∧ vC z = false ∧ aC z = false ∧ pC z = 0 := by
  obtain ⟨h0, h1⟩ : 0 ≤ z ∧ z ≤ 65535 := by simpa [wordB] using hw
  have hb : bitB z 0 = true := by rw [← dg_bit, h]; rfl
  have ho : okC z = false := by
    rw [okC, hw, hb, hi_eight z h0 h1]
    rcases k with k | ⟨k, k'⟩
    · have a := dg_in z 2
      have b := dg_in z 3
      by_cases hz : 1024 ≤ z
      · rw [show decide (1024 ≤ z) = true by simpa using hz]; simp
      · by_cases h2 : dg z 2 = 1
        · rw [← dg_bit z 2, h2]; simp
        · rw [← dg_bit z 3, show dg z 3 = 1 by omega]; simp
    · rw [← dg_bit z 1, k]
      have : ¬ z / 16 % 64 = 0 := by omega
      simp [formC, this]
  have hv : vC z = false := by simp [vC, ho]
  exact ⟨ho, hv, by simp [aC, hv], by simp [pC, hv]⟩
theorem okC_good {z : Int} (hw : wordB z = true) (h : dg z 0 = 1) (k1 : ¬ 0 < dg z 2 + dg z 3 + z / 1024) (k2 : ¬ (dg z 1 = 1 ∧ 0 < z / 16 % 64)) : okC z = true ∧ vC z = true ∧ aC z = (dg z 1 == 1) ∧ pC z = z / 16 % 64 := by
  obtain ⟨h0, h1⟩ : 0 ≤ z ∧ z ≤ 65535 := by simpa [wordB] using hw
  have hb : bitB z 0 = true := by rw [← dg_bit, h]; rfl
  have a := dg_in z 2
  have b := dg_in z 3
  have ho : okC z = true := by
    rw [okC, hw, hb, hi_eight z h0 h1, show decide (1024 ≤ z) = false by simp; omega, ← dg_bit z 2, ← dg_bit z 3, ← dg_bit z 1, show dg z 2 = 0 by omega, show dg z 3 = 0 by omega]
    by_cases h3 : dg z 1 = 1
    · have h4 : z / 16 % 64 = 0 := by omega
      rw [h3, h4]; rfl
    · have h4 : (dg z 1 == 1) = false := by simpa using h3
      rw [h4]; rfl
  have hv : vC z = true := by simp [vC, ho, hb]
  exact ⟨ho, hv, by simp [aC, hv, dg_bit], by simp [pC, hv]⟩

theorem sum_wrap {a b c : Int} (a0 : 0 ≤ a) (a1 : a ≤ 1) (b0 : 0 ≤ b) (b1 : b ≤ 1) (c0 : 0 ≤ c) (c1 : c ≤ 63) : IntKind.i64.wrap (IntKind.i64.wrap (a + b) + c) = a + b + c := by
  rw [wraps_i64 (a + b) (by omega) (by omega), wraps_i64 _ (by omega) (by omega)]

set_option maxHeartbeats 4000000 in
theorem contextOf_any (z : Int) (w : World) :
    Calls Try.prog 59 #[.int .i64 z] w fun e w' => e = .returned (.tuple #[.agg #[.bool (vC z), .bool (aC z), .int .i64 (pC z)], .bool (okC z)]) ∧ Below w.heap.size w w' := by
  cases hw : wordB z
  · obtain ⟨e1, e2, e3, e4⟩ := okC_not hw
    rw [e1, e2, e3, e4]
    clear e1 e2 e3 e4
    go_enter Try.func59, Try.ntmps59
    go_wp2_with fail
    refine (in_any _ _ _ _).mono ?_
    rintro e w1 ⟨rfl, rfl⟩
    rw [between_word, hw]
    go_wp2
    refine bodyPost_ret (v := .tuple #[.agg #[.bool false, .bool false, .int .i64 0], .bool false]) (by simp [results, Try.results59, go_sem]) rfl ⟨rfl, ?_⟩
    exact bel_alloc (Below.refl _ _) _
  obtain ⟨h0, h1⟩ : 0 ≤ z ∧ z ≤ 65535 := by simpa [wordB] using hw
  by_cases hb : dg z 0 = 0
  · obtain ⟨e1, e2, e3, e4⟩ := okC_nil hw hb
    rw [e1, e2, e3, e4]
    clear e1 e2 e3 e4
    go_enter Try.func59, Try.ntmps59
    go_wp2_with fail
    refine (in_any _ _ _ _).mono ?_
    rintro e w1 ⟨rfl, rfl⟩
    rw [between_word, hw]
    go_wp2_with fail
    refine (digits_any _ _ h0 h1).mono ?_
    rintro e w2 ⟨rfl, o1, o2, rfl⟩
    rw [hb]
    go_wp2
    refine bodyPost_ret (v := .tuple #[.agg #[.bool false, .bool false, .int .i64 0], .bool true]) (by simp [results, Try.results59, go_sem]) rfl ⟨rfl, ?_⟩
    repeat (first | exact Below.refl _ _ | refine bel_alloc ?_ _)
  have hb1 : dg z 0 = 1 := by have := dg_in z 0; omega
  have hn0 : (dg z 0 == 0) = false := by simpa using hb
  obtain ⟨a2, a2'⟩ := dg_in z 2
  obtain ⟨a3, a3'⟩ := dg_in z 3
  have ht : z / 1024 ≤ 63 := by omega
  have ht' : 0 ≤ z / 1024 := by omega
  by_cases hk : 0 < dg z 2 + dg z 3 + z / 1024 ∨ (dg z 1 = 1 ∧ 0 < z / 16 % 64)
  · obtain ⟨e1, e2, e3, e4⟩ := okC_bad hw hb1 hk
    rw [e1, e2, e3, e4]
    clear e1 e2 e3 e4 hb1 hb
    go_enter Try.func59, Try.ntmps59
    go_wp2_with fail
    refine (in_any _ _ _ _).mono ?_
    rintro e w1 ⟨rfl, rfl⟩
    rw [between_word, hw]
    go_wp2_with fail
    refine (digits_any _ _ h0 h1).mono ?_
    rintro e w2 ⟨rfl, o1, o2, rfl⟩
    go_wp2_with fail
    refine (number_mid (heap_at (by simp))).mono ?_
    rintro e w2 ⟨rfl, rfl⟩
    by_cases k1 : 0 < dg z 2 + dg z 3 + z / 1024
    · have d1 : decide (0 < IntKind.i64.wrap (IntKind.i64.wrap (dg z 2 + dg z 3) + z / 1024)) = true := by rw [sum_wrap a2 a2' a3 a3' ht' ht]; simpa using k1
      clear hk
      go_wp2
      go_quiet (first | (go_at_call 84; refine Calls.quiet_of_same (number_hi h0 h1 (by first | assumption | exact heap_at (by simp) | exact heap_drawn (heap_at (by simp))))))
      go_wp2
      refine bodyPost_ret (v := .tuple #[.agg #[.bool false, .bool false, .int .i64 0], .bool false]) (by simp [results, Try.results59, go_sem]) rfl ⟨rfl, ?_⟩
      repeat (first | assumption | exact Below.refl _ _ | refine Below.drew ?_ | refine bel_drewN ?_ _ | refine bel_alloc ?_ _)
    · obtain ⟨k2, k3⟩ : dg z 1 = 1 ∧ 0 < z / 16 % 64 := by
        rcases hk with h | h
        · exact absurd h k1
        · exact h
      have d1 : decide (0 < IntKind.i64.wrap (IntKind.i64.wrap (dg z 2 + dg z 3) + z / 1024)) = false := by rw [sum_wrap a2 a2' a3 a3' ht' ht]; simpa using k1
      have d2 : (dg z 1 == 1) = true := by simpa using k2
      have d3 : decide (0 < z / 16 % 64) = true := by simpa using k3
      clear hk k2
      go_wp2
      go_quiet (first | (go_at_call 84; refine Calls.quiet_of_same (number_hi h0 h1 (by first | assumption | exact heap_at (by simp) | exact heap_drawn (heap_at (by simp))))))
      go_wp2
      refine bodyPost_ret (v := .tuple #[.agg #[.bool false, .bool false, .int .i64 0], .bool false]) (by simp [results, Try.results59, go_sem]) rfl ⟨rfl, ?_⟩
      repeat (first | assumption | exact Below.refl _ _ | refine Below.drew ?_ | refine bel_drewN ?_ _ | refine bel_alloc ?_ _)
  · have k1 : ¬ 0 < dg z 2 + dg z 3 + z / 1024 := fun h => hk (.inl h)
    have k2 : ¬ (dg z 1 = 1 ∧ 0 < z / 16 % 64) := fun h => hk (.inr h)
    obtain ⟨e1, e2, e3, e4⟩ := okC_good hw hb1 k1 k2
    rw [e1, e2, e3, e4]
    clear e1 e2 e3 e4 hb1 hb hk
    have d1 : decide (0 < IntKind.i64.wrap (IntKind.i64.wrap (dg z 2 + dg z 3) + z / 1024)) = false := by rw [sum_wrap a2 a2' a3 a3' ht' ht]; simpa using k1
    clear k1
    go_enter Try.func59, Try.ntmps59
    go_wp2_with fail
    refine (in_any _ _ _ _).mono ?_
    rintro e w1 ⟨rfl, rfl⟩
    rw [between_word, hw]
    go_wp2_with fail
    refine (digits_any _ _ h0 h1).mono ?_
    rintro e w2 ⟨rfl, o1, o2, rfl⟩
    go_wp2_with fail
    refine (number_mid (heap_at (by simp))).mono ?_
    rintro e w2 ⟨rfl, rfl⟩
    by_cases h3 : dg z 1 = 1
    · have h4 : ¬ 0 < z / 16 % 64 := fun h => k2 ⟨h3, h⟩
      have d2 : (dg z 1 == 1) = true := by simpa using h3
      have d3 : decide (0 < z / 16 % 64) = false := by simpa using h4
      clear h3 h4 k2
      go_wp2
      go_quiet (first | (go_at_call 84; refine Calls.quiet_of_same (number_hi h0 h1 (by first | assumption | exact heap_at (by simp) | exact heap_drawn (heap_at (by simp))))))
      go_wp2
      refine bodyPost_ret (v := .tuple #[.agg #[.bool true, .bool (dg z 1 == 1), .int .i64 (z / 16 % 64)], .bool true]) (by simp [results, Try.results59, go_sem, d2]) rfl ⟨by rw [d2], ?_⟩
      repeat (first | assumption | exact Below.refl _ _ | refine Below.drew ?_ | refine bel_drewN ?_ _ | refine bel_alloc ?_ _)
    · have d2 : (dg z 1 == 1) = false := by simpa using h3
      clear h3 k2
      go_wp2
      go_quiet (first | (go_at_call 84; refine Calls.quiet_of_same (number_hi h0 h1 (by first | assumption | exact heap_at (by simp) | exact heap_drawn (heap_at (by simp))))))
      go_wp2
      refine bodyPost_ret (v := .tuple #[.agg #[.bool true, .bool (dg z 1 == 1), .int .i64 (z / 16 % 64)], .bool true]) (by simp [results, Try.results59, go_sem, d2]) rfl ⟨by rw [d2], ?_⟩
      repeat (first | assumption | exact Below.refl _ _ | refine Below.drew ?_ | refine bel_drewN ?_ _ | refine bel_alloc ?_ _)
end Go.Proofs.Ytemnklppplgcoab
/-
  drawbridgeref's Walked: of right memory it answers what Walk answers; it turns nothing that was there.
-/
namespace Go.Proofs.Ytemnklppplgcoab
open Go.RowKit

theorem pg_between (z : Int) : betweenB 0 63 z = pageB z := by
  rw [betweenB, pageB, Bool.eq_iff_iff]; simp; omega
theorem flt_bad {z : Int} (h : okE z = false) : ¬ fltR z = 0 ∧ fltR z = 4 := by simp [fltR, h]
theorem flt_no {z : Int} (h : okE z = true) (k : vE z = false) : ¬ fltR z = 0 ∧ fltR z = 3 := by simp [fltR, h, k]
theorem flt_ok {z : Int} (h : okE z = true) (k : vE z = true) : fltR z = 0 := by simp [fltR, h, k]
theorem not_true {b : Bool} (h : b = false) : ¬ b = true := by rw [h]; decide

/-- The three ends of a leaf: it isn't Read; it isn't Write; it is told. -/
theorem wkd_right {zs : List Int} {root page : Int} {wr b r x l : Bool} {p : Int} (hk : chk zs = 0) (hd : pageB root = true ∧ pageB page = true) (hf : fnd zs root page = ((b, r, x, l, p), 0)) :
    wkd zs root page wr = if (r && (x || !wr)) = true then ((b, r, x, l, p), 0, 0) else ((false, false, false, false, 0), 5, 0) := by
  rw [wkd, if_pos hk, if_pos hd, wkF, hf, if_pos rfl]
  split <;> rfl
theorem wkd_fault {zs : List Int} {root page : Int} {wr : Bool} {f : Int} (hk : chk zs = 0) (hd : pageB root = true ∧ pageB page = true) (hf : fnd zs root page = (E0, f)) (h0 : ¬ f = 0) :
    wkd zs root page wr = ((false, false, false, false, 0), f, 0) := by
  rw [wkd, if_pos hk, if_pos hd, wkF, hf, if_neg h0]; rfl

set_option maxHeartbeats 4000000 in
theorem walkedR_any (v : Value) (zs : List Int) (root page : Int) (wr : Bool) (w : World) (h : Sl w v zs) (hk : chk zs = 0) :
    Calls Try.prog 60 #[.agg #[v], .int .i64 root, .int .i64 page, .bool wr] w fun e w' => (∃ b r x l p f c, e = .returned (.tuple #[.agg #[.bool b, .bool r, .bool x, .bool l, .int .i64 p], .int .i64 f, .int .i64 c]) ∧ wkd zs root page wr = ((b, r, x, l, p), f, c)) ∧ Below w.heap.size w w' := by
  have HK : Hid (chk zs = 0) := hk
  have hn := (chk_ok hk).1
  obtain ⟨b, o, cap, rfl, hb, hc⟩ := h.open512 hn
  have HC : Hid (∀ i, i < 512 → w.cell? ⟨b, o + i, none⟩ = some (.int .i64 (nth zs i))) := hc
  clear hn hk hc h
  cases hr : pageB root
  · have hd : ¬ (pageB root = true ∧ pageB page = true) := by rw [hr]; simp
    have HD : Hid _ := hd
    clear hd
    go_enter Try.func60, Try.ntmps60
    go_wp2_with fail
    refine (in_any _ _ _ _).mono ?_
    rintro e w2 ⟨rfl, rfl⟩
    rw [pg_between, hr]
    go_wp2
    refine bodyPost_ret (v := .tuple #[.agg #[.bool false, .bool false, .bool false, .bool false, .int .i64 0], .int .i64 0, .int .i64 4]) (by simp [results, Try.results60, go_sem, *]) rfl ⟨⟨_, _, _, _, _, _, _, rfl, by rw [wkd, if_pos HK.out, if_neg HD.out]; rfl⟩, ?_⟩
    exact bel_alloc (bel_alloc (bel_alloc (Below.refl _ _) _) _) _
  cases hp : pageB page
  · have hd : ¬ (pageB root = true ∧ pageB page = true) := by rw [hp]; simp
    have HD : Hid _ := hd
    clear hd
    go_enter Try.func60, Try.ntmps60
    go_wp2_with fail
    refine (in_any _ _ _ _).mono ?_
    rintro e w2 ⟨rfl, rfl⟩
    rw [pg_between, hr]
    go_wp2_with fail
    refine (in_any _ _ _ _).mono ?_
    rintro e w2 ⟨rfl, rfl⟩
    rw [pg_between, hp]
    go_wp2
    refine bodyPost_ret (v := .tuple #[.agg #[.bool false, .bool false, .bool false, .bool false, .int .i64 0], .int .i64 0, .int .i64 4]) (by simp [results, Try.results60, go_sem, *]) rfl ⟨⟨_, _, _, _, _, _, _, rfl, by rw [wkd, if_pos HK.out, if_neg HD.out]; rfl⟩, ?_⟩
    exact bel_alloc (bel_alloc (bel_alloc (Below.refl _ _) _) _) _
  have hd : pageB root = true ∧ pageB page = true := ⟨hr, hp⟩
  have HD : Hid _ := hd
  clear hd
  obtain ⟨r0, r1⟩ : 0 ≤ root ∧ root < 64 := by simpa [pageB] using hr
  obtain ⟨g0, g1⟩ : 0 ≤ page ∧ page < 64 := by simpa [pageB] using hp
  have g : w.cell? ⟨b, o + (8 * root + page / 8).toNat, none⟩ = some (.int .i64 (one zs root page)) := HC.out _ (by omega)
  have y1 : b < w.heap.size + 1 := by omega
  have y2 : b < w.heap.size + 1 + 1 := by omega
  go_enter Try.func60, Try.ntmps60
  go_wp2_with fail
  refine (in_any _ _ _ _).mono ?_
  rintro e w2 ⟨rfl, rfl⟩
  rw [pg_between, hr]
  go_wp2_with fail
  refine (in_any _ _ _ _).mono ?_
  rintro e w2 ⟨rfl, rfl⟩
  rw [pg_between, hp]
  clear hr hp
  go_wp2_with fail
  refine (entryOf_any _ _).mono ?_
  rintro e w1 ⟨rfl, b1⟩
  have B1 : Hid _ := b1
  have BB : Hid (Below w.heap.size w w1) := bel_trans (bel_alloc (bel_alloc (bel_alloc (Below.refl _ _) _) _) _) b1
  obtain ⟨c1, f1⟩ := bcell b1
  have s1 : w.heap.size + 1 + 1 < w1.heap.size := by have := b1.size; simp at this; omega
  have s0 : w.heap.size + 1 < w1.heap.size := by omega
  clear b1 g
  cases ho : okE (one zs root page)
  · obtain ⟨x1, x2⟩ := flt_bad ho
    have HF : Hid (fnd zs root page = (E0, 4)) := by show _ = _; rw [fnd, if_neg x1, x2]
    clear x1 x2 ho
    go_wp2
    refine bodyPost_ret (v := .tuple #[.agg #[.bool false, .bool false, .bool false, .bool false, .int .i64 0], .int .i64 4, .int .i64 0]) (by simp [results, Try.results60, go_sem, *]) rfl ⟨⟨_, _, _, _, _, _, _, rfl, wkd_fault HK.out HD.out HF.out (by decide)⟩, ?_⟩
    exact bel_alloc (bel_set5 (by omega) BB.out _ _ _ _ _) _
  cases hv : vE (one zs root page)
  · obtain ⟨x1, x2⟩ := flt_no ho hv
    have HF : Hid (fnd zs root page = (E0, 3)) := by show _ = _; rw [fnd, if_neg x1, x2]
    clear x1 x2 ho hv
    go_wp2
    refine bodyPost_ret (v := .tuple #[.agg #[.bool false, .bool false, .bool false, .bool false, .int .i64 0], .int .i64 3, .int .i64 0]) (by simp [results, Try.results60, go_sem, *]) rfl ⟨⟨_, _, _, _, _, _, _, rfl, wkd_fault HK.out HD.out HF.out (by decide)⟩, ?_⟩
    exact bel_alloc (bel_set5 (by omega) BB.out _ _ _ _ _) _
  have X1 : Hid (fltR (one zs root page) = 0) := flt_ok ho hv
  have HV : Hid (vE (one zs root page) = true) := hv
  obtain ⟨p0, p1⟩ := pE_in (one zs root page)
  clear ho hv
  cases hl : lE (one zs root page)
  rotate_left
  · by_cases h8 : pE (one zs root page) % 8 = 0
    rotate_left
    · have HF : Hid (fnd zs root page = (E0, 4)) := by show _ = _; rw [fnd, if_pos X1.out, if_pos hl, if_neg h8]
      clear hl
      go_wp2
      refine bodyPost_ret (v := .tuple #[.agg #[.bool false, .bool false, .bool false, .bool false, .int .i64 0], .int .i64 4, .int .i64 0]) (by simp [results, Try.results60, go_sem, *]) rfl ⟨⟨_, _, _, _, _, _, _, rfl, wkd_fault HK.out HD.out HF.out (by decide)⟩, ?_⟩
      exact bel_alloc (bel_set5 (by omega) BB.out _ _ _ _ _) _
    have HF : Hid (fnd zs root page = ((true, rE (one zs root page), xE (one zs root page), true, pE (one zs root page) + page % 8), 0)) := by show _ = _; rw [fnd, if_pos X1.out, if_pos hl, if_pos h8, HV.out, hl]
    clear hl
    generalize rE (one zs root page) = r at *
    generalize xE (one zs root page) = x at *
    have HW : Hid _ := @wkd_right zs root page wr _ _ _ _ _ HK.out HD.out HF.out
    cases r
    · go_wp2
      refine bodyPost_ret (v := .tuple #[.agg #[.bool false, .bool false, .bool false, .bool false, .int .i64 0], .int .i64 5, .int .i64 0]) (by simp [results, Try.results60, go_sem, *]) rfl ⟨⟨_, _, _, _, _, _, _, rfl, HW.out⟩, ?_⟩
      exact bel_alloc (bel_set5 (by omega) BB.out _ _ _ _ _) _
    cases wr
    · have HW' : Hid _ := HW.out.trans (if_pos (by cases x <;> rfl))
      clear HW
      go_wp2
      refine bodyPost_ret (v := .tuple #[.agg #[.bool true, .bool true, .bool x, .bool true, .int .i64 (pE (one zs root page) + page % 8)], .int .i64 0, .int .i64 0]) (by simp [results, Try.results60, go_sem, *]) rfl ⟨⟨_, _, _, _, _, _, _, rfl, HW'.out⟩, ?_⟩
      exact bel_alloc (bel_set5 (by omega) BB.out _ _ _ _ _) _
    cases x
    · go_wp2
      refine bodyPost_ret (v := .tuple #[.agg #[.bool false, .bool false, .bool false, .bool false, .int .i64 0], .int .i64 5, .int .i64 0]) (by simp [results, Try.results60, go_sem, *]) rfl ⟨⟨_, _, _, _, _, _, _, rfl, HW.out⟩, ?_⟩
      exact bel_alloc (bel_set5 (by omega) BB.out _ _ _ _ _) _
    · go_wp2
      refine bodyPost_ret (v := .tuple #[.agg #[.bool true, .bool true, .bool true, .bool true, .int .i64 (pE (one zs root page) + page % 8)], .int .i64 0, .int .i64 0]) (by simp [results, Try.results60, go_sem, *]) rfl ⟨⟨_, _, _, _, _, _, _, rfl, HW.out⟩, ?_⟩
      exact bel_alloc (bel_set5 (by omega) BB.out _ _ _ _ _) _
  have HL : Hid (¬ lE (one zs root page) = true) := not_true hl
  clear hl
  have e2 : w.cell? ⟨b, o + (8 * pE (one zs root page) + page % 8).toNat, none⟩ = some (.int .i64 (two zs root page)) := HC.out _ (by omega)
  have g2 : w1.cell? ⟨b, o + (8 * pE (one zs root page) + page % 8).toNat, none⟩ = some (.int .i64 (two zs root page)) := by rw [BB.out.cell (p := ⟨b, _, none⟩) hb]; exact e2
  have hb1 : b < w1.heap.size := by omega
  have s00 : w.heap.size < w1.heap.size := by omega
  have z3 : w.heap.size < w.heap.size + 1 + 1 + 1 := by omega
  have z4 : w.heap.size + 1 < w.heap.size + 1 + 1 + 1 := by omega
  have z5 : b < w.heap.size + 1 + 1 + 1 := by omega
  go_wp2_with fail
  refine (entryOf_any _ _).mono ?_
  rintro e w2 ⟨rfl, b2⟩
  have B2 : Hid _ := bel_trans (bel_alloc B1.out _) b2
  have BB2 : Hid (Below w.heap.size w w2) := bel_trans (bel_alloc BB.out _) b2
  have K2 := (Blk.new w1 _ _ _).keep b2
  obtain ⟨d0, d1, d2, d3, d4⟩ := K2.five
  have L2 := K2.lt
  have fz : ∀ i, w2.frozen? ⟨w1.heap.size, i, none⟩ = false := fun i => by rw [(bcell b2).2 _ _ (by simp)]; simp [go_sem]
  have s2 : w.heap.size + 1 + 1 < w2.heap.size := by omega
  have s20 : w.heap.size + 1 < w2.heap.size := by omega
  have n1 : ¬ w1.heap.size = w.heap.size + 1 := by omega
  have n2 : ¬ w1.heap.size = w.heap.size + 1 + 1 := by omega
  have BS : Hid (∀ u0 u1 u2 u3 u4, Below w.heap.size w (((((w2.setCell ⟨w1.heap.size, 0, none⟩ u0).setCell ⟨w1.heap.size, 1, none⟩ u1).setCell ⟨w1.heap.size, 2, none⟩ u2).setCell ⟨w1.heap.size, 3, none⟩ u3).setCell ⟨w1.heap.size, 4, none⟩ u4)) := fun u0 u1 u2 u3 u4 => bel_set5 (by omega) BB2.out _ _ _ _ _
  clear c1 f1 K2 b2 B1 BB g2 s0 s1 hb1 s00
  obtain ⟨c1, f1⟩ := bcell B2.out
  cases ho : okE (two zs root page)
  · obtain ⟨x1, x2⟩ := flt_bad ho
    have HF : Hid (fnd zs root page = (E0, 4)) := by show _ = _; rw [fnd, if_pos X1.out, if_neg HL.out, if_neg x1, x2]
    clear x1 x2 ho
    go_wp2
    refine bodyPost_ret (v := .tuple #[.agg #[.bool false, .bool false, .bool false, .bool false, .int .i64 0], .int .i64 4, .int .i64 0]) (by simp [results, Try.results60, go_sem, *]) rfl ⟨⟨_, _, _, _, _, _, _, rfl, wkd_fault HK.out HD.out HF.out (by decide)⟩, ?_⟩
    exact bel_set5 (by omega) (BS.out _ _ _ _ _) _ _ _ _ _
  cases hv : vE (two zs root page)
  · obtain ⟨x1, x2⟩ := flt_no ho hv
    have HF : Hid (fnd zs root page = (E0, 3)) := by show _ = _; rw [fnd, if_pos X1.out, if_neg HL.out, if_neg x1, x2]
    clear x1 x2 ho hv
    go_wp2
    refine bodyPost_ret (v := .tuple #[.agg #[.bool false, .bool false, .bool false, .bool false, .int .i64 0], .int .i64 3, .int .i64 0]) (by simp [results, Try.results60, go_sem, *]) rfl ⟨⟨_, _, _, _, _, _, _, rfl, wkd_fault HK.out HD.out HF.out (by decide)⟩, ?_⟩
    exact bel_set5 (by omega) (BS.out _ _ _ _ _) _ _ _ _ _
  have X2 : Hid (fltR (two zs root page) = 0) := flt_ok ho hv
  have HV2 : Hid (vE (two zs root page) = true) := hv
  clear ho hv
  cases hl : lE (two zs root page)
  · have x1 := not_true hl
    have HF : Hid (fnd zs root page = (E0, 4)) := by show _ = _; rw [fnd, if_pos X1.out, if_neg HL.out, if_pos X2.out, if_neg x1]
    clear x1 hl
    go_wp2
    refine bodyPost_ret (v := .tuple #[.agg #[.bool false, .bool false, .bool false, .bool false, .int .i64 0], .int .i64 4, .int .i64 0]) (by simp [results, Try.results60, go_sem, *]) rfl ⟨⟨_, _, _, _, _, _, _, rfl, wkd_fault HK.out HD.out HF.out (by decide)⟩, ?_⟩
    exact bel_set5 (by omega) (BS.out _ _ _ _ _) _ _ _ _ _
  have HF : Hid (fnd zs root page = ((true, rE (two zs root page), xE (two zs root page), true, pE (two zs root page)), 0)) := by show _ = _; rw [fnd, if_pos X1.out, if_neg HL.out, if_pos X2.out, if_pos hl, entE, HV2.out, hl]
  clear hl
  generalize rE (two zs root page) = r at *
  generalize xE (two zs root page) = x at *
  have HW : Hid _ := @wkd_right zs root page wr _ _ _ _ _ HK.out HD.out HF.out
  cases r
  · skip
    go_wp2
    refine bodyPost_ret (v := .tuple #[.agg #[.bool false, .bool false, .bool false, .bool false, .int .i64 0], .int .i64 5, .int .i64 0]) (by simp [results, Try.results60, go_sem, *]) rfl ⟨⟨_, _, _, _, _, _, _, rfl, HW.out⟩, ?_⟩
    exact bel_set5 (by omega) (BS.out _ _ _ _ _) _ _ _ _ _
  cases wr
  · have HW' : Hid _ := HW.out.trans (if_pos (by cases x <;> rfl))
    clear HW
    go_wp2
    refine bodyPost_ret (v := .tuple #[.agg #[.bool true, .bool true, .bool x, .bool true, .int .i64 (pE (two zs root page))], .int .i64 0, .int .i64 0]) (by simp [results, Try.results60, go_sem, *]) rfl ⟨⟨_, _, _, _, _, _, _, rfl, HW'.out⟩, ?_⟩
    exact bel_set5 (by omega) (BS.out _ _ _ _ _) _ _ _ _ _
  cases x
  · skip
    go_wp2
    refine bodyPost_ret (v := .tuple #[.agg #[.bool false, .bool false, .bool false, .bool false, .int .i64 0], .int .i64 5, .int .i64 0]) (by simp [results, Try.results60, go_sem, *]) rfl ⟨⟨_, _, _, _, _, _, _, rfl, HW.out⟩, ?_⟩
    exact bel_set5 (by omega) (BS.out _ _ _ _ _) _ _ _ _ _
  · skip
    go_wp2
    refine bodyPost_ret (v := .tuple #[.agg #[.bool true, .bool true, .bool true, .bool true, .int .i64 (pE (two zs root page))], .int .i64 0, .int .i64 0]) (by simp [results, Try.results60, go_sem, *]) rfl ⟨⟨_, _, _, _, _, _, _, rfl, HW.out⟩, ?_⟩
    exact bel_set5 (by omega) (BS.out _ _ _ _ _) _ _ _ _ _
end Go.Proofs.Ytemnklppplgcoab
/-
  The walk of drawbridgelaw.WalkSays: it answers true, whatever memory, pages and right it is given; nothing that was there turns.
-/
namespace Go.Proofs.Ytemnklppplgcoab
open Go.RowKit

theorem wkd_parts (zs : List Int) (root page : Int) (wr : Bool) : ∃ b r x l p f c, wkd zs root page wr = ((b, r, x, l, p), f, c) := ⟨_, _, _, _, _, _, _, rfl⟩
theorem walkedR_at {v : Value} {zs : List Int} {root page : Int} {wr : Bool} {w : World} {b r x l : Bool} {p f c : Int} (hk : wkd zs root page wr = ((b, r, x, l, p), f, c)) (h : Sl w v zs) (h0 : chk zs = 0) :
    Calls Try.prog 60 #[.agg #[v], .int .i64 root, .int .i64 page, .bool wr] w fun e w' => e = .returned (.tuple #[.agg #[.bool b, .bool r, .bool x, .bool l, .int .i64 p], .int .i64 f, .int .i64 c]) ∧ Below w.heap.size w w' := by
  refine (walkedR_any v zs root page wr w h h0).mono ?_
  rintro e w' ⟨⟨b', r', x', l', p', f', c', rfl, hk'⟩, hb⟩
  rw [hk] at hk'
  simp only [Prod.mk.injEq] at hk'
  obtain ⟨⟨rfl, rfl, rfl, rfl, rfl⟩, rfl, rfl⟩ := hk'
  exact ⟨rfl, hb⟩

end Go.Proofs.Ytemnklppplgcoab
/-
  drawbridgeref's LineAt: which line it is; it turns nothing that was there.
-/
namespace Go.Proofs.Ytemnklppplgcoab
open Go.RowKit

set_option maxHeartbeats 1000000 in
theorem lineAt_any (v : Value) (l : List Ln) (d p : Int) (w : World) (h : Ls w v l) :
    Calls Try.prog 86 #[v, .int .i64 d, .int .i64 p] w fun e w' => e = .returned (.int .i64 (fndC l d p)) ∧ Below w.heap.size w w' := by
  obtain ⟨a, cap, rfl, hl, hm, h⟩ := h
  unfold maxLen at hm
  rcases h with rfl | ⟨b, o, rfl, hb, hc⟩
  · go_enter Try.func86, Try.ntmps86
    go_wp2
    go_loopw [7, 8, 11] (fun _ _ i w' => i = .int .i64 0 ∧ w' = w) (fun _ _ i _ => 0)
    case atStart => exact ⟨rfl, rfl⟩
    case round =>
      obtain ⟨rfl, rfl⟩ := hrel
      go_wp2
      go_ret
      exact ⟨ret_int (fndC_none (fun j hj => absurd hj (Nat.not_lt_zero _))).symm, Below.refl _ _⟩
  · have HC : Hid _ := hc
    clear hc
    go_enter Try.func86, Try.ntmps86
    go_wp2
    go_loopw [7, 8, 11] (fun _ _ i w' => ∃ k : Nat, k ≤ l.length ∧ i = .int .i64 k ∧ (∀ j, j < k → hasB d p (lth l j) = false) ∧ Below w.heap.size w w') (fun _ _ i _ => l.length - (intOf i).toNat)
    case atStart => exact ⟨0, Nat.zero_le _, rfl, fun j hj => absurd hj (Nat.not_lt_zero _), Below.refl _ _⟩
    case round =>
      obtain ⟨k, hk, rfl, hpre, hB⟩ := hrel
      have HP : Hid _ := hpre
      have HB : Hid _ := hB
      by_cases hlt : k < l.length
      · obtain ⟨g0, g1, g2, g3, g4⟩ := (HC.out k hlt).keep hB hb
        have hb' : b < wr.heap.size := Nat.lt_of_lt_of_le hb hB.size
        obtain ⟨y, hy⟩ : ∃ y, y = lth l k := ⟨_, rfl⟩
        have HY : Hid _ := hy
        rw [← hy] at g0 g1 g2 g3 g4
        clear hy hpre hB
        obtain ⟨d1, p1, a1, r1, x1⟩ := y
        simp only at g0 g1 g2 g3 g4
        have hlt1 : (k : Int) < l.length := by omega
        by_cases e1 : d1 = d
        · by_cases e2 : p1 = p
          · subst e1 e2
            have HF : Hid (fndC l d1 p1 = k) := fndC_at hlt (by rw [← HY.out]; simp [hasB]) HP.out
            go_wp2
            go_ret
            exact ⟨ret_int HF.out.symm, bel_alloc HB.out _⟩
          · have q1 : (d1 == d) = true := by simpa using e1
            have q2 : (p1 == p) = false := by simpa using e2
            have HN : Hid (hasB d p (lth l k) = false) := by show _ = _; rw [← HY.out]; simp [hasB, e2]
            clear e1 e2
            go_wp2
            exact ⟨⟨k + 1, by omega, by go_num, upto_next HP.out HN.out, bel_alloc HB.out _⟩, by simp [intOf]; omega⟩
        · have q1 : (d1 == d) = false := by simpa using e1
          have HN : Hid (hasB d p (lth l k) = false) := by show _ = _; rw [← HY.out]; simp [hasB, e1]
          clear e1
          go_wp2
          exact ⟨⟨k + 1, by omega, by go_num, upto_next HP.out HN.out, bel_alloc HB.out _⟩, by simp [intOf]; omega⟩
      · have HF : Hid (fndC l d p = -1) := fndC_none fun j hj => HP.out j (by omega)
        clear hpre hB
        go_wp2
        go_ret
        exact ⟨ret_int HF.out.symm, HB.out⟩
end Go.Proofs.Ytemnklppplgcoab
/-
  drawbridgeref's Filled: lines with one more behind them; nothing that was there turns.
-/
namespace Go.Proofs.Ytemnklppplgcoab
open Go.RowKit

set_option maxHeartbeats 1000000 in
theorem filled_any (v : Value) (l : List Ln) (d p a : Int) (r x : Bool) (w : World) (h : Ls w v l) :
    Calls Try.prog 61 #[v, .agg #[.int .i64 d, .int .i64 p, .int .i64 a, .bool r, .bool x]] w fun e w' => (∃ v', e = .returned (.tuple #[v', .int .i64 (flE l (d, p, a, r, x))]) ∧ Ls w' v' (flC l (d, p, a, r, x))) ∧ Below w.heap.size w w' := by
  have HL : Hid (Ls w v l) := h
  obtain ⟨a0, cap, rfl, hl, hm, h⟩ := h
  unfold maxLen at hm
  go_enter Try.func61, Try.ntmps61
  go_wp2_with fail
  refine (checkCache_any _ l _ (HL.out.keep (bel_alloc (Below.refl _ _) _))).mono ?_
  rintro e w1 ⟨rfl, b1⟩
  have K1 := (Blk.new w #[.int .i64 d, .int .i64 p, .int .i64 a, .bool r, .bool x] 68 (0, 0)).keep b1
  have B1 : Hid (Below w.heap.size w w1) := bel_trans (bel_alloc (Below.refl _ _) _) b1
  clear b1
  by_cases hc : chkC l = 0
  rotate_left
  · have hq : (chkC l != 0) = true := by simpa using hc
    have HE : Hid (flE l (d, p, a, r, x) = chkC l) := by unfold flE; exact if_neg hc
    have HF : Hid (flC l (d, p, a, r, x) = []) := by unfold flC; exact if_neg (by rw [HE.out]; exact hc)
    go_wp2
    refine bodyPost_ret (v := .tuple #[.slice none 0 0, .int .i64 (chkC l)]) (by simp [results, Try.results61, go_sem]) rfl ⟨⟨_, by rw [HE.out], by rw [HF.out]; exact Ls.nothing _⟩, B1.out⟩
  rw [hc]
  obtain ⟨c0, c1, c2, c3, c4⟩ := K1.five
  have s1 := K1.lt
  go_wp2_with fail
  refine (checkCache_any _ [(d, p, a, r, x)] _ (ls_one _ _ _ _ _ _ _)).mono ?_
  rw [chkC_one]
  rintro e w2 ⟨rfl, b2⟩
  have K2 := (K1.past _).keep b2
  have B2 : Hid (Below w.heap.size w w2) := bel_trans (bel_alloc B1.out _) b2
  clear B1 K1 b2 c0 c1 c2 c3 c4 s1
  obtain ⟨c0, c1, c2, c3, c4⟩ := K2.five
  have s1 := K2.lt
  by_cases ho : own (d, p, a, r, x) = 0
  rotate_left
  · have hq : (own (d, p, a, r, x) != 0) = true := by simpa using ho
    have HE : Hid (flE l (d, p, a, r, x) = own (d, p, a, r, x)) := by
      unfold flE
      rw [if_pos hc, chkC_one, if_neg ho]
      rfl
    have HF : Hid (flC l (d, p, a, r, x) = []) := by unfold flC; exact if_neg (by rw [HE.out]; exact ho)
    generalize own (d, p, a, r, x) = z at *
    go_wp2
    refine bodyPost_ret (v := .tuple #[.slice none 0 0, .int .i64 z]) (by simp [results, Try.results61, go_sem]) rfl ⟨⟨_, by rw [HE.out], by rw [HF.out]; exact Ls.nothing _⟩, B2.out⟩
  rw [ho]
  go_wp2_with fail
  refine (lineAt_any _ l d p _ (HL.out.keep B2.out)).mono ?_
  rintro e wx ⟨rfl, b3⟩
  have K3 := K2.keep b3
  have B3 : Hid (Below w.heap.size w wx) := bel_trans B2.out b3
  clear B2 K2 b3 c0 c1 c2 c3 c4 s1
  obtain ⟨c0, c1, c2, c3, c4⟩ := K3.five
  have s1 := K3.lt
  by_cases hf : 0 ≤ fndC l d p
  · have HE : Hid (flE l (d, p, a, r, x) = 5) := by
      unfold flE
      rw [if_pos hc, chkC_one, if_pos ho]
      exact if_pos hf
    have HF : Hid (flC l (d, p, a, r, x) = []) := by unfold flC; exact if_neg (by rw [HE.out]; decide)
    go_wp2
    refine bodyPost_ret (v := .tuple #[.slice none 0 0, .int .i64 5]) (by simp [results, Try.results61, go_sem]) rfl ⟨⟨_, by rw [HE.out], by rw [HF.out]; exact Ls.nothing _⟩, B3.out⟩
  have HE : Hid (flE l (d, p, a, r, x) = 0) := by
    unfold flE
    rw [if_pos hc, chkC_one, if_pos ho]
    exact if_neg hf
  have HF : Hid (flC l (d, p, a, r, x) = oldC l ++ [(d, p, a, r, x)]) := flC_ok HE.out
  have h6 : l.length ≤ 6 := (chkC_zero.1 hc).1
  have HT0 : Hid (Ls wx (.slice a0 l.length cap) l) := HL.out.keep B3.out
  clear HL K3
  obtain ⟨m, hm'⟩ : ∃ m, m = oldC l := ⟨_, rfl⟩
  have HM : Hid (m = oldC l) := hm'
  have hm5 : m.length ≤ 5 := by rw [hm']; exact (oldC_len h6).1
  clear hm'
  by_cases hl6 : l.length = 6
  · rcases h with rfl | ⟨b, o, rfl, hb, _⟩
    · exact absurd hl6 (by simp)
    have HT : Hid (Ls wx (.slice (some ⟨b, o + 5, none⟩) 5 (cap - 1)) m) := by
      have := HT0.out.drop (k := 1) (by omega)
      rw [HM.out, oldC, if_pos hl6]
      rw [hl6] at this
      exact this
    rw [hl6] at hl ⊢
    have z1 : (1 : Int) ≤ cap := by omega
    have z2 : (6 : Int) ≤ cap := by omega
    have z3 : ¬ cap = 1 := by omega
    have z4 : 1 ≤ cap := by omega
    go_wp2
    go_region_held3 (fun w' => w'.cell? ⟨w.heap.size, 0, none⟩ = some (.int .i64 d) ∧ w'.cell? ⟨w.heap.size, 1, none⟩ = some (.int .i64 p) ∧ w'.cell? ⟨w.heap.size, 2, none⟩ = some (.int .i64 a) ∧ w'.cell? ⟨w.heap.size, 3, none⟩ = some (.bool r) ∧ w'.cell? ⟨w.heap.size, 4, none⟩ = some (.bool x) ∧ Below wx.heap.size wx w')
      (with_reducible refine keep5 (by assumption) (by assumption) (by assumption) (by assumption) (by assumption) (by assumption) ?_; (repeat (first | with_reducible assumption | (with_reducible (refine limb5 (?_ : _ ∧ _ ∧ _ ∧ _ ∧ _ ∧ _); assumption)) | with_reducible exact Below.refl _ _ | with_reducible refine Below.drew ?_ | with_reducible refine bel_drewN ?_ _ | with_reducible refine bel_alloc ?_ _ | with_reducible refine Below.trans ?_ (by assumption))))
      (first
        | (refine step_append_L rfl (.tmp 31) (.tmp 32) rfl wx.heap.size (.slice (some ⟨_, 0, none⟩) 0 0) _ [] m rfl rfl ?_ ?_ (by first | (simp; done) | (simp; omega)) (by first | (simp; done) | (simp; omega)) (.inl ⟨_, _, _, rfl⟩) ?_; (focus (first | exact OwnL.litAt (by simp) _ (by simp) | exact (OwnL.litAt (by simp) _ (by simp)).alloc _)); (focus (first | exact HT.out.keep (bel_alloc (bel_alloc (Below.drew (Below.refl _ _)) _) _) | exact HT.out.keep (bel_alloc (Below.drew (Below.refl _ _)) _))); intro g cg w4 hown hgr hbel _)
        | (refine step_append_L rfl (.tmp 33) (.tmp 35) rfl wx.heap.size (.slice (some ⟨_, 0, none⟩) _ _) (.slice (some ⟨_, 0, none⟩) 1 1) m [(d, p, a, r, x)] rfl rfl ?_ ?_ (by simp; omega) (by have hs4 := hgr.size; simp at hs4 ⊢; omega) (.inl ⟨_, _, _, rfl⟩) ?_; (focus (first | exact hown | exact hown.alloc _)); (focus (first | exact ls_oneAt (by simp) _ _ _ _ _ _ | (refine Ls.grown ?_ hgr (by simp [Value.ownBlock]); first | exact ls_oneAt (by simp) _ _ _ _ _ _ | exact Ls.alloc (ls_oneAt (by simp) _ _ _ _ _ _) _))); intro g2 cg2 w5 hown2 _ hbel2 _))
    all_goals
      rename_i hH
      have HB5 : Hid (Below wx.heap.size wx w5) := limb5 hH
      have HO2 : Hid _ := hown2
      clear hH hown2 hown hgr hbel hbel2
      go_wp2
      refine bodyPost_ret (v := .tuple #[.slice (some ⟨g2, 0, none⟩) (m.length + 1) cg2, .int .i64 0]) (by simp [results, Try.results61, go_sem]) rfl ⟨⟨_, by rw [HE.out], ?_⟩, bel_trans B3.out HB5.out⟩
      rw [HF.out, ← HM.out]
      simpa using OwnL.ls HO2.out
  · have hq6 : ((l.length : Int) == 6) = false := by simp; omega
    have HT : Hid (Ls wx (.slice a0 l.length cap) m) := by
      rw [HM.out, oldC, if_neg hl6]
      exact HT0.out
    go_wp2
    go_region_held3 (fun w' => w'.cell? ⟨w.heap.size, 0, none⟩ = some (.int .i64 d) ∧ w'.cell? ⟨w.heap.size, 1, none⟩ = some (.int .i64 p) ∧ w'.cell? ⟨w.heap.size, 2, none⟩ = some (.int .i64 a) ∧ w'.cell? ⟨w.heap.size, 3, none⟩ = some (.bool r) ∧ w'.cell? ⟨w.heap.size, 4, none⟩ = some (.bool x) ∧ Below wx.heap.size wx w')
      (with_reducible refine keep5 (by assumption) (by assumption) (by assumption) (by assumption) (by assumption) (by assumption) ?_; (repeat (first | with_reducible assumption | (with_reducible (refine limb5 (?_ : _ ∧ _ ∧ _ ∧ _ ∧ _ ∧ _); assumption)) | with_reducible exact Below.refl _ _ | with_reducible refine Below.drew ?_ | with_reducible refine bel_drewN ?_ _ | with_reducible refine bel_alloc ?_ _ | with_reducible refine Below.trans ?_ (by assumption))))
      (first
        | (refine step_append_L rfl (.tmp 31) (.tmp 32) rfl wx.heap.size (.slice (some ⟨_, 0, none⟩) 0 0) _ [] m rfl rfl ?_ ?_ (by first | (simp; done) | (simp; omega)) (by first | (simp; done) | (simp; omega)) (.inl ⟨_, _, _, rfl⟩) ?_; (focus (first | exact OwnL.litAt (by simp) _ (by simp) | exact (OwnL.litAt (by simp) _ (by simp)).alloc _)); (focus (first | exact HT.out.keep (bel_alloc (bel_alloc (Below.drew (Below.refl _ _)) _) _) | exact HT.out.keep (bel_alloc (Below.drew (Below.refl _ _)) _))); intro g cg w4 hown hgr hbel _)
        | (refine step_append_L rfl (.tmp 33) (.tmp 35) rfl wx.heap.size (.slice (some ⟨_, 0, none⟩) _ _) (.slice (some ⟨_, 0, none⟩) 1 1) m [(d, p, a, r, x)] rfl rfl ?_ ?_ (by simp; omega) (by have hs4 := hgr.size; simp at hs4 ⊢; omega) (.inl ⟨_, _, _, rfl⟩) ?_; (focus (first | exact hown | exact hown.alloc _)); (focus (first | exact ls_oneAt (by simp) _ _ _ _ _ _ | (refine Ls.grown ?_ hgr (by simp [Value.ownBlock]); first | exact ls_oneAt (by simp) _ _ _ _ _ _ | exact Ls.alloc (ls_oneAt (by simp) _ _ _ _ _ _) _))); intro g2 cg2 w5 hown2 _ hbel2 _))
    all_goals
      rename_i hH
      have HB5 : Hid (Below wx.heap.size wx w5) := limb5 hH
      have HO2 : Hid _ := hown2
      clear hH hown2 hown hgr hbel hbel2
      go_wp2
      refine bodyPost_ret (v := .tuple #[.slice (some ⟨g2, 0, none⟩) (m.length + 1) cg2, .int .i64 0]) (by simp [results, Try.results61, go_sem]) rfl ⟨⟨_, by rw [HE.out], ?_⟩, bel_trans B3.out HB5.out⟩
      rw [HF.out, ← HM.out]
      simpa using OwnL.ls HO2.out
end Go.Proofs.Ytemnklppplgcoab
