/-
  drawbridgeref's EntryOf: it answers what entry.Read answers; nothing that was there turns.
-/
import Derived.Test.YtnpgldcambbnhaaDigits
import Derived.Deep.RegionHeld3
import Derived.Deep.DrawnRows
namespace Go.Proofs.Ytnpgldcambbnhaa
open Go.RowKit
attribute [local go_sem ↓] Go.wp_at_zero Go.wp_at_succ

/-- A part of a block reads as these numbers. -/
theorem sl_part {w : World} {b o n cap : Nat} {t : TypeId} {fr : Nat × Nat} {cs : Array Value} {zs : List Int} (hb : w.heap[b]? = some (.cells cs t fr)) (hcs : (cs.toList.drop o).take zs.length = zs.map (fun z => Value.int .i64 z)) (hn : n = zs.length) (hm : zs.length ≤ maxLen) :
    Sl w (.slice (some ⟨b, o, none⟩) n cap) zs := by
  subst hn
  refine ⟨_, cap, rfl, hm, .inr ⟨b, o, rfl, ?_, fun i hi => ?_⟩⟩
  · rcases Nat.lt_or_ge b w.heap.size with h | h
    · exact h
    · rw [Array.getElem?_eq_none h] at hb; exact absurd hb (by simp)
  · have h : ((cs.toList.drop o).take zs.length)[i]? = (zs.map (fun z => Value.int .i64 z))[i]? := by rw [hcs]
    rw [List.getElem?_take, if_pos hi, List.getElem?_drop, List.getElem?_map, List.getElem?_eq_getElem hi] at h
    rw [cell_of_row w b (o + i) cs t fr hb, ← Array.getElem?_toList, h]
    simp [nth, hi]

theorem dg_in (z : Int) (j : Nat) : 0 ≤ dg z j ∧ dg z j ≤ 1 := by unfold dg; omega
theorem dg_bit (z : Int) (j : Nat) : (dg z j == 1) = bitB z j := rfl
theorem num_hi (z : Int) (h0 : 0 ≤ z) (h1 : z ≤ 65535) : num [dg z 10, dg z 11, dg z 12, dg z 13, dg z 14, dg z 15] = z / 1024 := by
  simp only [num, dg]; omega
theorem num_mid (z : Int) : num [dg z 4, dg z 5, dg z 6, dg z 7, dg z 8, dg z 9] = z / 16 % 64 := by
  simp only [num, dg]; omega
theorem six_in {a b c d e f : Int} (ha : 0 ≤ a ∧ a ≤ 1) (hb : 0 ≤ b ∧ b ≤ 1) (hc : 0 ≤ c ∧ c ≤ 1) (hd : 0 ≤ d ∧ d ≤ 1) (he : 0 ≤ e ∧ e ≤ 1) (hf : 0 ≤ f ∧ f ≤ 1) :
    ∀ i, i < [a, b, c, d, e, f].length → 0 ≤ nth [a, b, c, d, e, f] i ∧ nth [a, b, c, d, e, f] i ≤ 1 := by
  intro i hi
  obtain rfl | rfl | rfl | rfl | rfl | rfl : i = 0 ∨ i = 1 ∨ i = 2 ∨ i = 3 ∨ i = 4 ∨ i = 5 := by simp at hi; omega
  · exact ha
  · exact hb
  · exact hc
  · exact hd
  · exact he
  · exact hf
/-- number of b[10:], and of b[4:10], where b lies in a block. -/
theorem number_hi {z : Int} {w : World} {n : Nat} (h0 : 0 ≤ z) (h1 : z ≤ 65535) (hb : w.heap[n]? = some (.cells #[.int .i64 (dg z 0), .int .i64 (dg z 1), .int .i64 (dg z 2), .int .i64 (dg z 3), .int .i64 (dg z 4), .int .i64 (dg z 5), .int .i64 (dg z 6), .int .i64 (dg z 7), .int .i64 (dg z 8), .int .i64 (dg z 9), .int .i64 (dg z 10), .int .i64 (dg z 11), .int .i64 (dg z 12), .int .i64 (dg z 13), .int .i64 (dg z 14), .int .i64 (dg z 15)] 62 (0, 0))) :
    Calls Try.prog 41 #[.slice (some ⟨n, 10, none⟩) 6 6] w fun e w' => e = .returned (.int .i64 (z / 1024)) ∧ w' = w := by
  rw [← num_hi z h0 h1]
  exact number_any _ _ _ (sl_part hb rfl rfl (by simp [maxLen])) (six_in (dg_in _ _) (dg_in _ _) (dg_in _ _) (dg_in _ _) (dg_in _ _) (dg_in _ _)) (by simp)
theorem number_mid {z : Int} {w : World} {n : Nat} (hb : w.heap[n]? = some (.cells #[.int .i64 (dg z 0), .int .i64 (dg z 1), .int .i64 (dg z 2), .int .i64 (dg z 3), .int .i64 (dg z 4), .int .i64 (dg z 5), .int .i64 (dg z 6), .int .i64 (dg z 7), .int .i64 (dg z 8), .int .i64 (dg z 9), .int .i64 (dg z 10), .int .i64 (dg z 11), .int .i64 (dg z 12), .int .i64 (dg z 13), .int .i64 (dg z 14), .int .i64 (dg z 15)] 62 (0, 0))) :
    Calls Try.prog 41 #[.slice (some ⟨n, 4, none⟩) 6 12] w fun e w' => e = .returned (.int .i64 (z / 16 % 64)) ∧ w' = w := by
  rw [← num_mid z]
  exact number_any _ _ _ (sl_part hb rfl rfl (by simp [maxLen])) (six_in (dg_in _ _) (dg_in _ _) (dg_in _ _) (dg_in _ _) (dg_in _ _) (dg_in _ _)) (by simp)

theorem okE_not {z : Int} (h : wordB z = false) : okE z = false ∧ vE z = false ∧ rE z = false ∧ xE z = false ∧ lE z = false ∧ pE z = 0 := by
  have ho : okE z = false := by simp [okE, h]
  have hv : vE z = false := by simp [vE, ho]
  exact ⟨ho, hv, by simp [rE, hv], by simp [xE, hv], by simp [lE, hv], by simp [pE, hv]⟩
theorem okE_nil {z : Int} (hw : wordB z = true) (h : dg z 0 = 0) : okE z = true ∧ vE z = false ∧ rE z = false ∧ xE z = false ∧ lE z = false ∧ pE z = 0 := by
  have hb : bitB z 0 = false := by rw [← dg_bit, h]; rfl
  have ho : okE z = true := by simp [okE, hw, hb]
  have hv : vE z = false := by simp [vE, hb]
  exact ⟨ho, hv, by simp [rE, hv], by simp [xE, hv], by simp [lE, hv], by simp [pE, hv]⟩
theorem okE_bad {z : Int} (hw : wordB z = true) (h : dg z 0 = 1) (k : 0 < z / 1024 ∨ dg z 1 < dg z 2 ∨ dg z 3 < dg z 1) : okE z = false ∧ vE z = false ∧ rE z = false ∧ xE z = false ∧ lE z = false ∧ pE z = 0 := by
  obtain ⟨h0, h1⟩ : 0 ≤ z ∧ z ≤ 65535 := by simpa [wordB] using hw
  have hb : bitB z 0 = true := by rw [← dg_bit, h]; rfl
  have ho : okE z = false := by
    rw [okE, hw, hb, hi_six z h0 h1]
    rcases k with k | k | k
    · rw [show decide (1024 ≤ z) = true by simp; omega]; rfl
    · have a := dg_in z 1
      have b := dg_in z 2
      have c1 : bitB z 1 = false := by rw [← dg_bit, show dg z 1 = 0 by omega]; rfl
      have c2 : bitB z 2 = true := by rw [← dg_bit, show dg z 2 = 1 by omega]; rfl
      rw [c1, c2]; simp [formE]
    · have a := dg_in z 1
      have b := dg_in z 3
      have c1 : bitB z 1 = true := by rw [← dg_bit, show dg z 1 = 1 by omega]; rfl
      have c2 : bitB z 3 = false := by rw [← dg_bit, show dg z 3 = 0 by omega]; rfl
      rw [c1, c2]; simp [formE]
  have hv : vE z = false := by simp [vE, ho]
  exact ⟨ho, hv, by simp [rE, hv], by simp [xE, hv], by simp [lE, hv], by simp [pE, hv]⟩
theorem okE_good {z : Int} (hw : wordB z = true) (h : dg z 0 = 1) (k1 : ¬ 0 < z / 1024) (k2 : ¬ dg z 1 < dg z 2) (k3 : ¬ dg z 3 < dg z 1) : okE z = true ∧ vE z = true ∧ rE z = (dg z 1 == 1) ∧ xE z = (dg z 2 == 1) ∧ lE z = (dg z 3 == 1) ∧ pE z = z / 16 % 64 := by
  obtain ⟨h0, h1⟩ : 0 ≤ z ∧ z ≤ 65535 := by simpa [wordB] using hw
  have hb : bitB z 0 = true := by rw [← dg_bit, h]; rfl
  have ho : okE z = true := by
    rw [okE, hw, hb, hi_six z h0 h1, show decide (1024 ≤ z) = false by simp; omega, ← dg_bit, ← dg_bit, ← dg_bit]
    obtain ⟨a1, a2⟩ := dg_in z 1
    obtain ⟨b1, b2⟩ := dg_in z 2
    obtain ⟨c1, c2⟩ := dg_in z 3
    have x1 : dg z 1 = 0 ∨ dg z 1 = 1 := by omega
    have x2 : dg z 2 = 0 ∨ dg z 2 = 1 := by omega
    have x3 : dg z 3 = 0 ∨ dg z 3 = 1 := by omega
    rcases x1 with x1 | x1 <;> rcases x2 with x2 | x2 <;> rcases x3 with x3 | x3 <;> rw [x1, x2] at k2 <;> rw [x1, x3] at k3 <;> rw [x1, x2, x3] <;> simp [formE] at * 
  have hv : vE z = true := by simp [vE, ho, hb]
  exact ⟨ho, hv, by simp [rE, hv, dg_bit], by simp [xE, hv, dg_bit], by simp [lE, hv, dg_bit], by simp [pE, hv]⟩

theorem keepD {w w' : World} {n : Nat} {z : Int} (h : w'.heap[n]? = some (.cells #[.int .i64 (dg z 0), .int .i64 (dg z 1), .int .i64 (dg z 2), .int .i64 (dg z 3), .int .i64 (dg z 4), .int .i64 (dg z 5), .int .i64 (dg z 6), .int .i64 (dg z 7), .int .i64 (dg z 8), .int .i64 (dg z 9), .int .i64 (dg z 10), .int .i64 (dg z 11), .int .i64 (dg z 12), .int .i64 (dg z 13), .int .i64 (dg z 14), .int .i64 (dg z 15)] 62 (0, 0))) (hb : Below w.heap.size w w') :
    w'.cell? ⟨n, 1, none⟩ = some (.int .i64 (dg z 1)) ∧ w'.cell? ⟨n, 2, none⟩ = some (.int .i64 (dg z 2)) ∧ w'.cell? ⟨n, 3, none⟩ = some (.int .i64 (dg z 3)) ∧ w'.heap[n]? = some (.cells #[.int .i64 (dg z 0), .int .i64 (dg z 1), .int .i64 (dg z 2), .int .i64 (dg z 3), .int .i64 (dg z 4), .int .i64 (dg z 5), .int .i64 (dg z 6), .int .i64 (dg z 7), .int .i64 (dg z 8), .int .i64 (dg z 9), .int .i64 (dg z 10), .int .i64 (dg z 11), .int .i64 (dg z 12), .int .i64 (dg z 13), .int .i64 (dg z 14), .int .i64 (dg z 15)] 62 (0, 0)) ∧ Below w.heap.size w w' :=
  ⟨cell_of_row _ _ _ _ _ _ h, cell_of_row _ _ _ _ _ _ h, cell_of_row _ _ _ _ _ _ h, h, hb⟩

set_option maxHeartbeats 4000000 in
theorem entryOf_any (z : Int) (w : World) :
    Calls Try.prog 22 #[.int .i64 z] w fun e w' => e = .returned (.tuple #[.agg #[.bool (vE z), .bool (rE z), .bool (xE z), .bool (lE z), .int .i64 (pE z)], .bool (okE z)]) ∧ Below w.heap.size w w' := by
  cases hw : wordB z
  · obtain ⟨e1, e2, e3, e4, e5, e6⟩ := okE_not hw
    rw [e1, e2, e3, e4, e5, e6]
    clear e1 e2 e3 e4 e5 e6
    go_enter Try.func22, Try.ntmps22
    go_wp2_with fail
    refine (in_any _ _ _ _).mono ?_
    rintro e w1 ⟨rfl, rfl⟩
    rw [between_word, hw]
    go_wp2
    refine bodyPost_ret (v := .tuple #[.agg #[.bool false, .bool false, .bool false, .bool false, .int .i64 0], .bool false]) (by simp [results, Try.results22, go_sem]) rfl ⟨rfl, ?_⟩
    exact bel_alloc (Below.refl _ _) _
  obtain ⟨h0, h1⟩ : 0 ≤ z ∧ z ≤ 65535 := by simpa [wordB] using hw
  by_cases hb : dg z 0 = 0
  · obtain ⟨e1, e2, e3, e4, e5, e6⟩ := okE_nil hw hb
    rw [e1, e2, e3, e4, e5, e6]
    clear e1 e2 e3 e4 e5 e6
    go_enter Try.func22, Try.ntmps22
    go_wp2_with fail
    refine (in_any _ _ _ _).mono ?_
    rintro e w1 ⟨rfl, rfl⟩
    rw [between_word, hw]
    go_wp2_with fail
    refine (digits_any _ _ h0 h1).mono ?_
    rintro e w2 ⟨rfl, o1, o2, rfl⟩
    rw [hb]
    go_wp2
    refine bodyPost_ret (v := .tuple #[.agg #[.bool false, .bool false, .bool false, .bool false, .int .i64 0], .bool true]) (by simp [results, Try.results22, go_sem]) rfl ⟨rfl, ?_⟩
    repeat (first | exact Below.refl _ _ | refine bel_alloc ?_ _)
  have hb1 : dg z 0 = 1 := by have := dg_in z 0; omega
  have hn0 : (dg z 0 == 0) = false := by simpa using hb
  by_cases hk : 0 < z / 1024 ∨ dg z 1 < dg z 2 ∨ dg z 3 < dg z 1
  · obtain ⟨e1, e2, e3, e4, e5, e6⟩ := okE_bad hw hb1 hk
    rw [e1, e2, e3, e4, e5, e6]
    clear e1 e2 e3 e4 e5 e6 hb1 hb
    go_enter Try.func22, Try.ntmps22
    go_wp2_with fail
    refine (in_any _ _ _ _).mono ?_
    rintro e w1 ⟨rfl, rfl⟩
    rw [between_word, hw]
    go_wp2_with fail
    refine (digits_any _ _ h0 h1).mono ?_
    rintro e w2 ⟨rfl, o1, o2, rfl⟩
    go_wp2_with fail
    refine (number_hi h0 h1 (heap_at (by simp))).mono ?_
    rintro e w2 ⟨rfl, rfl⟩
    by_cases k1 : 0 < z / 1024
    · clear hk
      go_wp2
      refine bodyPost_ret (v := .tuple #[.agg #[.bool false, .bool false, .bool false, .bool false, .int .i64 0], .bool false]) (by simp [results, Try.results22, go_sem]) rfl ⟨rfl, ?_⟩
      repeat (first | exact Below.refl _ _ | refine bel_alloc ?_ _)
    by_cases k2 : dg z 1 < dg z 2
    · clear hk
      go_wp2
      refine bodyPost_ret (v := .tuple #[.agg #[.bool false, .bool false, .bool false, .bool false, .int .i64 0], .bool false]) (by simp [results, Try.results22, go_sem]) rfl ⟨rfl, ?_⟩
      repeat (first | exact Below.refl _ _ | refine bel_alloc ?_ _)
    have k3 : dg z 3 < dg z 1 := by
      rcases hk with h | h | h
      · exact absurd h k1
      · exact absurd h k2
      · exact h
    clear hk
    go_wp2
    refine bodyPost_ret (v := .tuple #[.agg #[.bool false, .bool false, .bool false, .bool false, .int .i64 0], .bool false]) (by simp [results, Try.results22, go_sem]) rfl ⟨rfl, ?_⟩
    repeat (first | exact Below.refl _ _ | refine bel_alloc ?_ _)
  have k1 : ¬ 0 < z / 1024 := fun h => hk (.inl h)
  have k2 : ¬ dg z 1 < dg z 2 := fun h => hk (.inr (.inl h))
  have k3 : ¬ dg z 3 < dg z 1 := fun h => hk (.inr (.inr h))
  obtain ⟨e1, e2, e3, e4, e5, e6⟩ := okE_good hw hb1 k1 k2 k3
  rw [e1, e2, e3, e4, e5, e6]
  clear e1 e2 e3 e4 e5 e6 hb1 hb hk
  go_enter Try.func22, Try.ntmps22
  go_wp2_with fail
  refine (in_any _ _ _ _).mono ?_
  rintro e w1 ⟨rfl, rfl⟩
  rw [between_word, hw]
  go_wp2_with fail
  refine (digits_any _ _ h0 h1).mono ?_
  rintro e w2 ⟨rfl, o1, o2, rfl⟩
  go_wp2_with fail
  refine (number_hi h0 h1 (heap_at (by simp))).mono ?_
  rintro e w2 ⟨rfl, rfl⟩
  go_wp2
  go_region_held3 (fun w' => w'.cell? ⟨w.heap.size + 1 + 1 + 1, 1, none⟩ = some (.int .i64 (dg z 1)) ∧ w'.cell? ⟨w.heap.size + 1 + 1 + 1, 2, none⟩ = some (.int .i64 (dg z 2)) ∧ w'.cell? ⟨w.heap.size + 1 + 1 + 1, 3, none⟩ = some (.int .i64 (dg z 3)) ∧ w'.heap[w.heap.size + 1 + 1 + 1]? = some (.cells #[.int .i64 (dg z 0), .int .i64 (dg z 1), .int .i64 (dg z 2), .int .i64 (dg z 3), .int .i64 (dg z 4), .int .i64 (dg z 5), .int .i64 (dg z 6), .int .i64 (dg z 7), .int .i64 (dg z 8), .int .i64 (dg z 9), .int .i64 (dg z 10), .int .i64 (dg z 11), .int .i64 (dg z 12), .int .i64 (dg z 13), .int .i64 (dg z 14), .int .i64 (dg z 15)] 62 (0, 0)) ∧ Below w.heap.size w w')
    ((refine keepD ?_ ?_; (focus (first | assumption | exact heap_at (by simp) | exact heap_drawn (heap_at (by simp)))); (repeat (first | assumption | exact Below.refl _ _ | refine Below.drew ?_ | refine bel_drewN ?_ _ | refine bel_alloc ?_ _ | refine bel_trans ?_ (by assumption)))))
    (first | (go_at_call 41; refine (number_mid (by first | assumption | exact heap_at (by simp) | exact heap_drawn (heap_at (by simp)))).mono ?_; rintro e w5 ⟨rfl, rfl⟩))
  rename_i hH
  have hB := hH.2.2.2.2
  clear hH
  go_wp2
  refine bodyPost_ret (v := .tuple #[.agg #[.bool true, .bool (dg z 1 == 1), .bool (dg z 2 == 1), .bool (dg z 3 == 1), .int .i64 (z / 16 % 64)], .bool true]) (by simp [results, Try.results22, go_sem]) rfl ⟨rfl, ?_⟩
  repeat (first | assumption | exact Below.refl _ _ | refine Below.drew ?_ | refine bel_drewN ?_ _ | refine bel_alloc ?_ _)
end Go.Proofs.Ytnpgldcambbnhaa
