/-
  Laid together: Digits, EntryOf, ContextOf.
-/
import Derived.Test.YthlhocneggcekaaS1
import Derived.Test.YthlhocneggcekaaRows
import Derived.WalkKit
import Derived.WalkSpells
import Derived.WalkLawsBesides
import Derived.Below
import Derived.WalkSmall
import Derived.Deep.QuietTactic
import Derived.BigQuiet
import Derived.Deep.Draws
import Derived.Deep.RegionHeld3
import Derived.Deep.DrawnRows
namespace Go.Proofs.Ythlhocneggcekaa
open Go.RowKit
def num : List Int → Int
  | [] => 0
  | b :: bs => b + 2 * num bs
theorem num_in (zs : List Int) (h : ∀ i, i < zs.length → 0 ≤ nth zs i ∧ nth zs i ≤ 1) : 0 ≤ num zs ∧ num zs < 2 ^ zs.length := by
  induction zs with
  | nil => simp [num]
  | cons b bs ih =>
    have h0 := h 0 (by simp)
    have hb : nth (b :: bs) 0 = b := rfl
    rw [hb] at h0
    have := ih fun i hi => h (i + 1) (by simp; omega)
    rw [num, List.length_cons, Int.pow_succ]
    omega
theorem num_drop (zs : List Int) (k : Nat) (hk : k < zs.length) : num (zs.drop k) = nth zs k + 2 * num (zs.drop (k + 1)) := by
  rw [List.drop_eq_getElem_cons hk, num]
  simp [nth, hk]
theorem nth_drop (zs : List Int) (k i : Nat) : nth (zs.drop k) i = nth zs (k + i) := by simp [nth]
theorem pow_le16 {n : Nat} (h : n ≤ 16) : (2 : Int) ^ n ≤ 65536 := by
  have : (2 : Int) ^ n ≤ 2 ^ 16 := by exact_mod_cast Nat.pow_le_pow_right (by decide) h
  exact this
set_option maxHeartbeats 1000000 in
theorem number_any (v : Value) (zs : List Int) (w : World) (h : Sl w v zs) (hz : ∀ i, i < zs.length → 0 ≤ nth zs i ∧ nth zs i ≤ 1) (hl : zs.length ≤ 16) :
    Calls Try.prog 40 #[v] w fun e w' => e = .returned (.int .i64 (num zs)) ∧ w' = w := by
  obtain ⟨a, cap, rfl, _, h⟩ := h
  rcases h with rfl | ⟨b, o, rfl, hb, hc⟩
  · go_enter Try.func40, Try.ntmps40
    go_wp2
    go_loop [3, 4] (fun n i => n = .int .i64 0 ∧ i = .int .i64 (-1)) (fun _ i => 0)
    case atStart => exact ⟨rfl, rfl⟩
    case round =>
      obtain ⟨rfl, rfl⟩ := hrel
      go_wp2
      go_ret
      exact ⟨rfl, rfl⟩
  · have HC : Hid (∀ i, i < zs.length → w.cell? ⟨b, o + i, none⟩ = some (.int .i64 (nth zs i))) := hc
    have HZ : Hid (∀ i, i < zs.length → 0 ≤ nth zs i ∧ nth zs i ≤ 1) := hz
    clear hc hz
    go_enter Try.func40, Try.ntmps40
    go_wp2
    go_loop [3, 4] (fun n i => ∃ k : Nat, k ≤ zs.length ∧ i = .int .i64 ((k : Int) - 1) ∧ n = .int .i64 (num (zs.drop k))) (fun _ i => (intOf i + 1).toNat)
    case atStart => exact ⟨zs.length, Nat.le_refl _, rfl, by simp [num]⟩
    case round =>
      obtain ⟨k, hk, rfl, rfl⟩ := hrel
      by_cases h0 : k = 0
      · subst h0
        go_wp2
        go_ret
        exact ⟨rfl, rfl⟩
      · obtain ⟨j, rfl⟩ : ∃ j, k = j + 1 := ⟨k - 1, by omega⟩
        have g := HC.out j (by omega)
        obtain ⟨g0, g1⟩ := HZ.out j (by omega)
        obtain ⟨m0, m1⟩ := num_in (zs.drop (j + 1)) fun i hi => by rw [nth_drop]; exact HZ.out _ (by simp at hi; omega)
        have m2 : num (zs.drop (j + 1)) < 65536 := Int.lt_of_lt_of_le m1 (pow_le16 (by simp; omega))
        have HN : Hid _ := num_drop zs j (by omega)
        have e1 : ((j + 1 : Nat) : Int) - 1 = j := by omega
        rw [e1]
        generalize num (zs.drop (j + 1)) = n at *
        generalize nth zs j = d at *
        clear m1 e1
        go_wp2
        refine ⟨⟨j, by omega, by go_num, ?_⟩, by simp [intOf]⟩
        rw [HN.out, Int.add_comm]
def dg (z : Int) (j : Nat) : Int := z / 2 ^ j % 2
def digits (z : Int) (k : Nat) : List Int := (List.range 16).map (fun j => if j < k then dg z j else 0)
def digArr (z : Int) (k : Nat) : Array Value := ((digits z k).map (fun d => Value.int .i64 d)).toArray
theorem digArr_zero (z : Int) : digArr z 0 = #[.int .i64 0, .int .i64 0, .int .i64 0, .int .i64 0, .int .i64 0, .int .i64 0, .int .i64 0, .int .i64 0, .int .i64 0, .int .i64 0, .int .i64 0, .int .i64 0, .int .i64 0, .int .i64 0, .int .i64 0, .int .i64 0] := by
  simp [digArr, digits, List.range, List.range.loop]
theorem digArr_full (z : Int) : digArr z 16 = #[.int .i64 (dg z 0), .int .i64 (dg z 1), .int .i64 (dg z 2), .int .i64 (dg z 3), .int .i64 (dg z 4), .int .i64 (dg z 5), .int .i64 (dg z 6), .int .i64 (dg z 7), .int .i64 (dg z 8), .int .i64 (dg z 9), .int .i64 (dg z 10), .int .i64 (dg z 11), .int .i64 (dg z 12), .int .i64 (dg z 13), .int .i64 (dg z 14), .int .i64 (dg z 15)] := by
  simp [digArr, digits, List.range, List.range.loop]
theorem digArr_size (z : Int) (k : Nat) : (digArr z k).size = 16 := by simp [digArr, digits]
theorem digArr_at (z : Int) (k : Nat) (hk : k < 16) : (digArr z k)[k]? = some (.int .i64 0) := by
  simp [digArr, digits, hk]
theorem digArr_set (z : Int) (k : Nat) : (digArr z k).setIfInBounds k (.int .i64 (dg z k)) = digArr z (k + 1) := by
  apply Array.ext
  · simp [digArr, digits]
  · intro i h1 h2
    rw [Array.getElem_setIfInBounds]
    · by_cases e : k = i
      · subst e; simp [digArr, digits]
      · rw [if_neg e]
        have : (i < k) = (i < k + 1) := by simp; omega
        simp [digArr, digits, this]
    · simpa [digArr_size] using h2
set_option maxHeartbeats 2000000 in
theorem digits_any (z : Int) (w : World) (h0 : 0 ≤ z) (h1 : z ≤ 65535) :
    Calls Try.prog 39 #[.int .i64 z] w fun e w' => e = .returned (.agg #[.int .i64 (dg z 0), .int .i64 (dg z 1), .int .i64 (dg z 2), .int .i64 (dg z 3), .int .i64 (dg z 4), .int .i64 (dg z 5), .int .i64 (dg z 6), .int .i64 (dg z 7), .int .i64 (dg z 8), .int .i64 (dg z 9), .int .i64 (dg z 10), .int .i64 (dg z 11), .int .i64 (dg z 12), .int .i64 (dg z 13), .int .i64 (dg z 14), .int .i64 (dg z 15)]) ∧ ∃ o1 o2, w' = (w.alloc o1).alloc o2 := by
  go_enter Try.func39, Try.ntmps39
  go_wp2
  go_loopw [0, 5] (fun x i w' => ∃ k : Nat, k ≤ 16 ∧ x = .int .i64 (z / 2 ^ k) ∧ i = .int .i64 k ∧ w' = (w.alloc (.cells #[.int .i64 0, .int .i64 0, .int .i64 0, .int .i64 0, .int .i64 0, .int .i64 0, .int .i64 0, .int .i64 0, .int .i64 0, .int .i64 0, .int .i64 0, .int .i64 0, .int .i64 0, .int .i64 0, .int .i64 0, .int .i64 0] 77)).alloc (.cells (digArr z k) 77)) (fun _ i _ => 16 - (intOf i).toNat)
  case atStart => exact ⟨0, by omega, by simp, rfl, by rw [digArr_zero]⟩
  case round =>
    obtain ⟨k, hk, rfl, rfl, rfl⟩ := hrel
    by_cases hlt : k < 16
    · obtain ⟨y0, y1⟩ := shr_le z k h0 h1
      have hat := digArr_at z k hlt
      have HS : Hid _ := digArr_set z k
      have HD : Hid (z / 2 ^ k / 2 = z / 2 ^ (k + 1)) := by
        show z / 2 ^ k / 2 = z / 2 ^ (k + 1)
        rw [Int.pow_succ, Int.ediv_ediv_of_nonneg (Int.le_of_lt (Int.pow_pos (by decide)))]
      have HG : Hid (dg z k = z / 2 ^ k % 2) := rfl
      have hlt1 : (k : Int) < 16 := by omega
      generalize z / 2 ^ k = y at *
      go_wp2
      refine ⟨⟨k + 1, by omega, ?_, by go_num, ?_⟩, by simp [intOf]; omega⟩
      · rw [HD.out]
      · rw [← HS.out, HG.out]
    · obtain rfl : k = 16 := by omega
      rw [digArr_full]
      go_wp2
      refine bodyPost_ret (v := .agg #[.int .i64 (dg z 0), .int .i64 (dg z 1), .int .i64 (dg z 2), .int .i64 (dg z 3), .int .i64 (dg z 4), .int .i64 (dg z 5), .int .i64 (dg z 6), .int .i64 (dg z 7), .int .i64 (dg z 8), .int .i64 (dg z 9), .int .i64 (dg z 10), .int .i64 (dg z 11), .int .i64 (dg z 12), .int .i64 (dg z 13), .int .i64 (dg z 14), .int .i64 (dg z 15)]) (by simp [results, Try.results39, go_sem]) rfl ⟨rfl, _, _, rfl⟩
attribute [local go_sem ↓] Go.wp_at_zero Go.wp_at_succ
theorem sl_part {w : World} {b o n cap : Nat} {t : TypeId} {fr : Nat × Nat} {cs : Array Value} {zs : List Int} (hb : w.heap[b]? = some (.cells cs t fr)) (hcs : (cs.toList.drop o).take zs.length = zs.map (fun z => Value.int .i64 z)) (hn : n = zs.length) (hm : zs.length ≤ maxLen) :
    Sl w (.slice (some ⟨b, o, none⟩) n cap) zs := by
  subst hn
  refine ⟨_, cap, rfl, hm, .inr ⟨b, o, rfl, ?_, fun i hi => ?_⟩⟩
  · rcases Nat.lt_or_ge b w.heap.size with h | h
    · exact h
    · rw [Array.getElem?_eq_none h] at hb; exact absurd hb (by simp)
  · have h : ((cs.toList.drop o).take zs.length)[i]? = (zs.map (fun z => Value.int .i64 z))[i]? := by rw [hcs]
    rw [List.getElem?_take, if_pos hi, List.getElem?_drop, List.getElem?_map, List.getElem?_eq_getElem hi] at h
    rw [cell_of_row w b (o + i) cs t fr hb, ← Array.getElem?_toList, h]
    simp [nth, hi]
theorem dg_in (z : Int) (j : Nat) : 0 ≤ dg z j ∧ dg z j ≤ 1 := by unfold dg; omega
theorem dg_bit (z : Int) (j : Nat) : (dg z j == 1) = bitB z j := rfl
theorem num_hi (z : Int) (h0 : 0 ≤ z) (h1 : z ≤ 65535) : num [dg z 10, dg z 11, dg z 12, dg z 13, dg z 14, dg z 15] = z / 1024 := by
  simp only [num, dg]; omega
theorem num_mid (z : Int) : num [dg z 4, dg z 5, dg z 6, dg z 7, dg z 8, dg z 9] = z / 16 % 64 := by
  simp only [num, dg]; omega
theorem six_in {a b c d e f : Int} (ha : 0 ≤ a ∧ a ≤ 1) (hb : 0 ≤ b ∧ b ≤ 1) (hc : 0 ≤ c ∧ c ≤ 1) (hd : 0 ≤ d ∧ d ≤ 1) (he : 0 ≤ e ∧ e ≤ 1) (hf : 0 ≤ f ∧ f ≤ 1) :
    ∀ i, i < [a, b, c, d, e, f].length → 0 ≤ nth [a, b, c, d, e, f] i ∧ nth [a, b, c, d, e, f] i ≤ 1 := by
  intro i hi
  obtain rfl | rfl | rfl | rfl | rfl | rfl : i = 0 ∨ i = 1 ∨ i = 2 ∨ i = 3 ∨ i = 4 ∨ i = 5 := by simp at hi; omega
  · exact ha
  · exact hb
  · exact hc
  · exact hd
  · exact he
  · exact hf
theorem number_hi {z : Int} {w : World} {n : Nat} (h0 : 0 ≤ z) (h1 : z ≤ 65535) (hb : w.heap[n]? = some (.cells #[.int .i64 (dg z 0), .int .i64 (dg z 1), .int .i64 (dg z 2), .int .i64 (dg z 3), .int .i64 (dg z 4), .int .i64 (dg z 5), .int .i64 (dg z 6), .int .i64 (dg z 7), .int .i64 (dg z 8), .int .i64 (dg z 9), .int .i64 (dg z 10), .int .i64 (dg z 11), .int .i64 (dg z 12), .int .i64 (dg z 13), .int .i64 (dg z 14), .int .i64 (dg z 15)] 77 (0, 0))) :
    Calls Try.prog 40 #[.slice (some ⟨n, 10, none⟩) 6 6] w fun e w' => e = .returned (.int .i64 (z / 1024)) ∧ w' = w := by
  rw [← num_hi z h0 h1]
  exact number_any _ _ _ (sl_part hb rfl rfl (by simp [maxLen])) (six_in (dg_in _ _) (dg_in _ _) (dg_in _ _) (dg_in _ _) (dg_in _ _) (dg_in _ _)) (by simp)
theorem number_mid {z : Int} {w : World} {n : Nat} (hb : w.heap[n]? = some (.cells #[.int .i64 (dg z 0), .int .i64 (dg z 1), .int .i64 (dg z 2), .int .i64 (dg z 3), .int .i64 (dg z 4), .int .i64 (dg z 5), .int .i64 (dg z 6), .int .i64 (dg z 7), .int .i64 (dg z 8), .int .i64 (dg z 9), .int .i64 (dg z 10), .int .i64 (dg z 11), .int .i64 (dg z 12), .int .i64 (dg z 13), .int .i64 (dg z 14), .int .i64 (dg z 15)] 77 (0, 0))) :
    Calls Try.prog 40 #[.slice (some ⟨n, 4, none⟩) 6 12] w fun e w' => e = .returned (.int .i64 (z / 16 % 64)) ∧ w' = w := by
  rw [← num_mid z]
  exact number_any _ _ _ (sl_part hb rfl rfl (by simp [maxLen])) (six_in (dg_in _ _) (dg_in _ _) (dg_in _ _) (dg_in _ _) (dg_in _ _) (dg_in _ _)) (by simp)
theorem okE_not {z : Int} (h : wordB z = false) : okE z = false ∧ vE z = false ∧ rE z = false ∧ xE z = false ∧ lE z = false ∧ pE z = 0 := by
  have ho : okE z = false := by simp [okE, h]
  have hv : vE z = false := by simp [vE, ho]
  exact ⟨ho, hv, by simp [rE, hv], by simp [xE, hv], by simp [lE, hv], by simp [pE, hv]⟩
theorem okE_nil {z : Int} (hw : wordB z = true) (h : dg z 0 = 0) : okE z = true ∧ vE z = false ∧ rE z = false ∧ xE z = false ∧ lE z = false ∧ pE z = 0 := by
  have hb : bitB z 0 = false := by rw [← dg_bit, h]; rfl
  have ho : okE z = true := by simp [okE, hw, hb]
  have hv : vE z = false := by simp [vE, hb]
  exact ⟨ho, hv, by simp [rE, hv], by simp [xE, hv], by simp [lE, hv], by simp [pE, hv]⟩
theorem okE_bad {z : Int} (hw : wordB z = true) (h : dg z 0 = 1) (k : 0 < z / 1024 ∨ dg z 1 < dg z 2 ∨ dg z 3 < dg z 1) : okE z = false ∧ vE z = false ∧ rE z = false ∧ xE z = false ∧ lE z = false ∧ pE z = 0 := by
  obtain ⟨h0, h1⟩ : 0 ≤ z ∧ z ≤ 65535 := by simpa [wordB] using hw
  have hb : bitB z 0 = true := by rw [← dg_bit, h]; rfl
  have ho : okE z = false := by
    rw [okE, hw, hb, hi_six z h0 h1]
    rcases k with k | k | k
    · rw [show decide (1024 ≤ z) = true by simp; omega]; rfl
    · have a := dg_in z 1
      have b := dg_in z 2
      have c1 : bitB z 1 = false := by rw [← dg_bit, show dg z 1 = 0 by omega]; rfl
      have c2 : bitB z 2 = true := by rw [← dg_bit, show dg z 2 = 1 by omega]; rfl
      rw [c1, c2]; simp [formE]
    · have a := dg_in z 1
      have b := dg_in z 3
      have c1 : bitB z 1 = true := by rw [← dg_bit, show dg z 1 = 1 by omega]; rfl
      have c2 : bitB z 3 = false := by rw [← dg_bit, show dg z 3 = 0 by omega]; rfl
      rw [c1, c2]; simp [formE]
  have hv : vE z = false := by simp [vE, ho]
  exact ⟨ho, hv, by simp [rE, hv], by simp [xE, hv], by simp [lE, hv], by simp [pE, hv]⟩
theorem okE_good {z : Int} (hw : wordB z = true) (h : dg z 0 = 1) (k1 : ¬ 0 < z / 1024) (k2 : ¬ dg z 1 < dg z 2) (k3 : ¬ dg z 3 < dg z 1) : okE z = true ∧ vE z = true ∧ rE z = (dg z 1 == 1) ∧ xE z = (dg z 2 == 1) ∧ lE z = (dg z 3 == 1) ∧ pE z = z / 16 % 64 := by
  obtain ⟨h0, h1⟩ : 0 ≤ z ∧ z ≤ 65535 := by simpa [wordB] using hw
  have hb : bitB z 0 = true := by rw [← dg_bit, h]; rfl
  have ho : okE z = true := by
    rw [okE, hw, hb, hi_six z h0 h1, show decide (1024 ≤ z) = false by simp; omega, ← dg_bit, ← dg_bit, ← dg_bit]
    obtain ⟨a1, a2⟩ := dg_in z 1
    obtain ⟨b1, b2⟩ := dg_in z 2
    obtain ⟨c1, c2⟩ := dg_in z 3
    have x1 : dg z 1 = 0 ∨ dg z 1 = 1 := by omega
    have x2 : dg z 2 = 0 ∨ dg z 2 = 1 := by omega
    have x3 : dg z 3 = 0 ∨ dg z 3 = 1 := by omega
    rcases x1 with x1 | x1 <;> rcases x2 with x2 | x2 <;> rcases x3 with x3 | x3 <;> rw [x1, x2] at k2 <;> rw [x1, x3] at k3 <;> rw [x1, x2, x3] <;> simp [formE] at * 
  have hv : vE z = true := by simp [vE, ho, hb]
  exact ⟨ho, hv, by simp [rE, hv, dg_bit], by simp [xE, hv, dg_bit], by simp [lE, hv, dg_bit], by simp [pE, hv]⟩
theorem keepD {w w' : World} {n : Nat} {z : Int} (h : w'.heap[n]? = some (.cells #[.int .i64 (dg z 0), .int .i64 (dg z 1), .int .i64 (dg z 2), .int .i64 (dg z 3), .int .i64 (dg z 4), .int .i64 (dg z 5), .int .i64 (dg z 6), .int .i64 (dg z 7), .int .i64 (dg z 8), .int .i64 (dg z 9), .int .i64 (dg z 10), .int .i64 (dg z 11), .int .i64 (dg z 12), .int .i64 (dg z 13), .int .i64 (dg z 14), .int .i64 (dg z 15)] 77 (0, 0))) (hb : Below w.heap.size w w') :
    w'.cell? ⟨n, 1, none⟩ = some (.int .i64 (dg z 1)) ∧ w'.cell? ⟨n, 2, none⟩ = some (.int .i64 (dg z 2)) ∧ w'.cell? ⟨n, 3, none⟩ = some (.int .i64 (dg z 3)) ∧ w'.heap[n]? = some (.cells #[.int .i64 (dg z 0), .int .i64 (dg z 1), .int .i64 (dg z 2), .int .i64 (dg z 3), .int .i64 (dg z 4), .int .i64 (dg z 5), .int .i64 (dg z 6), .int .i64 (dg z 7), .int .i64 (dg z 8), .int .i64 (dg z 9), .int .i64 (dg z 10), .int .i64 (dg z 11), .int .i64 (dg z 12), .int .i64 (dg z 13), .int .i64 (dg z 14), .int .i64 (dg z 15)] 77 (0, 0)) ∧ Below w.heap.size w w' :=
  ⟨cell_of_row _ _ _ _ _ _ h, cell_of_row _ _ _ _ _ _ h, cell_of_row _ _ _ _ _ _ h, h, hb⟩
set_option maxHeartbeats 4000000 in
theorem entryOf_any (z : Int) (w : World) :
    Calls Try.prog 41 #[.int .i64 z] w fun e w' => e = .returned (.tuple #[.agg #[.bool (vE z), .bool (rE z), .bool (xE z), .bool (lE z), .int .i64 (pE z)], .bool (okE z)]) ∧ Below w.heap.size w w' := by
  cases hw : wordB z
  · obtain ⟨e1, e2, e3, e4, e5, e6⟩ := okE_not hw
    rw [e1, e2, e3, e4, e5, e6]
    clear e1 e2 e3 e4 e5 e6
    go_enter Try.func41, Try.ntmps41
    go_wp2_with fail
    refine (in_any _ _ _ _).mono ?_
    rintro e w1 ⟨rfl, rfl⟩
    rw [between_word, hw]
    go_wp2
    refine bodyPost_ret (v := .tuple #[.agg #[.bool false, .bool false, .bool false, .bool false, .int .i64 0], .bool false]) (by simp [results, Try.results41, go_sem]) rfl ⟨rfl, ?_⟩
    exact bel_alloc (Below.refl _ _) _
  obtain ⟨h0, h1⟩ : 0 ≤ z ∧ z ≤ 65535 := by simpa [wordB] using hw
  by_cases hb : dg z 0 = 0
  · obtain ⟨e1, e2, e3, e4, e5, e6⟩ := okE_nil hw hb
    rw [e1, e2, e3, e4, e5, e6]
    clear e1 e2 e3 e4 e5 e6
    go_enter Try.func41, Try.ntmps41
    go_wp2_with fail
    refine (in_any _ _ _ _).mono ?_
    rintro e w1 ⟨rfl, rfl⟩
    rw [between_word, hw]
    go_wp2_with fail
    refine (digits_any _ _ h0 h1).mono ?_
    rintro e w2 ⟨rfl, o1, o2, rfl⟩
    rw [hb]
    go_wp2
    refine bodyPost_ret (v := .tuple #[.agg #[.bool false, .bool false, .bool false, .bool false, .int .i64 0], .bool true]) (by simp [results, Try.results41, go_sem]) rfl ⟨rfl, ?_⟩
    repeat (first | exact Below.refl _ _ | refine bel_alloc ?_ _)
  have hb1 : dg z 0 = 1 := by have := dg_in z 0; omega
  have hn0 : (dg z 0 == 0) = false := by simpa using hb
  by_cases hk : 0 < z / 1024 ∨ dg z 1 < dg z 2 ∨ dg z 3 < dg z 1
  · obtain ⟨e1, e2, e3, e4, e5, e6⟩ := okE_bad hw hb1 hk
    rw [e1, e2, e3, e4, e5, e6]
    clear e1 e2 e3 e4 e5 e6 hb1 hb
    go_enter Try.func41, Try.ntmps41
    go_wp2_with fail
    refine (in_any _ _ _ _).mono ?_
    rintro e w1 ⟨rfl, rfl⟩
    rw [between_word, hw]
    go_wp2_with fail
    refine (digits_any _ _ h0 h1).mono ?_
    rintro e w2 ⟨rfl, o1, o2, rfl⟩
    go_wp2_with fail
    refine (number_hi h0 h1 (heap_at (by simp))).mono ?_
    rintro e w2 ⟨rfl, rfl⟩
    by_cases k1 : 0 < z / 1024
    · clear hk
      go_wp2
      refine bodyPost_ret (v := .tuple #[.agg #[.bool false, .bool false, .bool false, .bool false, .int .i64 0], .bool false]) (by simp [results, Try.results41, go_sem]) rfl ⟨rfl, ?_⟩
      repeat (first | exact Below.refl _ _ | refine bel_alloc ?_ _)
    by_cases k2 : dg z 1 < dg z 2
    · clear hk
      go_wp2
      refine bodyPost_ret (v := .tuple #[.agg #[.bool false, .bool false, .bool false, .bool false, .int .i64 0], .bool false]) (by simp [results, Try.results41, go_sem]) rfl ⟨rfl, ?_⟩
      repeat (first | exact Below.refl _ _ | refine bel_alloc ?_ _)
    have k3 : dg z 3 < dg z 1 := by
      rcases hk with h | h | h
      · exact absurd h k1
      · exact absurd h k2
      · exact h
    clear hk
    go_wp2
    refine bodyPost_ret (v := .tuple #[.agg #[.bool false, .bool false, .bool false, .bool false, .int .i64 0], .bool false]) (by simp [results, Try.results41, go_sem]) rfl ⟨rfl, ?_⟩
    repeat (first | exact Below.refl _ _ | refine bel_alloc ?_ _)
  have k1 : ¬ 0 < z / 1024 := fun h => hk (.inl h)
  have k2 : ¬ dg z 1 < dg z 2 := fun h => hk (.inr (.inl h))
  have k3 : ¬ dg z 3 < dg z 1 := fun h => hk (.inr (.inr h))
  obtain ⟨e1, e2, e3, e4, e5, e6⟩ := okE_good hw hb1 k1 k2 k3
  rw [e1, e2, e3, e4, e5, e6]
  clear e1 e2 e3 e4 e5 e6 hb1 hb hk
  go_enter Try.func41, Try.ntmps41
  go_wp2_with fail
  refine (in_any _ _ _ _).mono ?_
  rintro e w1 ⟨rfl, rfl⟩
  rw [between_word, hw]
  go_wp2_with fail
  refine (digits_any _ _ h0 h1).mono ?_
  rintro e w2 ⟨rfl, o1, o2, rfl⟩
  go_wp2_with fail
  refine (number_hi h0 h1 (heap_at (by simp))).mono ?_
  rintro e w2 ⟨rfl, rfl⟩
  go_wp2
  go_region_held3 (fun w' => w'.cell? ⟨w.heap.size + 1 + 1 + 1, 1, none⟩ = some (.int .i64 (dg z 1)) ∧ w'.cell? ⟨w.heap.size + 1 + 1 + 1, 2, none⟩ = some (.int .i64 (dg z 2)) ∧ w'.cell? ⟨w.heap.size + 1 + 1 + 1, 3, none⟩ = some (.int .i64 (dg z 3)) ∧ w'.heap[w.heap.size + 1 + 1 + 1]? = some (.cells #[.int .i64 (dg z 0), .int .i64 (dg z 1), .int .i64 (dg z 2), .int .i64 (dg z 3), .int .i64 (dg z 4), .int .i64 (dg z 5), .int .i64 (dg z 6), .int .i64 (dg z 7), .int .i64 (dg z 8), .int .i64 (dg z 9), .int .i64 (dg z 10), .int .i64 (dg z 11), .int .i64 (dg z 12), .int .i64 (dg z 13), .int .i64 (dg z 14), .int .i64 (dg z 15)] 77 (0, 0)) ∧ Below w.heap.size w w')
    ((refine keepD ?_ ?_; (focus (first | assumption | exact heap_at (by simp) | exact heap_drawn (heap_at (by simp)))); (repeat (first | assumption | exact Below.refl _ _ | refine Below.drew ?_ | refine bel_drewN ?_ _ | refine bel_alloc ?_ _ | refine bel_trans ?_ (by assumption)))))
    (first | (go_at_call 40; refine (number_mid (by first | assumption | exact heap_at (by simp) | exact heap_drawn (heap_at (by simp)))).mono ?_; rintro e w5 ⟨rfl, rfl⟩))
  rename_i hH
  have hB := hH.2.2.2.2
  clear hH
  go_wp2
  refine bodyPost_ret (v := .tuple #[.agg #[.bool true, .bool (dg z 1 == 1), .bool (dg z 2 == 1), .bool (dg z 3 == 1), .int .i64 (z / 16 % 64)], .bool true]) (by simp [results, Try.results41, go_sem]) rfl ⟨rfl, ?_⟩
  repeat (first | assumption | exact Below.refl _ _ | refine Below.drew ?_ | refine bel_drewN ?_ _ | refine bel_alloc ?_ _)
theorem setCell_drewN (w : World) (n : Nat) (p : Addr) (u : Value) : (w.drewN n).setCell p u = (w.setCell p u).drewN n := rfl
attribute [local go_sem] setCell_drewN
theorem okC_not {z : Int} (h : wordB z = false) : okC z = false ∧ vC z = false ∧ aC z = false ∧ pC z = 0 := by
  have ho : okC z = false := by simp [okC, h]
  have hv : vC z = false := by simp [vC, ho]
  exact ⟨ho, hv, by simp [aC, hv], by simp [pC, hv]⟩
theorem okC_nil {z : Int} (hw : wordB z = true) (h : dg z 0 = 0) : okC z = true ∧ vC z = false ∧ aC z = false ∧ pC z = 0 := by
  have hb : bitB z 0 = false := by rw [← dg_bit, h]; rfl
  have ho : okC z = true := by simp [okC, hw, hb]
  have hv : vC z = false := by simp [vC, hb]
  exact ⟨ho, hv, by simp [aC, hv], by simp [pC, hv]⟩
theorem okC_bad {z : Int} (hw : wordB z = true) (h : dg z 0 = 1) (k : 0 < dg z 2 + dg z 3 + z / 1024 ∨ (dg z 1 = 1 ∧ 0 < z / 16 % 64)) : okC z = false ∧ vC z = false ∧ aC z = false ∧ pC z = 0 := by
  obtain ⟨h0, h1⟩ : 0 ≤ z ∧ z ≤ 65535 := by simpa [wordB] using hw
  have hb : bitB z 0 = true := by rw [← dg_bit, h]; rfl
  have ho : okC z = false := by
    rw [okC, hw, hb, hi_eight z h0 h1]
    rcases k with k | ⟨k, k'⟩
    · have a := dg_in z 2
      have b := dg_in z 3
      by_cases hz : 1024 ≤ z
      · rw [show decide (1024 ≤ z) = true by simpa using hz]; simp
      · by_cases h2 : dg z 2 = 1
        · rw [← dg_bit z 2, h2]; simp
        · rw [← dg_bit z 3, show dg z 3 = 1 by omega]; simp
    · rw [← dg_bit z 1, k]
      have : ¬ z / 16 % 64 = 0 := by omega
      simp [formC, this]
  have hv : vC z = false := by simp [vC, ho]
  exact ⟨ho, hv, by simp [aC, hv], by simp [pC, hv]⟩
theorem okC_good {z : Int} (hw : wordB z = true) (h : dg z 0 = 1) (k1 : ¬ 0 < dg z 2 + dg z 3 + z / 1024) (k2 : ¬ (dg z 1 = 1 ∧ 0 < z / 16 % 64)) : okC z = true ∧ vC z = true ∧ aC z = (dg z 1 == 1) ∧ pC z = z / 16 % 64 := by
  obtain ⟨h0, h1⟩ : 0 ≤ z ∧ z ≤ 65535 := by simpa [wordB] using hw
  have hb : bitB z 0 = true := by rw [← dg_bit, h]; rfl
  have a := dg_in z 2
  have b := dg_in z 3
  have ho : okC z = true := by
    rw [okC, hw, hb, hi_eight z h0 h1, show decide (1024 ≤ z) = false by simp; omega, ← dg_bit z 2, ← dg_bit z 3, ← dg_bit z 1, show dg z 2 = 0 by omega, show dg z 3 = 0 by omega]
    by_cases h3 : dg z 1 = 1
    · have h4 : z / 16 % 64 = 0 := by omega
      rw [h3, h4]; rfl
    · have h4 : (dg z 1 == 1) = false := by simpa using h3
      rw [h4]; rfl
  have hv : vC z = true := by simp [vC, ho, hb]
  exact ⟨ho, hv, by simp [aC, hv, dg_bit], by simp [pC, hv]⟩
theorem sum_wrap {a b c : Int} (a0 : 0 ≤ a) (a1 : a ≤ 1) (b0 : 0 ≤ b) (b1 : b ≤ 1) (c0 : 0 ≤ c) (c1 : c ≤ 63) : IntKind.i64.wrap (IntKind.i64.wrap (a + b) + c) = a + b + c := by
  rw [wraps_i64 (a + b) (by omega) (by omega), wraps_i64 _ (by omega) (by omega)]
set_option maxHeartbeats 4000000 in
theorem contextOf_any (z : Int) (w : World) :
    Calls Try.prog 30 #[.int .i64 z] w fun e w' => e = .returned (.tuple #[.agg #[.bool (vC z), .bool (aC z), .int .i64 (pC z)], .bool (okC z)]) ∧ Below w.heap.size w w' := by
  cases hw : wordB z
  · obtain ⟨e1, e2, e3, e4⟩ := okC_not hw
    rw [e1, e2, e3, e4]
    clear e1 e2 e3 e4
    go_enter Try.func30, Try.ntmps30
    go_wp2_with fail
    refine (in_any _ _ _ _).mono ?_
    rintro e w1 ⟨rfl, rfl⟩
    rw [between_word, hw]
    go_wp2
    refine bodyPost_ret (v := .tuple #[.agg #[.bool false, .bool false, .int .i64 0], .bool false]) (by simp [results, Try.results30, go_sem]) rfl ⟨rfl, ?_⟩
    exact bel_alloc (Below.refl _ _) _
  obtain ⟨h0, h1⟩ : 0 ≤ z ∧ z ≤ 65535 := by simpa [wordB] using hw
  by_cases hb : dg z 0 = 0
  · obtain ⟨e1, e2, e3, e4⟩ := okC_nil hw hb
    rw [e1, e2, e3, e4]
    clear e1 e2 e3 e4
    go_enter Try.func30, Try.ntmps30
    go_wp2_with fail
    refine (in_any _ _ _ _).mono ?_
    rintro e w1 ⟨rfl, rfl⟩
    rw [between_word, hw]
    go_wp2_with fail
    refine (digits_any _ _ h0 h1).mono ?_
    rintro e w2 ⟨rfl, o1, o2, rfl⟩
    rw [hb]
    go_wp2
    refine bodyPost_ret (v := .tuple #[.agg #[.bool false, .bool false, .int .i64 0], .bool true]) (by simp [results, Try.results30, go_sem]) rfl ⟨rfl, ?_⟩
    repeat (first | exact Below.refl _ _ | refine bel_alloc ?_ _)
  have hb1 : dg z 0 = 1 := by have := dg_in z 0; omega
  have hn0 : (dg z 0 == 0) = false := by simpa using hb
  obtain ⟨a2, a2'⟩ := dg_in z 2
  obtain ⟨a3, a3'⟩ := dg_in z 3
  have ht : z / 1024 ≤ 63 := by omega
  have ht' : 0 ≤ z / 1024 := by omega
  by_cases hk : 0 < dg z 2 + dg z 3 + z / 1024 ∨ (dg z 1 = 1 ∧ 0 < z / 16 % 64)
  · obtain ⟨e1, e2, e3, e4⟩ := okC_bad hw hb1 hk
    rw [e1, e2, e3, e4]
    clear e1 e2 e3 e4 hb1 hb
    go_enter Try.func30, Try.ntmps30
    go_wp2_with fail
    refine (in_any _ _ _ _).mono ?_
    rintro e w1 ⟨rfl, rfl⟩
    rw [between_word, hw]
    go_wp2_with fail
    refine (digits_any _ _ h0 h1).mono ?_
    rintro e w2 ⟨rfl, o1, o2, rfl⟩
    go_wp2_with fail
    refine (number_mid (heap_at (by simp))).mono ?_
    rintro e w2 ⟨rfl, rfl⟩
    by_cases k1 : 0 < dg z 2 + dg z 3 + z / 1024
    · have d1 : decide (0 < IntKind.i64.wrap (IntKind.i64.wrap (dg z 2 + dg z 3) + z / 1024)) = true := by rw [sum_wrap a2 a2' a3 a3' ht' ht]; simpa using k1
      clear hk
      go_wp2
      go_quiet (first | (go_at_call 40; refine Calls.quiet_of_same (number_hi h0 h1 (by first | assumption | exact heap_at (by simp) | exact heap_drawn (heap_at (by simp))))))
      go_wp2
      refine bodyPost_ret (v := .tuple #[.agg #[.bool false, .bool false, .int .i64 0], .bool false]) (by simp [results, Try.results30, go_sem]) rfl ⟨rfl, ?_⟩
      repeat (first | assumption | exact Below.refl _ _ | refine Below.drew ?_ | refine bel_drewN ?_ _ | refine bel_alloc ?_ _)
    · obtain ⟨k2, k3⟩ : dg z 1 = 1 ∧ 0 < z / 16 % 64 := by
        rcases hk with h | h
        · exact absurd h k1
        · exact h
      have d1 : decide (0 < IntKind.i64.wrap (IntKind.i64.wrap (dg z 2 + dg z 3) + z / 1024)) = false := by rw [sum_wrap a2 a2' a3 a3' ht' ht]; simpa using k1
      have d2 : (dg z 1 == 1) = true := by simpa using k2
      have d3 : decide (0 < z / 16 % 64) = true := by simpa using k3
      clear hk k2
      go_wp2
      go_quiet (first | (go_at_call 40; refine Calls.quiet_of_same (number_hi h0 h1 (by first | assumption | exact heap_at (by simp) | exact heap_drawn (heap_at (by simp))))))
      go_wp2
      refine bodyPost_ret (v := .tuple #[.agg #[.bool false, .bool false, .int .i64 0], .bool false]) (by simp [results, Try.results30, go_sem]) rfl ⟨rfl, ?_⟩
      repeat (first | assumption | exact Below.refl _ _ | refine Below.drew ?_ | refine bel_drewN ?_ _ | refine bel_alloc ?_ _)
  · have k1 : ¬ 0 < dg z 2 + dg z 3 + z / 1024 := fun h => hk (.inl h)
    have k2 : ¬ (dg z 1 = 1 ∧ 0 < z / 16 % 64) := fun h => hk (.inr h)
    obtain ⟨e1, e2, e3, e4⟩ := okC_good hw hb1 k1 k2
    rw [e1, e2, e3, e4]
    clear e1 e2 e3 e4 hb1 hb hk
    have d1 : decide (0 < IntKind.i64.wrap (IntKind.i64.wrap (dg z 2 + dg z 3) + z / 1024)) = false := by rw [sum_wrap a2 a2' a3 a3' ht' ht]; simpa using k1
    clear k1
    go_enter Try.func30, Try.ntmps30
    go_wp2_with fail
    refine (in_any _ _ _ _).mono ?_
    rintro e w1 ⟨rfl, rfl⟩
    rw [between_word, hw]
    go_wp2_with fail
    refine (digits_any _ _ h0 h1).mono ?_
    rintro e w2 ⟨rfl, o1, o2, rfl⟩
    go_wp2_with fail
    refine (number_mid (heap_at (by simp))).mono ?_
    rintro e w2 ⟨rfl, rfl⟩
    by_cases h3 : dg z 1 = 1
    · have h4 : ¬ 0 < z / 16 % 64 := fun h => k2 ⟨h3, h⟩
      have d2 : (dg z 1 == 1) = true := by simpa using h3
      have d3 : decide (0 < z / 16 % 64) = false := by simpa using h4
      clear h3 h4 k2
      go_wp2
      go_quiet (first | (go_at_call 40; refine Calls.quiet_of_same (number_hi h0 h1 (by first | assumption | exact heap_at (by simp) | exact heap_drawn (heap_at (by simp))))))
      go_wp2
      refine bodyPost_ret (v := .tuple #[.agg #[.bool true, .bool (dg z 1 == 1), .int .i64 (z / 16 % 64)], .bool true]) (by simp [results, Try.results30, go_sem, d2]) rfl ⟨by rw [d2], ?_⟩
      repeat (first | assumption | exact Below.refl _ _ | refine Below.drew ?_ | refine bel_drewN ?_ _ | refine bel_alloc ?_ _)
    · have d2 : (dg z 1 == 1) = false := by simpa using h3
      clear h3 k2
      go_wp2
      go_quiet (first | (go_at_call 40; refine Calls.quiet_of_same (number_hi h0 h1 (by first | assumption | exact heap_at (by simp) | exact heap_drawn (heap_at (by simp))))))
      go_wp2
      refine bodyPost_ret (v := .tuple #[.agg #[.bool true, .bool (dg z 1 == 1), .int .i64 (z / 16 % 64)], .bool true]) (by simp [results, Try.results30, go_sem, d2]) rfl ⟨by rw [d2], ?_⟩
      repeat (first | assumption | exact Below.refl _ _ | refine Below.drew ?_ | refine bel_drewN ?_ _ | refine bel_alloc ?_ _)
end Go.Proofs.Ythlhocneggcekaa
