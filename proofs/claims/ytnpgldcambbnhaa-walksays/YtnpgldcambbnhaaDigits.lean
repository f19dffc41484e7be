/-
  drawbridgeref's digits and number: what they answer; nothing that was there turns.
-/
import Derived.Test.YtnpgldcambbnhaaParted
namespace Go.Proofs.Ytnpgldcambbnhaa
open Go.RowKit

/-- The number of some bits, the lowest one first. -/
def num : List Int → Int
  | [] => 0
  | b :: bs => b + 2 * num bs

theorem num_in (zs : List Int) (h : ∀ i, i < zs.length → 0 ≤ nth zs i ∧ nth zs i ≤ 1) : 0 ≤ num zs ∧ num zs < 2 ^ zs.length := by
  induction zs with
  | nil => simp [num]
  | cons b bs ih =>
    have h0 := h 0 (by simp)
    have hb : nth (b :: bs) 0 = b := rfl
    rw [hb] at h0
    have := ih fun i hi => h (i + 1) (by simp; omega)
    rw [num, List.length_cons, Int.pow_succ]
    omega
theorem num_drop (zs : List Int) (k : Nat) (hk : k < zs.length) : num (zs.drop k) = nth zs k + 2 * num (zs.drop (k + 1)) := by
  rw [List.drop_eq_getElem_cons hk, num]
  simp [nth, hk]
theorem nth_drop (zs : List Int) (k i : Nat) : nth (zs.drop k) i = nth zs (k + i) := by simp [nth]

theorem pow_le16 {n : Nat} (h : n ≤ 16) : (2 : Int) ^ n ≤ 65536 := by
  have : (2 : Int) ^ n ≤ 2 ^ 16 := by exact_mod_cast Nat.pow_le_pow_right (by decide) h
  exact this

set_option maxHeartbeats 1000000 in
theorem number_any (v : Value) (zs : List Int) (w : World) (h : Sl w v zs) (hz : ∀ i, i < zs.length → 0 ≤ nth zs i ∧ nth zs i ≤ 1) (hl : zs.length ≤ 16) :
    Calls Try.prog 41 #[v] w fun e w' => e = .returned (.int .i64 (num zs)) ∧ w' = w := by
  obtain ⟨a, cap, rfl, _, h⟩ := h
  rcases h with rfl | ⟨b, o, rfl, hb, hc⟩
  · go_enter Try.func41, Try.ntmps41
    go_wp2
    go_loop [3, 4] (fun n i => n = .int .i64 0 ∧ i = .int .i64 (-1)) (fun _ i => 0)
    case atStart => exact ⟨rfl, rfl⟩
    case round =>
      obtain ⟨rfl, rfl⟩ := hrel
      go_wp2
      go_ret
      exact ⟨rfl, rfl⟩
  · have HC : Hid (∀ i, i < zs.length → w.cell? ⟨b, o + i, none⟩ = some (.int .i64 (nth zs i))) := hc
    have HZ : Hid (∀ i, i < zs.length → 0 ≤ nth zs i ∧ nth zs i ≤ 1) := hz
    clear hc hz
    go_enter Try.func41, Try.ntmps41
    go_wp2
    go_loop [3, 4] (fun n i => ∃ k : Nat, k ≤ zs.length ∧ i = .int .i64 ((k : Int) - 1) ∧ n = .int .i64 (num (zs.drop k))) (fun _ i => (intOf i + 1).toNat)
    case atStart => exact ⟨zs.length, Nat.le_refl _, rfl, by simp [num]⟩
    case round =>
      obtain ⟨k, hk, rfl, rfl⟩ := hrel
      by_cases h0 : k = 0
      · subst h0
        go_wp2
        go_ret
        exact ⟨rfl, rfl⟩
      · obtain ⟨j, rfl⟩ : ∃ j, k = j + 1 := ⟨k - 1, by omega⟩
        have g := HC.out j (by omega)
        obtain ⟨g0, g1⟩ := HZ.out j (by omega)
        obtain ⟨m0, m1⟩ := num_in (zs.drop (j + 1)) fun i hi => by rw [nth_drop]; exact HZ.out _ (by simp at hi; omega)
        have m2 : num (zs.drop (j + 1)) < 65536 := Int.lt_of_lt_of_le m1 (pow_le16 (by simp; omega))
        have HN : Hid _ := num_drop zs j (by omega)
        have e1 : ((j + 1 : Nat) : Int) - 1 = j := by omega
        rw [e1]
        generalize num (zs.drop (j + 1)) = n at *
        generalize nth zs j = d at *
        clear m1 e1
        go_wp2
        refine ⟨⟨j, by omega, by go_num, ?_⟩, by simp [intOf]⟩
        rw [HN.out, Int.add_comm]

/-- A bit of a word, as a number: a plain name, so that the walk's own rules leave it standing. -/
def dg (z : Int) (j : Nat) : Int := z / 2 ^ j % 2

/-- The bits of a word as they lie in digits' array behind k rounds. -/
def digits (z : Int) (k : Nat) : List Int := (List.range 16).map (fun j => if j < k then dg z j else 0)
def digArr (z : Int) (k : Nat) : Array Value := ((digits z k).map (fun d => Value.int .i64 d)).toArray
theorem digArr_zero (z : Int) : digArr z 0 = #[.int .i64 0, .int .i64 0, .int .i64 0, .int .i64 0, .int .i64 0, .int .i64 0, .int .i64 0, .int .i64 0, .int .i64 0, .int .i64 0, .int .i64 0, .int .i64 0, .int .i64 0, .int .i64 0, .int .i64 0, .int .i64 0] := by
  simp [digArr, digits, List.range, List.range.loop]
theorem digArr_full (z : Int) : digArr z 16 = #[.int .i64 (dg z 0), .int .i64 (dg z 1), .int .i64 (dg z 2), .int .i64 (dg z 3), .int .i64 (dg z 4), .int .i64 (dg z 5), .int .i64 (dg z 6), .int .i64 (dg z 7), .int .i64 (dg z 8), .int .i64 (dg z 9), .int .i64 (dg z 10), .int .i64 (dg z 11), .int .i64 (dg z 12), .int .i64 (dg z 13), .int .i64 (dg z 14), .int .i64 (dg z 15)] := by
  simp [digArr, digits, List.range, List.range.loop]
theorem digArr_size (z : Int) (k : Nat) : (digArr z k).size = 16 := by simp [digArr, digits]
theorem digArr_at (z : Int) (k : Nat) (hk : k < 16) : (digArr z k)[k]? = some (.int .i64 0) := by
  simp [digArr, digits, hk]
theorem digArr_set (z : Int) (k : Nat) : (digArr z k).setIfInBounds k (.int .i64 (dg z k)) = digArr z (k + 1) := by
  apply Array.ext
  · simp [digArr, digits]
  · intro i h1 h2
    rw [Array.getElem_setIfInBounds]
    · by_cases e : k = i
      · subst e; simp [digArr, digits]
      · rw [if_neg e]
        have : (i < k) = (i < k + 1) := by simp; omega
        simp [digArr, digits, this]
    · simpa [digArr_size] using h2

set_option maxHeartbeats 2000000 in
theorem digits_any (z : Int) (w : World) (h0 : 0 ≤ z) (h1 : z ≤ 65535) :
    Calls Try.prog 40 #[.int .i64 z] w fun e w' => e = .returned (.agg #[.int .i64 (dg z 0), .int .i64 (dg z 1), .int .i64 (dg z 2), .int .i64 (dg z 3), .int .i64 (dg z 4), .int .i64 (dg z 5), .int .i64 (dg z 6), .int .i64 (dg z 7), .int .i64 (dg z 8), .int .i64 (dg z 9), .int .i64 (dg z 10), .int .i64 (dg z 11), .int .i64 (dg z 12), .int .i64 (dg z 13), .int .i64 (dg z 14), .int .i64 (dg z 15)]) ∧ ∃ o1 o2, w' = (w.alloc o1).alloc o2 := by
  go_enter Try.func40, Try.ntmps40
  go_wp2
  go_loopw [0, 5] (fun x i w' => ∃ k : Nat, k ≤ 16 ∧ x = .int .i64 (z / 2 ^ k) ∧ i = .int .i64 k ∧ w' = (w.alloc (.cells #[.int .i64 0, .int .i64 0, .int .i64 0, .int .i64 0, .int .i64 0, .int .i64 0, .int .i64 0, .int .i64 0, .int .i64 0, .int .i64 0, .int .i64 0, .int .i64 0, .int .i64 0, .int .i64 0, .int .i64 0, .int .i64 0] 62)).alloc (.cells (digArr z k) 62)) (fun _ i _ => 16 - (intOf i).toNat)
  case atStart => exact ⟨0, by omega, by simp, rfl, by rw [digArr_zero]⟩
  case round =>
    obtain ⟨k, hk, rfl, rfl, rfl⟩ := hrel
    by_cases hlt : k < 16
    · obtain ⟨y0, y1⟩ := shr_le z k h0 h1
      have hat := digArr_at z k hlt
      have HS : Hid _ := digArr_set z k
      have HD : Hid (z / 2 ^ k / 2 = z / 2 ^ (k + 1)) := by
        show z / 2 ^ k / 2 = z / 2 ^ (k + 1)
        rw [Int.pow_succ, Int.ediv_ediv_of_nonneg (Int.le_of_lt (Int.pow_pos (by decide)))]
      have HG : Hid (dg z k = z / 2 ^ k % 2) := rfl
      have hlt1 : (k : Int) < 16 := by omega
      generalize z / 2 ^ k = y at *
      go_wp2
      refine ⟨⟨k + 1, by omega, ?_, by go_num, ?_⟩, by simp [intOf]; omega⟩
      · rw [HD.out]
      · rw [← HS.out, HG.out]
    · obtain rfl : k = 16 := by omega
      rw [digArr_full]
      go_wp2
      refine bodyPost_ret (v := .agg #[.int .i64 (dg z 0), .int .i64 (dg z 1), .int .i64 (dg z 2), .int .i64 (dg z 3), .int .i64 (dg z 4), .int .i64 (dg z 5), .int .i64 (dg z 6), .int .i64 (dg z 7), .int .i64 (dg z 8), .int .i64 (dg z 9), .int .i64 (dg z 10), .int .i64 (dg z 11), .int .i64 (dg z 12), .int .i64 (dg z 13), .int .i64 (dg z 14), .int .i64 (dg z 15)]) (by simp [results, Try.results40, go_sem]) rfl ⟨rfl, _, _, rfl⟩
end Go.Proofs.Ytnpgldcambbnhaa
