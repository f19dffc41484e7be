/-
  Package mem: what Check, Read, New, Same answer, and what drawbridgeref's CheckMem and in answer; none turns memory that was there.
-/
import Derived.Test.YtemnklppplgcoabEqual
import Derived.Test.YtemnklppplgcoabIn
namespace Go.Proofs.Ytemnklppplgcoab
open Go.RowKit

/-- Is it a word? -/
def wordB (z : Int) : Bool := decide (0 ≤ z ∧ z ≤ 65535)
/-- Is it a place? -/
def placeB (z : Int) : Bool := decide (0 ≤ z ∧ z < 512)
/-- What Check says of these words. -/
def chk (zs : List Int) : Int := if zs.length = 512 then (if zs.all wordB then 0 else 2) else 3

theorem chk_len {zs : List Int} (h : ¬ zs.length = 512) : chk zs = 3 := by simp [chk, h]
theorem chk_all {zs : List Int} (h : zs.length = 512) (k : ∀ j, j < 512 → wordB (nth zs j) = true) : chk zs = 0 := by
  have : zs.all wordB = true := by
    rw [List.all_eq_true]
    intro x hx
    obtain ⟨i, hi, rfl⟩ := List.getElem_of_mem hx
    have := k i (by omega)
    simpa [nth, hi] using this
  simp [chk, h, this]
theorem chk_not {zs : List Int} {j : Nat} (h : zs.length = 512) (hj : j < 512) (k : wordB (nth zs j) = false) : chk zs = 2 := by
  have : zs.all wordB = false := by
    rw [List.all_eq_false]
    exact ⟨zs[j], List.getElem_mem _, by simpa [nth, h, hj] using k⟩
  simp [chk, h, this]
theorem chk_ok {zs : List Int} (h : chk zs = 0) : zs.length = 512 ∧ ∀ j, j < 512 → wordB (nth zs j) = true := by
  unfold chk at h
  by_cases hl : zs.length = 512
  · refine ⟨hl, fun j hj => ?_⟩
    by_cases ha : zs.all wordB = true
    · rw [List.all_eq_true] at ha
      have := ha zs[j] (List.getElem_mem _)
      simpa [nth, hl, hj] using this
    · simp [hl, ha] at h
  · simp [hl] at h
theorem chk_cases (zs : List Int) : chk zs = 0 ∨ chk zs = 2 ∨ chk zs = 3 := by
  unfold chk; by_cases hl : zs.length = 512 <;> by_cases ha : zs.all wordB = true <;> simp [hl, ha]

theorem isWord_any (z : Int) (w : World) : Calls Try.prog 67 #[.int .i64 z] w fun e w' => e = .returned (.bool (wordB z)) ∧ w' = w := by
  by_cases h1 : 0 ≤ z
  · by_cases h2 : z ≤ 65535
    · have : wordB z = true := by simp [wordB, h1, h2]
      rw [this]
      go_enter Try.func67, Try.ntmps67
      go_wp2
      go_ret
      exact ⟨rfl, rfl⟩
    · have : wordB z = false := by simp [wordB, h2]
      rw [this]
      go_enter Try.func67, Try.ntmps67
      go_wp2
      go_ret
      exact ⟨rfl, rfl⟩
  · have : wordB z = false := by simp [wordB, h1]
    rw [this]
    go_enter Try.func67, Try.ntmps67
    go_wp2
    go_ret
    exact ⟨rfl, rfl⟩
theorem isPlace_any (z : Int) (w : World) : Calls Try.prog 103 #[.int .i64 z] w fun e w' => e = .returned (.bool (placeB z)) ∧ w' = w := by
  by_cases h1 : 0 ≤ z
  · by_cases h2 : z < 512
    · have : placeB z = true := by simp [placeB, h1, h2]
      rw [this]
      go_enter Try.func103, Try.ntmps103
      go_wp2
      go_ret
      exact ⟨rfl, rfl⟩
    · have : placeB z = false := by simp [placeB, h2]
      rw [this]
      go_enter Try.func103, Try.ntmps103
      go_wp2
      go_ret
      exact ⟨rfl, rfl⟩
  · have : placeB z = false := by simp [placeB, h1]
    rw [this]
    go_enter Try.func103, Try.ntmps103
    go_wp2
    go_ret
    exact ⟨rfl, rfl⟩
set_option maxHeartbeats 1000000 in
theorem check_any (v : Value) (zs : List Int) (w : World) (h : Sl w v zs) :
    Calls Try.prog 35 #[.agg #[v]] w fun e w' => e = .returned (.int .i64 (chk zs)) ∧ Below w.heap.size w w' := by
  obtain ⟨a, cap, rfl, hl, h⟩ := h
  unfold maxLen at hl
  by_cases hn : zs.length = 512
  · rcases h with rfl | ⟨b, o, rfl, hb, hc⟩
    · simp at hn
    have HC : Hid (∀ i, i < 512 → w.cell? ⟨b, o + i, none⟩ = some (.int .i64 (nth zs i))) := fun i hi => hc i (by omega)
    have HN : Hid (zs.length = 512) := hn
    rw [hn]
    clear hc hl hn
    go_enter Try.func35, Try.ntmps35
    go_wp2
    go_loop [12] (fun i => ∃ k : Nat, k ≤ 512 ∧ i = .int .i64 k ∧ ∀ j, j < k → wordB (nth zs j) = true) (fun i => 512 - (intOf i).toNat)
    case atStart => exact ⟨0, Nat.zero_le _, rfl, fun j hj => absurd hj (Nat.not_lt_zero _)⟩
    case round =>
      obtain ⟨k, hk, rfl, hpre⟩ := hrel
      have HP : Hid (∀ j, j < k → wordB (nth zs j) = true) := hpre
      clear hpre
      by_cases hlt : k < 512
      · have g := HC.out k hlt
        have hlt1 : (k : Int) < 512 := by omega
        by_cases hq : wordB (nth zs k) = true
        · go_wp2_with (go_at_call 67; refine (isWord_any _ _).mono ?_; rintro e w' ⟨rfl, rfl⟩)
          refine ⟨⟨k + 1, by omega, by go_num, fun j hj => ?_⟩, by simp [intOf]; omega⟩
          by_cases e : j = k
          · rw [e]; exact hq
          · exact HP.out j (by omega)
        · have hq' : wordB (nth zs k) = false := by simpa using hq
          have HD : Hid (chk zs = 2) := chk_not HN.out hlt hq'
          clear hq
          go_wp2_with (go_at_call 67; refine (isWord_any _ _).mono ?_; rintro e w' ⟨rfl, rfl⟩)
          go_ret
          exact ⟨ret_int HD.out.symm, bel_alloc (Below.refl _ _) _⟩
      · have HD : Hid (chk zs = 0) := chk_all HN.out fun j hj => HP.out j (by omega)
        have hge : ¬ (k : Int) < 512 := by omega
        go_wp2
        go_ret
        exact ⟨ret_int HD.out.symm, bel_alloc (Below.refl _ _) _⟩
  · have hne : ((zs.length : Int) != 512) = true := by simp; omega
    rw [chk_len hn]
    go_enter Try.func35, Try.ntmps35
    go_wp2
    go_ret
    exact ⟨rfl, bel_alloc (Below.refl _ _) _⟩

theorem between_word (z : Int) : betweenB 0 65535 z = wordB z := rfl

set_option maxHeartbeats 1000000 in
theorem checkMem_any (v : Value) (zs : List Int) (w : World) (h : Sl w v zs) :
    Calls Try.prog 22 #[.agg #[v]] w fun e w' => e = .returned (.int .i64 (chk zs)) ∧ Below w.heap.size w w' := by
  obtain ⟨a, cap, rfl, hl, h⟩ := h
  unfold maxLen at hl
  by_cases hn : zs.length = 512
  · rcases h with rfl | ⟨b, o, rfl, hb, hc⟩
    · simp at hn
    have HC : Hid (∀ i, i < 512 → w.cell? ⟨b, o + i, none⟩ = some (.int .i64 (nth zs i))) := fun i hi => hc i (by omega)
    have HN : Hid (zs.length = 512) := hn
    rw [hn]
    clear hc hl hn
    go_enter Try.func22, Try.ntmps22
    go_wp2
    go_loop [12] (fun i => ∃ k : Nat, k ≤ 512 ∧ i = .int .i64 k ∧ ∀ j, j < k → wordB (nth zs j) = true) (fun i => 512 - (intOf i).toNat)
    case atStart => exact ⟨0, Nat.zero_le _, rfl, fun j hj => absurd hj (Nat.not_lt_zero _)⟩
    case round =>
      obtain ⟨k, hk, rfl, hpre⟩ := hrel
      have HP : Hid (∀ j, j < k → wordB (nth zs j) = true) := hpre
      clear hpre
      by_cases hlt : k < 512
      · have g := HC.out k hlt
        have hlt1 : (k : Int) < 512 := by omega
        by_cases hq : wordB (nth zs k) = true
        · go_wp2_with (go_at_call 47; refine (in_any _ _ _ _).mono ?_; rintro e w' ⟨rfl, rfl⟩; rw [between_word])
          refine ⟨⟨k + 1, by omega, by go_num, fun j hj => ?_⟩, by simp [intOf]; omega⟩
          by_cases e : j = k
          · rw [e]; exact hq
          · exact HP.out j (by omega)
        · have hq' : wordB (nth zs k) = false := by simpa using hq
          have HD : Hid (chk zs = 2) := chk_not HN.out hlt hq'
          clear hq
          go_wp2_with (go_at_call 47; refine (in_any _ _ _ _).mono ?_; rintro e w' ⟨rfl, rfl⟩; rw [between_word])
          go_ret
          exact ⟨ret_int HD.out.symm, bel_alloc (Below.refl _ _) _⟩
      · have HD : Hid (chk zs = 0) := chk_all HN.out fun j hj => HP.out j (by omega)
        have hge : ¬ (k : Int) < 512 := by omega
        go_wp2
        go_ret
        exact ⟨ret_int HD.out.symm, bel_alloc (Below.refl _ _) _⟩
  · have hne : ((zs.length : Int) != 512) = true := by simp; omega
    rw [chk_len hn]
    go_enter Try.func22, Try.ntmps22
    go_wp2
    go_ret
    exact ⟨rfl, bel_alloc (Below.refl _ _) _⟩
end Go.Proofs.Ytemnklppplgcoab
