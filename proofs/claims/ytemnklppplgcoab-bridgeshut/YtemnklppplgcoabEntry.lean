/-
  Package entry: what its small functions answer; none turns memory that was there.
-/
import Derived.Test.YtemnklppplgcoabMem
namespace Go.Proofs.Ytemnklppplgcoab
open Go.RowKit

/-- Is it a page? -/
def pageB (z : Int) : Bool := decide (0 ≤ z ∧ z < 64)

theorem eIsWord_any (z : Int) (w : World) : Calls Try.prog 94 #[.int .i64 z] w fun e w' => e = .returned (.bool (wordB z)) ∧ w' = w := by
  by_cases h1 : 0 ≤ z
  · by_cases h2 : z ≤ 65535
    · have : wordB z = true := by simp [wordB, h1, h2]
      rw [this]
      go_enter Try.func94, Try.ntmps94
      go_wp2
      go_ret
      exact ⟨rfl, rfl⟩
    · have : wordB z = false := by simp [wordB, h2]
      rw [this]
      go_enter Try.func94, Try.ntmps94
      go_wp2
      go_ret
      exact ⟨rfl, rfl⟩
  · have : wordB z = false := by simp [wordB, h1]
    rw [this]
    go_enter Try.func94, Try.ntmps94
    go_wp2
    go_ret
    exact ⟨rfl, rfl⟩

theorem pageOf_any (z : Int) (w : World) (h0 : 0 ≤ z) (h1 : z ≤ 65535) : Calls Try.prog 96 #[.int .i64 z] w fun e w' => e = .returned (.int .i64 (z / 16 % 64)) ∧ w' = w := by
  go_enter Try.func96, Try.ntmps96
  go_wp2
  go_ret
  exact ⟨rfl, rfl⟩

/-- Is this bit of a word set? -/
def bitB (z : Int) (k : Nat) : Bool := decide (z / 2 ^ k % 2 = 1)
/-- Is one of these bits set? -/
def anyB (z : Int) (zs : List Int) : Bool := zs.any (fun k => bitB z k.toNat)

theorem wraps_i64 (n : Int) (h0 : 0 ≤ n) (h1 : n < 2 ^ 63) : IntKind.i64.wrap n = n := by rw [IntKind.wrap_i64]; omega
theorem and_one_i64 (x : Int) (h0 : 0 ≤ x) (h1 : x ≤ 65535) : bits .and .i64 x 1 = x % 2 :=
  bits_mask .i64 63 (by decide) wraps_i64 1 (by decide) x h0 (by omega)
theorem shr_le (z : Int) (s : Nat) (h0 : 0 ≤ z) (h1 : z ≤ 65535) : 0 ≤ z / 2 ^ s ∧ z / 2 ^ s ≤ 65535 := by
  have hp : (0 : Int) < 2 ^ s := Int.pow_pos (by decide)
  exact ⟨Int.ediv_nonneg h0 (Int.le_of_lt hp), Int.le_trans (Int.ediv_le_self _ h0) h1⟩
theorem bit_eq (z : Int) (s : Nat) (h0 : 0 ≤ z) (h1 : z ≤ 65535) : (bits .and .i64 (z / 2 ^ s) 1 == 1) = bitB z s := by
  rw [and_one_i64 _ (shr_le z s h0 h1).1 (shr_le z s h0 h1).2, bitB]
  rfl
theorem anyB_at {z : Int} {zs : List Int} {i : Nat} (hi : i < zs.length) (h : bitB z (nth zs i).toNat = true) : anyB z zs = true := by
  rw [anyB, List.any_eq_true]
  refine ⟨zs[i], List.getElem_mem _, ?_⟩
  simpa [nth, hi] using h
theorem anyB_none {z : Int} {zs : List Int} (h : ∀ i, i < zs.length → bitB z (nth zs i).toNat = false) : anyB z zs = false := by
  rw [anyB, List.any_eq_false]
  intro x hx
  obtain ⟨i, hi, rfl⟩ := List.getElem_of_mem hx
  have := h i hi
  simp only [nth, List.getD_eq_getElem?_getD, List.getElem?_eq_getElem hi, Option.getD_some] at this
  simp [this]

set_option maxHeartbeats 1000000 in
theorem has_any (z : Int) (v : Value) (zs : List Int) (w : World) (h0 : 0 ≤ z) (h1 : z ≤ 65535) (h : Sl w v zs) (hz : ∀ i, i < zs.length → 0 ≤ nth zs i ∧ nth zs i < 16) :
    Calls Try.prog 95 #[.int .i64 z, v] w fun e w' => e = .returned (.bool (anyB z zs)) ∧ w' = w := by
  obtain ⟨a, cap, rfl, hl, h⟩ := h
  unfold maxLen at hl
  rcases h with rfl | ⟨b, o, rfl, hb, hc⟩
  · go_enter Try.func95, Try.ntmps95
    go_wp2
    go_loop [9] (fun i => i = .int .i64 0) (fun i => 0)
    case atStart => rfl
    case round =>
      subst hrel
      go_wp2
      go_ret
      exact ⟨rfl, rfl⟩
  · have HC : Hid (∀ i, i < zs.length → w.cell? ⟨b, o + i, none⟩ = some (.int .i64 (nth zs i))) := hc
    have HZ : Hid (∀ i, i < zs.length → 0 ≤ nth zs i ∧ nth zs i < 16) := hz
    clear hc hz
    go_enter Try.func95, Try.ntmps95
    go_wp2
    go_loop [9] (fun i => ∃ k : Nat, k ≤ zs.length ∧ i = .int .i64 k ∧ ∀ j, j < k → bitB z (nth zs j).toNat = false) (fun i => zs.length - (intOf i).toNat)
    case atStart => exact ⟨0, Nat.zero_le _, rfl, fun j hj => absurd hj (Nat.not_lt_zero _)⟩
    case round =>
      obtain ⟨k, hk, rfl, hpre⟩ := hrel
      have HP : Hid (∀ j, j < k → bitB z (nth zs j).toNat = false) := hpre
      clear hpre
      by_cases hlt : k < zs.length
      · have g := HC.out k hlt
        obtain ⟨g0, g1⟩ := HZ.out k hlt
        have hlt1 : (k : Int) < zs.length := by omega
        have hq := bit_eq z (nth zs k).toNat h0 h1
        cases hb : bitB z (nth zs k).toNat
        · have HB : Hid (bitB z (nth zs k).toNat = false) := hb
          rw [hb] at hq
          clear hb
          go_wp2
          refine ⟨⟨k + 1, by omega, by go_num, fun j hj => ?_⟩, by simp [intOf]; omega⟩
          by_cases e : j = k
          · rw [e]; exact HB.out
          · exact HP.out j (by omega)
        · have HD : Hid (anyB z zs = true) := anyB_at hlt hb
          rw [hb] at hq
          clear hb
          go_wp2
          go_ret
          exact ⟨ret_bool HD.out.symm, rfl⟩
      · have HD : Hid (anyB z zs = false) := anyB_none fun j hj => HP.out j (by omega)
        have hge : ¬ (k : Int) < zs.length := by omega
        go_wp2
        go_ret
        exact ⟨ret_bool HD.out.symm, rfl⟩

/-- What is asked of an entry's form, and of a context's. -/
def formE (v r x l : Bool) (p : Int) : Bool := if v then (r || !x) && (l || !r) else !r && !x && !l && decide (p = 0)
def formC (v a : Bool) (p : Int) : Bool := if v then !a || decide (p = 0) else !a && decide (p = 0)

set_option maxHeartbeats 1000000 in
theorem isEntry_any (v r x l : Bool) (p : Int) (w : World) :
    Calls Try.prog 107 #[.agg #[.bool v, .bool r, .bool x, .bool l, .int .i64 p]] w fun e w' => e = .returned (.bool (formE v r x l p)) ∧ ∃ o, w' = w.alloc o := by
  cases v
  · by_cases hp : p = 0
    · subst hp
      cases r <;> cases x <;> cases l
      all_goals
        go_enter Try.func107, Try.ntmps107
        go_wp2
        go_ret
        exact ⟨rfl, _, rfl⟩
    · have hq : (p == 0) = false := by simpa using hp
      have HF : Hid (formE false r x l p = false) := by simp [formE, hp, Hid]
      cases r <;> cases x <;> cases l
      all_goals
        go_enter Try.func107, Try.ntmps107
        go_wp2
        go_ret
        exact ⟨ret_bool HF.out.symm, _, rfl⟩
  · cases r <;> cases x <;> cases l
    all_goals
      go_enter Try.func107, Try.ntmps107
      go_wp2
      go_ret
      exact ⟨rfl, _, rfl⟩

set_option maxHeartbeats 1000000 in
theorem isContext_any (v a : Bool) (p : Int) (w : World) :
    Calls Try.prog 97 #[.agg #[.bool v, .bool a, .int .i64 p]] w fun e w' => e = .returned (.bool (formC v a p)) ∧ ∃ o, w' = w.alloc o := by
  by_cases hp : p = 0
  · subst hp
    cases v <;> cases a
    all_goals
      go_enter Try.func97, Try.ntmps97
      go_wp2
      go_ret
      exact ⟨rfl, _, rfl⟩
  · have hq : (p == 0) = false := by simpa using hp
    have HF : Hid (formC v a p = (v && !a)) := by cases v <;> cases a <;> simp [formC, hp, Hid]
    cases v <;> cases a
    all_goals
      go_enter Try.func97, Try.ntmps97
      go_wp2
      go_ret
      exact ⟨ret_bool HF.out.symm, _, rfl⟩
end Go.Proofs.Ytemnklppplgcoab
