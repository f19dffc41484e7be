/-
  Package entry: what wordOf, Read, ReadContext, Put, PutContext answer; none turns memory that was there.
-/
import Derived.Test.YtemnklppplgcoabEntry
namespace Go.Proofs.Ytemnklppplgcoab
open Go.RowKit

def bth (fs : List Bool) (i : Nat) : Bool := fs.getD i false
/-- The word with this page and the first k of these flags. -/
def accB (p : Int) (fs : List Bool) : Nat → Int
  | 0 => 16 * p
  | k + 1 => accB p fs k + (if bth fs k then 2 ^ k else 0)

theorem or_bit : ∀ k, k < 4 → ∀ a, a < 1024 → a / 2 ^ k % 2 = 0 → a ||| 2 ^ k = a + 2 ^ k := by decide +kernel
theorem accB_in (p : Int) (fs : List Bool) (k : Nat) (hk : k ≤ 4) : ∃ m : Int, accB p fs k = 16 * p + m ∧ 0 ≤ m ∧ m < 2 ^ k := by
  induction k with
  | zero => exact ⟨0, by simp [accB], by omega, by omega⟩
  | succ k ih =>
    obtain ⟨m, e, m0, m1⟩ := ih (by omega)
    cases hb : bth fs k
    · exact ⟨m, by simp [accB, hb, e], m0, by rw [Int.pow_succ]; omega⟩
    · exact ⟨m + 2 ^ k, by simp [accB, hb, e]; omega, by omega, by rw [Int.pow_succ]; omega⟩
theorem or_acc (p : Int) (fs : List Bool) (h0 : 0 ≤ p) (h1 : p < 64) (k : Nat) (hk : k < 4) : bits .or .i64 (accB p fs k) (2 ^ k) = accB p fs k + 2 ^ k := by
  obtain ⟨m, e, m0, m1⟩ := accB_in p fs k (by omega)
  rw [e]
  have h2 : (2 : Int) ^ k ≤ 8 := by
    obtain rfl | rfl | rfl | rfl : k = 0 ∨ k = 1 ∨ k = 2 ∨ k = 3 := by omega
    all_goals decide
  obtain ⟨P, rfl⟩ := Int.eq_ofNat_of_zero_le h0
  obtain ⟨M, rfl⟩ := Int.eq_ofNat_of_zero_le m0
  have e1 : (16 * (P : Int) + M) = ((16 * P + M : Nat) : Int) := by simp
  have e2 : (2 : Int) ^ k = ((2 ^ k : Nat) : Int) := by simp
  have hM : M < 2 ^ k := by exact_mod_cast m1
  have h2' : 2 ^ k ≤ 8 := by exact_mod_cast h2
  rw [e1, e2, (bits_nat .i64 63 (by decide) wraps_i64 _ _ (by omega) (by omega)).2, or_bit k hk (16 * P + M) (by omega) ?_]
  · simp
  · obtain rfl | rfl | rfl | rfl : k = 0 ∨ k = 1 ∨ k = 2 ∨ k = 3 := by omega
    all_goals omega

theorem wrap_pow (k : Nat) (hk : k < 4) : wrap64 (2 ^ k) = 2 ^ k := by
  obtain rfl | rfl | rfl | rfl : k = 0 ∨ k = 1 ∨ k = 2 ∨ k = 3 := by omega
  all_goals (unfold wrap64; decide)

/-- What a word says as an entry: may it be one; its fields. -/
def okE (z : Int) : Bool := wordB z && (!bitB z 0 || (!anyB z [10, 11, 12, 13, 14, 15] && formE true (bitB z 1) (bitB z 2) (bitB z 3) (z / 16 % 64)))
def vE (z : Int) : Bool := okE z && bitB z 0
def rE (z : Int) : Bool := vE z && bitB z 1
def xE (z : Int) : Bool := vE z && bitB z 2
def lE (z : Int) : Bool := vE z && bitB z 3
def pE (z : Int) : Int := if vE z then z / 16 % 64 else 0
/-- What a word says as a context. -/
def okC (z : Int) : Bool := wordB z && (!bitB z 0 || (!anyB z [2, 3, 10, 11, 12, 13, 14, 15] && formC true (bitB z 1) (z / 16 % 64)))
def vC (z : Int) : Bool := okC z && bitB z 0
def aC (z : Int) : Bool := vC z && bitB z 1
def pC (z : Int) : Int := if vC z then z / 16 % 64 else 0

theorem any_one (z : Int) (k : Nat) : anyB z [(k : Int)] = bitB z k := by simp [anyB]

set_option maxHeartbeats 2000000 in
theorem eRead_any (z : Int) (w : World) :
    Calls Try.prog 106 #[.int .i64 z] w fun e w' => e = .returned (.tuple #[.agg #[.bool (vE z), .bool (rE z), .bool (xE z), .bool (lE z), .int .i64 (pE z)], .bool (okE z)]) ∧ Below w.heap.size w w' := by
  cases hw : wordB z
  · have ho : okE z = false := by simp [okE, hw]
    have hv : vE z = false := by simp [vE, ho]
    rw [ho, hv, show rE z = false by simp [rE, hv], show xE z = false by simp [xE, hv], show lE z = false by simp [lE, hv], show pE z = 0 by simp [pE, hv]]
    go_enter Try.func106, Try.ntmps106
    go_wp2_with fail
    refine (eIsWord_any _ _).mono ?_
    rintro e w1 ⟨rfl, rfl⟩
    rw [hw]
    go_wp2
    refine bodyPost_ret (v := .tuple #[.agg #[.bool false, .bool false, .bool false, .bool false, .int .i64 0], .bool false]) (by simp [results, Try.results106, go_sem]) rfl ⟨rfl, ?_⟩
    exact bel_alloc (Below.refl _ _) _
  · obtain ⟨h0, h1⟩ : 0 ≤ z ∧ z ≤ 65535 := by simpa [wordB] using hw
    cases hb : bitB z 0
    · have ho : okE z = true := by simp [okE, hw, hb]
      have hv : vE z = false := by simp [vE, hb]
      rw [ho, hv, show rE z = false by simp [rE, hv], show xE z = false by simp [xE, hv], show lE z = false by simp [lE, hv], show pE z = 0 by simp [pE, hv]]
      go_enter Try.func106, Try.ntmps106
      go_wp2_with fail
      refine (eIsWord_any _ _).mono ?_
      rintro e w1 ⟨rfl, rfl⟩
      rw [hw]
      go_wp2_with fail
      refine (has_any _ _ [0] _ h0 h1 (sl_block (by repeat (first | (refine heap_at ?_; simp; done) | (refine heap_past ?_ ?_; · (simp; try omega)))) rfl rfl (by simp [maxLen])) (by decide)).mono ?_
      rintro e w1 ⟨rfl, rfl⟩
      rw [show anyB z [0] = false from (any_one z 0).trans hb]
      go_wp2
      refine bodyPost_ret (v := .tuple #[.agg #[.bool false, .bool false, .bool false, .bool false, .int .i64 0], .bool true]) (by simp [results, Try.results106, go_sem]) rfl ⟨rfl, ?_⟩
      exact bel_alloc (bel_alloc (Below.refl _ _) _) _
    · have goal : ∀ hi fo : Bool, anyB z [10, 11, 12, 13, 14, 15] = hi → formE true (bitB z 1) (bitB z 2) (bitB z 3) (z / 16 % 64) = fo →
          Calls Try.prog 106 #[.int .i64 z] w fun e w' => e = .returned (.tuple #[.agg #[.bool (!hi && fo), .bool ((!hi && fo) && bitB z 1), .bool ((!hi && fo) && bitB z 2), .bool ((!hi && fo) && bitB z 3), .int .i64 (if !hi && fo then z / 16 % 64 else 0)], .bool (!hi && fo)]) ∧ Below w.heap.size w w' := by
        intro hi fo hhi hfo
        go_enter Try.func106, Try.ntmps106
        go_wp2_with fail
        refine (eIsWord_any _ _).mono ?_
        rintro e w1 ⟨rfl, rfl⟩
        rw [hw]
        go_wp2_with fail
        refine (has_any _ _ [0] _ h0 h1 (sl_block (by repeat (first | (refine heap_at ?_; simp; done) | (refine heap_past ?_ ?_; · (simp; try omega)))) rfl rfl (by simp [maxLen])) (by decide)).mono ?_
        rintro e w1 ⟨rfl, rfl⟩
        rw [show anyB z [0] = true from (any_one z 0).trans hb]
        go_wp2_with fail
        refine (has_any _ _ [1] _ h0 h1 (sl_block (by repeat (first | (refine heap_at ?_; simp; done) | (refine heap_past ?_ ?_; · (simp; try omega)))) rfl rfl (by simp [maxLen])) (by decide)).mono ?_
        rintro e w1 ⟨rfl, rfl⟩
        rw [show anyB z [1] = bitB z 1 from any_one z 1]
        go_wp2_with fail
        refine (has_any _ _ [2] _ h0 h1 (sl_block (by repeat (first | (refine heap_at ?_; simp; done) | (refine heap_past ?_ ?_; · (simp; try omega)))) rfl rfl (by simp [maxLen])) (by decide)).mono ?_
        rintro e w1 ⟨rfl, rfl⟩
        rw [show anyB z [2] = bitB z 2 from any_one z 2]
        go_wp2_with fail
        refine (has_any _ _ [3] _ h0 h1 (sl_block (by repeat (first | (refine heap_at ?_; simp; done) | (refine heap_past ?_ ?_; · (simp; try omega)))) rfl rfl (by simp [maxLen])) (by decide)).mono ?_
        rintro e w1 ⟨rfl, rfl⟩
        rw [show anyB z [3] = bitB z 3 from any_one z 3]
        go_wp2_with fail
        refine (pageOf_any _ _ h0 h1).mono ?_
        rintro e w1 ⟨rfl, rfl⟩
        go_wp2_with fail
        refine (has_any _ _ [10, 11, 12, 13, 14, 15] _ h0 h1 (sl_block (by repeat (first | (refine heap_at ?_; simp; done) | (refine heap_past ?_ ?_; · (simp; try omega)))) rfl rfl (by simp [maxLen])) (by decide)).mono ?_
        rintro e w1 ⟨rfl, rfl⟩
        rw [hhi]
        cases hi
        · go_wp2_with fail
          refine (isEntry_any _ _ _ _ _ _).mono ?_
          rintro e w1 ⟨rfl, o1, rfl⟩
          rw [hfo]
          cases fo
          · go_wp2
            refine bodyPost_ret (v := .tuple #[.agg #[.bool false, .bool false, .bool false, .bool false, .int .i64 0], .bool false]) (by simp [results, Try.results106, go_sem]) rfl ⟨rfl, ?_⟩
            repeat (first | exact Below.refl _ _ | refine bel_alloc ?_ _)
          · go_wp2
            refine bodyPost_ret (v := .tuple #[.agg #[.bool true, .bool (bitB z 1), .bool (bitB z 2), .bool (bitB z 3), .int .i64 (z / 16 % 64)], .bool true]) (by simp [results, Try.results106, go_sem]) rfl ⟨rfl, ?_⟩
            repeat (first | exact Below.refl _ _ | refine bel_alloc ?_ _)
        · go_wp2
          refine bodyPost_ret (v := .tuple #[.agg #[.bool false, .bool false, .bool false, .bool false, .int .i64 0], .bool false]) (by simp [results, Try.results106, go_sem]) rfl ⟨rfl, ?_⟩
          repeat (first | exact Below.refl _ _ | refine bel_alloc ?_ _)
      have ho : okE z = (!anyB z [10, 11, 12, 13, 14, 15] && formE true (bitB z 1) (bitB z 2) (bitB z 3) (z / 16 % 64)) := by simp [okE, hw, hb]
      have hv : vE z = okE z := by simp [vE, hb]
      have := goal _ _ rfl rfl
      rw [← ho] at this
      rw [rE, xE, lE, pE, hv]
      exact this
end Go.Proofs.Ytemnklppplgcoab
