/-
  Laid together: Word2, Word3, Word4, Worded.
-/
import Derived.Test.YtefcdcneenjbgabT8
/-
  What PutOrder, PutFault answer, and drawbridgeref's OrderWord, FaultWord: the same; none turns memory that was there.
-/
namespace Go.Proofs.Ytefcdcneenjbgab
open Go.RowKit

theorem forO_ok {k d p : Int} (hk : 0 ≤ k ∧ k ≤ 3) (hd : 0 ≤ d ∧ d ≤ 7) (hp : 0 ≤ p ∧ p ≤ 63) (h : forO k d p = true) : oE k d p = 0 := by
  refine oE_mk hk hd hp ?_ ?_
  · intro ⟨a, b⟩
    have n3 : ¬ k = 3 := by omega
    have n2 : ¬ k = 2 := by omega
    have nd : ¬ d = 0 := by omega
    simp [forO, n3, n2, nd] at h
  · intro ⟨a, b⟩
    have n3 : ¬ k = 3 := by omega
    have np : ¬ p = 0 := by omega
    by_cases n2 : k = 2 <;> simp [forO, n3, n2, np] at h
theorem forO_bad {k d p : Int} (hk : 0 ≤ k ∧ k ≤ 3) (hd : 0 ≤ d ∧ d ≤ 7) (hp : 0 ≤ p ∧ p ≤ 63) (h : forO k d p = false) : oE k d p = 3 := by
  unfold oE
  rw [if_pos ⟨hk, hd, hp⟩, if_pos]
  by_cases n3 : k = 3
  · simp [forO, n3] at h
  by_cases n2 : k = 2
  · by_cases np : p = 0
    · simp [forO, n2, np] at h
    · exact .inr (by omega)
  by_cases nd : d = 0
  · by_cases np : p = 0
    · simp [forO, n2, n3, nd, np] at h
    · exact .inr (by omega)
  · exact .inl (by omega)
theorem oE_out {k d p : Int} (h : ¬ ((0 ≤ k ∧ k ≤ 3) ∧ (0 ≤ d ∧ d ≤ 7) ∧ (0 ≤ p ∧ p ≤ 63))) : oE k d p = 2 := if_neg h
theorem oW_bad {k d p e : Int} (h : oE k d p = e) (hn : ¬ e = 0) : oW k d p = 0 := if_neg (fun x => hn (h.symm.trans x))
theorem fE_out {c d p : Int} (h : ¬ ((1 ≤ c ∧ c ≤ 5) ∧ (0 ≤ d ∧ d ≤ 7) ∧ (0 ≤ p ∧ p ≤ 63))) : fE c d p = 2 := if_neg h
theorem fW_bad {c d p : Int} {x : Bool} (h : fE c d p = 2) : fW c d p x = 0 := if_neg (by rw [h]; decide)

set_option maxHeartbeats 1000000 in
theorem putOrder_any (k d p : Int) (w : World) :
    Calls Try.prog 15 #[.agg #[.int .i64 k, .int .i64 d, .int .i64 p]] w fun e w' => e = .returned (.tuple #[.int .i64 (oW k d p), .int .i64 (oE k d p)]) ∧ Below w.heap.size w w' := by
  by_cases k0 : k < 0
  · have he : oE k d p = 2 := oE_out (by omega)
    rw [oW_bad he (by decide), he]
    clear he
    go_enter Try.func15, Try.ntmps15
    go_wp2
    go_ret2
    exact ⟨rfl, bel_alloc (Below.refl _ _) _⟩
  by_cases k1 : 3 < k
  · have he : oE k d p = 2 := oE_out (by omega)
    rw [oW_bad he (by decide), he]
    clear he
    go_enter Try.func15, Try.ntmps15
    go_wp2
    go_ret2
    exact ⟨rfl, bel_alloc (Below.refl _ _) _⟩
  cases hd : betweenB 0 7 d
  · have hd' : ¬ (0 ≤ d ∧ d ≤ 7) := of_decide_eq_false hd
    have he : oE k d p = 2 := oE_out (by omega)
    rw [oW_bad he (by decide), he]
    clear he hd'
    go_enter Try.func15, Try.ntmps15
    go_wp2_with fail
    refine (oIsDev_any _ _).mono ?_
    rintro e w1 ⟨rfl, rfl⟩
    rw [hd]
    go_wp2
    go_ret2
    exact ⟨rfl, bel_alloc (Below.refl _ _) _⟩
  have hd' := of_between hd
  cases hp : betweenB 0 63 p
  · have hp' : ¬ (0 ≤ p ∧ p ≤ 63) := of_decide_eq_false hp
    have he : oE k d p = 2 := oE_out (by omega)
    rw [oW_bad he (by decide), he]
    clear he hd' hp'
    go_enter Try.func15, Try.ntmps15
    go_wp2_with fail
    refine (oIsDev_any _ _).mono ?_
    rintro e w1 ⟨rfl, rfl⟩
    rw [hd]
    go_wp2_with fail
    refine (oIsPage_any _ _).mono ?_
    rintro e w1 ⟨rfl, rfl⟩
    rw [hp]
    go_wp2
    go_ret2
    exact ⟨rfl, bel_alloc (Below.refl _ _) _⟩
  have hp' := of_between hp
  cases hf : forO k d p
  · have he : oE k d p = 3 := forO_bad (by omega) hd' hp' hf
    rw [oW_bad he (by decide), he]
    clear he hd' hp'
    go_enter Try.func15, Try.ntmps15
    go_wp2_with fail
    refine (oIsDev_any _ _).mono ?_
    rintro e w1 ⟨rfl, rfl⟩
    rw [hd]
    go_wp2_with fail
    refine (oIsPage_any _ _).mono ?_
    rintro e w1 ⟨rfl, rfl⟩
    rw [hp]
    go_wp2_with fail
    refine (isOrder_any _ _ _ _).mono ?_
    rintro e w1 ⟨rfl, o1, rfl⟩
    rw [hf]
    go_wp2
    go_ret2
    exact ⟨rfl, bel_alloc (bel_alloc (Below.refl _ _) _) _⟩
  · have he : oE k d p = 0 := forO_ok (by omega) hd' hp' hf
    rw [oW_ok he, he]
    clear he
    obtain ⟨d0, d1⟩ := hd'
    obtain ⟨p0, p1⟩ := hp'
    go_enter Try.func15, Try.ntmps15
    go_wp2_with fail
    refine (oIsDev_any _ _).mono ?_
    rintro e w1 ⟨rfl, rfl⟩
    rw [hd]
    go_wp2_with fail
    refine (oIsPage_any _ _).mono ?_
    rintro e w1 ⟨rfl, rfl⟩
    rw [hp]
    go_wp2_with fail
    refine (isOrder_any _ _ _ _).mono ?_
    rintro e w1 ⟨rfl, o1, rfl⟩
    rw [hf]
    go_wp2
    go_ret2
    exact ⟨rfl, bel_alloc (bel_alloc (Below.refl _ _) _) _⟩

set_option maxHeartbeats 1000000 in
theorem putFault_any (c d p : Int) (x : Bool) (w : World) :
    Calls Try.prog 17 #[.agg #[.int .i64 c, .int .i64 d, .int .i64 p, .bool x]] w fun e w' => e = .returned (.tuple #[.int .i64 (fW c d p x), .int .i64 (fE c d p)]) ∧ Below w.heap.size w w' := by
  by_cases k0 : c < 1
  · have he : fE c d p = 2 := fE_out (by omega)
    rw [fW_bad he, he]
    clear he
    go_enter Try.func17, Try.ntmps17
    go_wp2
    go_ret2
    exact ⟨rfl, bel_alloc (Below.refl _ _) _⟩
  by_cases k1 : 5 < c
  · have he : fE c d p = 2 := fE_out (by omega)
    rw [fW_bad he, he]
    clear he
    go_enter Try.func17, Try.ntmps17
    go_wp2
    go_ret2
    exact ⟨rfl, bel_alloc (Below.refl _ _) _⟩
  cases hd : betweenB 0 7 d
  · have hd' : ¬ (0 ≤ d ∧ d ≤ 7) := of_decide_eq_false hd
    have he : fE c d p = 2 := fE_out (by omega)
    rw [fW_bad he, he]
    clear he hd'
    go_enter Try.func17, Try.ntmps17
    go_wp2_with fail
    refine (oIsDev_any _ _).mono ?_
    rintro e w1 ⟨rfl, rfl⟩
    rw [hd]
    go_wp2
    go_ret2
    exact ⟨rfl, bel_alloc (Below.refl _ _) _⟩
  have hd' := of_between hd
  cases hp : betweenB 0 63 p
  · have hp' : ¬ (0 ≤ p ∧ p ≤ 63) := of_decide_eq_false hp
    have he : fE c d p = 2 := fE_out (by omega)
    rw [fW_bad he, he]
    clear he hd' hp'
    go_enter Try.func17, Try.ntmps17
    go_wp2_with fail
    refine (oIsDev_any _ _).mono ?_
    rintro e w1 ⟨rfl, rfl⟩
    rw [hd]
    go_wp2_with fail
    refine (oIsPage_any _ _).mono ?_
    rintro e w1 ⟨rfl, rfl⟩
    rw [hp]
    go_wp2
    go_ret2
    exact ⟨rfl, bel_alloc (Below.refl _ _) _⟩
  have hp' := of_between hp
  have he : fE c d p = 0 := fE_mk (by omega) hd' hp'
  rw [fW_ok he, he]
  clear he
  obtain ⟨d0, d1⟩ := hd'
  obtain ⟨p0, p1⟩ := hp'
  cases x
  · rw [show fX false = 0 from rfl, Int.add_zero]
    go_enter Try.func17, Try.ntmps17
    go_wp2_with fail
    refine (oIsDev_any _ _).mono ?_
    rintro e w1 ⟨rfl, rfl⟩
    rw [hd]
    go_wp2_with fail
    refine (oIsPage_any _ _).mono ?_
    rintro e w1 ⟨rfl, rfl⟩
    rw [hp]
    go_wp2
    go_ret2
    exact ⟨rfl, bel_alloc (Below.refl _ _) _⟩
  · rw [show fX true = 4096 from rfl]
    go_enter Try.func17, Try.ntmps17
    go_wp2_with fail
    refine (oIsDev_any _ _).mono ?_
    rintro e w1 ⟨rfl, rfl⟩
    rw [hd]
    go_wp2_with fail
    refine (oIsPage_any _ _).mono ?_
    rintro e w1 ⟨rfl, rfl⟩
    rw [hp]
    go_wp2
    go_ret2
    exact ⟨rfl, bel_alloc (Below.refl _ _) _⟩

/-- The reference's. -/
theorem oE_form {k d p : Int} (hk : 0 ≤ k ∧ k ≤ 3) (hd : 0 ≤ d ∧ d ≤ 7) (hp : 0 ≤ p ∧ p ≤ 63) (h : (0 < d ∧ k < 2) ∨ (0 < p ∧ k < 3)) : oE k d p = 3 := by
  unfold oE; rw [if_pos ⟨hk, hd, hp⟩, if_pos h]

set_option maxHeartbeats 1000000 in
theorem orderWord_any (k d p : Int) (w : World) :
    Calls Try.prog 19 #[.agg #[.int .i64 k, .int .i64 d, .int .i64 p]] w fun e w' => e = .returned (.tuple #[.int .i64 (oW k d p), .int .i64 (oE k d p)]) ∧ Below w.heap.size w w' := by
  cases hk : betweenB 0 3 k
  · have hk' : ¬ (0 ≤ k ∧ k ≤ 3) := of_decide_eq_false hk
    have he : oE k d p = 2 := oE_out (fun h => hk' h.1)
    rw [oW_bad he (by decide), he]
    clear he hk'
    go_enter Try.func19, Try.ntmps19
    go_wp2_with fail
    refine (in_any _ _ _ _).mono ?_
    rintro e w1 ⟨rfl, rfl⟩
    rw [hk]
    go_wp2
    go_ret2
    exact ⟨rfl, bel_alloc (Below.refl _ _) _⟩
  have hk' := of_between hk
  cases hd : betweenB 0 7 d
  · have hd' : ¬ (0 ≤ d ∧ d ≤ 7) := of_decide_eq_false hd
    have he : oE k d p = 2 := oE_out (fun h => hd' h.2.1)
    rw [oW_bad he (by decide), he]
    clear he hd' hk'
    go_enter Try.func19, Try.ntmps19
    go_wp2_with fail
    refine (in_any _ _ _ _).mono ?_
    rintro e w1 ⟨rfl, rfl⟩
    rw [hk]
    go_wp2_with fail
    refine (in_any _ _ _ _).mono ?_
    rintro e w1 ⟨rfl, rfl⟩
    rw [hd]
    go_wp2
    go_ret2
    exact ⟨rfl, bel_alloc (Below.refl _ _) _⟩
  have hd' := of_between hd
  cases hp : betweenB 0 63 p
  · have hp' : ¬ (0 ≤ p ∧ p ≤ 63) := of_decide_eq_false hp
    have he : oE k d p = 2 := oE_out (fun h => hp' h.2.2)
    rw [oW_bad he (by decide), he]
    clear he hd' hk' hp'
    go_enter Try.func19, Try.ntmps19
    go_wp2_with fail
    refine (in_any _ _ _ _).mono ?_
    rintro e w1 ⟨rfl, rfl⟩
    rw [hk]
    go_wp2_with fail
    refine (in_any _ _ _ _).mono ?_
    rintro e w1 ⟨rfl, rfl⟩
    rw [hd]
    go_wp2_with fail
    refine (in_any _ _ _ _).mono ?_
    rintro e w1 ⟨rfl, rfl⟩
    rw [hp]
    go_wp2
    go_ret2
    exact ⟨rfl, bel_alloc (Below.refl _ _) _⟩
  have hp' := of_between hp
  obtain ⟨k0, k1⟩ := hk'
  obtain ⟨d0, d1⟩ := hd'
  obtain ⟨p0, p1⟩ := hp'
  have oneB : (0 < d ∧ k < 2) ∨ (0 < d ∧ ¬ k < 2 ∧ 0 < p ∧ k < 3) ∨ (¬ 0 < d ∧ 0 < p ∧ k < 3) ∨ (0 < d ∧ ¬ k < 2 ∧ ¬ 0 < p) ∨ (¬ 0 < d ∧ ¬ 0 < p) ∨ (0 < d ∧ ¬ k < 2 ∧ 0 < p ∧ ¬ k < 3) ∨ (¬ 0 < d ∧ 0 < p ∧ ¬ k < 3) := by omega
  rcases oneB with ⟨a1, a2⟩ | ⟨a1, a2, a3, a4⟩ | ⟨a1, a3, a4⟩ | ⟨a1, a2, a3⟩ | ⟨a1, a3⟩ | ⟨a1, a2, a3, a4⟩ | ⟨a1, a3, a4⟩
  · rw [oW_bad (oE_form ⟨k0, k1⟩ ⟨d0, d1⟩ ⟨p0, p1⟩ (by omega)) (by decide), oE_form ⟨k0, k1⟩ ⟨d0, d1⟩ ⟨p0, p1⟩ (by omega)]
    go_enter Try.func19, Try.ntmps19
    go_wp2_with fail
    refine (in_any _ _ _ _).mono ?_
    rintro e w1 ⟨rfl, rfl⟩
    rw [hk]
    go_wp2_with fail
    refine (in_any _ _ _ _).mono ?_
    rintro e w1 ⟨rfl, rfl⟩
    rw [hd]
    go_wp2_with fail
    refine (in_any _ _ _ _).mono ?_
    rintro e w1 ⟨rfl, rfl⟩
    rw [hp]
    go_wp2
    go_ret2
    exact ⟨rfl, bel_alloc (Below.refl _ _) _⟩
  · rw [oW_bad (oE_form ⟨k0, k1⟩ ⟨d0, d1⟩ ⟨p0, p1⟩ (by omega)) (by decide), oE_form ⟨k0, k1⟩ ⟨d0, d1⟩ ⟨p0, p1⟩ (by omega)]
    go_enter Try.func19, Try.ntmps19
    go_wp2_with fail
    refine (in_any _ _ _ _).mono ?_
    rintro e w1 ⟨rfl, rfl⟩
    rw [hk]
    go_wp2_with fail
    refine (in_any _ _ _ _).mono ?_
    rintro e w1 ⟨rfl, rfl⟩
    rw [hd]
    go_wp2_with fail
    refine (in_any _ _ _ _).mono ?_
    rintro e w1 ⟨rfl, rfl⟩
    rw [hp]
    go_wp2
    go_ret2
    exact ⟨rfl, bel_alloc (Below.refl _ _) _⟩
  · rw [oW_bad (oE_form ⟨k0, k1⟩ ⟨d0, d1⟩ ⟨p0, p1⟩ (by omega)) (by decide), oE_form ⟨k0, k1⟩ ⟨d0, d1⟩ ⟨p0, p1⟩ (by omega)]
    go_enter Try.func19, Try.ntmps19
    go_wp2_with fail
    refine (in_any _ _ _ _).mono ?_
    rintro e w1 ⟨rfl, rfl⟩
    rw [hk]
    go_wp2_with fail
    refine (in_any _ _ _ _).mono ?_
    rintro e w1 ⟨rfl, rfl⟩
    rw [hd]
    go_wp2_with fail
    refine (in_any _ _ _ _).mono ?_
    rintro e w1 ⟨rfl, rfl⟩
    rw [hp]
    go_wp2
    go_ret2
    exact ⟨rfl, bel_alloc (Below.refl _ _) _⟩
  · rw [oW_ok (oE_mk ⟨k0, k1⟩ ⟨d0, d1⟩ ⟨p0, p1⟩ (by omega) (by omega)), oE_mk ⟨k0, k1⟩ ⟨d0, d1⟩ ⟨p0, p1⟩ (by omega) (by omega)]
    go_enter Try.func19, Try.ntmps19
    go_wp2_with fail
    refine (in_any _ _ _ _).mono ?_
    rintro e w1 ⟨rfl, rfl⟩
    rw [hk]
    go_wp2_with fail
    refine (in_any _ _ _ _).mono ?_
    rintro e w1 ⟨rfl, rfl⟩
    rw [hd]
    go_wp2_with fail
    refine (in_any _ _ _ _).mono ?_
    rintro e w1 ⟨rfl, rfl⟩
    rw [hp]
    go_wp2
    go_ret2
    exact ⟨rfl, bel_alloc (Below.refl _ _) _⟩
  · rw [oW_ok (oE_mk ⟨k0, k1⟩ ⟨d0, d1⟩ ⟨p0, p1⟩ (by omega) (by omega)), oE_mk ⟨k0, k1⟩ ⟨d0, d1⟩ ⟨p0, p1⟩ (by omega) (by omega)]
    go_enter Try.func19, Try.ntmps19
    go_wp2_with fail
    refine (in_any _ _ _ _).mono ?_
    rintro e w1 ⟨rfl, rfl⟩
    rw [hk]
    go_wp2_with fail
    refine (in_any _ _ _ _).mono ?_
    rintro e w1 ⟨rfl, rfl⟩
    rw [hd]
    go_wp2_with fail
    refine (in_any _ _ _ _).mono ?_
    rintro e w1 ⟨rfl, rfl⟩
    rw [hp]
    go_wp2
    go_ret2
    exact ⟨rfl, bel_alloc (Below.refl _ _) _⟩
  · rw [oW_ok (oE_mk ⟨k0, k1⟩ ⟨d0, d1⟩ ⟨p0, p1⟩ (by omega) (by omega)), oE_mk ⟨k0, k1⟩ ⟨d0, d1⟩ ⟨p0, p1⟩ (by omega) (by omega)]
    go_enter Try.func19, Try.ntmps19
    go_wp2_with fail
    refine (in_any _ _ _ _).mono ?_
    rintro e w1 ⟨rfl, rfl⟩
    rw [hk]
    go_wp2_with fail
    refine (in_any _ _ _ _).mono ?_
    rintro e w1 ⟨rfl, rfl⟩
    rw [hd]
    go_wp2_with fail
    refine (in_any _ _ _ _).mono ?_
    rintro e w1 ⟨rfl, rfl⟩
    rw [hp]
    go_wp2
    go_ret2
    exact ⟨rfl, bel_alloc (Below.refl _ _) _⟩
  · rw [oW_ok (oE_mk ⟨k0, k1⟩ ⟨d0, d1⟩ ⟨p0, p1⟩ (by omega) (by omega)), oE_mk ⟨k0, k1⟩ ⟨d0, d1⟩ ⟨p0, p1⟩ (by omega) (by omega)]
    go_enter Try.func19, Try.ntmps19
    go_wp2_with fail
    refine (in_any _ _ _ _).mono ?_
    rintro e w1 ⟨rfl, rfl⟩
    rw [hk]
    go_wp2_with fail
    refine (in_any _ _ _ _).mono ?_
    rintro e w1 ⟨rfl, rfl⟩
    rw [hd]
    go_wp2_with fail
    refine (in_any _ _ _ _).mono ?_
    rintro e w1 ⟨rfl, rfl⟩
    rw [hp]
    go_wp2
    go_ret2
    exact ⟨rfl, bel_alloc (Below.refl _ _) _⟩

set_option maxHeartbeats 1000000 in
theorem faultWord_any (c d p : Int) (x : Bool) (w : World) :
    Calls Try.prog 21 #[.agg #[.int .i64 c, .int .i64 d, .int .i64 p, .bool x]] w fun e w' => e = .returned (.tuple #[.int .i64 (fW c d p x), .int .i64 (fE c d p)]) ∧ Below w.heap.size w w' := by
  cases hk : betweenB 1 5 c
  · have hk' : ¬ (1 ≤ c ∧ c ≤ 5) := of_decide_eq_false hk
    have he : fE c d p = 2 := fE_out (fun h => hk' h.1)
    rw [fW_bad he, he]
    clear he hk'
    go_enter Try.func21, Try.ntmps21
    go_wp2_with fail
    refine (in_any _ _ _ _).mono ?_
    rintro e w1 ⟨rfl, rfl⟩
    rw [hk]
    go_wp2
    go_ret2
    exact ⟨rfl, bel_alloc (Below.refl _ _) _⟩
  have hk' := of_between hk
  cases hd : betweenB 0 7 d
  · have hd' : ¬ (0 ≤ d ∧ d ≤ 7) := of_decide_eq_false hd
    have he : fE c d p = 2 := fE_out (fun h => hd' h.2.1)
    rw [fW_bad he, he]
    clear he hd' hk'
    go_enter Try.func21, Try.ntmps21
    go_wp2_with fail
    refine (in_any _ _ _ _).mono ?_
    rintro e w1 ⟨rfl, rfl⟩
    rw [hk]
    go_wp2_with fail
    refine (in_any _ _ _ _).mono ?_
    rintro e w1 ⟨rfl, rfl⟩
    rw [hd]
    go_wp2
    go_ret2
    exact ⟨rfl, bel_alloc (Below.refl _ _) _⟩
  have hd' := of_between hd
  cases hp : betweenB 0 63 p
  · have hp' : ¬ (0 ≤ p ∧ p ≤ 63) := of_decide_eq_false hp
    have he : fE c d p = 2 := fE_out (fun h => hp' h.2.2)
    rw [fW_bad he, he]
    clear he hd' hk' hp'
    go_enter Try.func21, Try.ntmps21
    go_wp2_with fail
    refine (in_any _ _ _ _).mono ?_
    rintro e w1 ⟨rfl, rfl⟩
    rw [hk]
    go_wp2_with fail
    refine (in_any _ _ _ _).mono ?_
    rintro e w1 ⟨rfl, rfl⟩
    rw [hd]
    go_wp2_with fail
    refine (in_any _ _ _ _).mono ?_
    rintro e w1 ⟨rfl, rfl⟩
    rw [hp]
    go_wp2
    go_ret2
    exact ⟨rfl, bel_alloc (Below.refl _ _) _⟩
  have hp' := of_between hp
  have he : fE c d p = 0 := fE_mk hk' hd' hp'
  rw [fW_ok he, he]
  clear he
  obtain ⟨k0, k1⟩ := hk'
  obtain ⟨d0, d1⟩ := hd'
  obtain ⟨p0, p1⟩ := hp'
  cases x
  · rw [show fX false = 0 from rfl, Int.add_zero]
    go_enter Try.func21, Try.ntmps21
    go_wp2_with fail
    refine (in_any _ _ _ _).mono ?_
    rintro e w1 ⟨rfl, rfl⟩
    rw [hk]
    go_wp2_with fail
    refine (in_any _ _ _ _).mono ?_
    rintro e w1 ⟨rfl, rfl⟩
    rw [hd]
    go_wp2_with fail
    refine (in_any _ _ _ _).mono ?_
    rintro e w1 ⟨rfl, rfl⟩
    rw [hp]
    go_wp2
    go_ret2
    exact ⟨rfl, bel_alloc (Below.refl _ _) _⟩
  · rw [show fX true = 4096 from rfl]
    go_enter Try.func21, Try.ntmps21
    go_wp2_with fail
    refine (in_any _ _ _ _).mono ?_
    rintro e w1 ⟨rfl, rfl⟩
    rw [hk]
    go_wp2_with fail
    refine (in_any _ _ _ _).mono ?_
    rintro e w1 ⟨rfl, rfl⟩
    rw [hd]
    go_wp2_with fail
    refine (in_any _ _ _ _).mono ?_
    rintro e w1 ⟨rfl, rfl⟩
    rw [hp]
    go_wp2
    go_ret2
    exact ⟨rfl, bel_alloc (Below.refl _ _) _⟩
end Go.Proofs.Ytefcdcneenjbgab
/-
  What ReadOrder, ReadFault answer, and drawbridgeref's OrderOf, FaultOf: the same; none turns memory that was there.
-/
namespace Go.Proofs.Ytefcdcneenjbgab
open Go.RowKit

theorem roE_out {z : Int} (h : ¬ (0 ≤ z ∧ z ≤ 65535)) : roE z = 2 := if_neg h
theorem roE_bad {z : Int} (h : 0 ≤ z ∧ z ≤ 65535) (k : ¬ oE (z % 4) (z / 4 % 8) (z / 32) = 0) : roE z = 3 := by rw [roE, if_pos h, if_neg k]
theorem roO_bad {z e : Int} (h : roE z = e) (hn : ¬ e = 0) : roO z = (0, 0, 0) := if_neg (fun x => hn (h.symm.trans x))
theorem roO_ok {z : Int} (h : roE z = 0) : roO z = (z % 4, z / 4 % 8, z / 32) := if_pos h
theorem rfE_out {z : Int} (h : ¬ (0 ≤ z ∧ z ≤ 65535)) : rfE z = 2 := if_neg h
theorem rfE_bad {z : Int} (h : 0 ≤ z ∧ z ≤ 65535) (k : ¬ (fE (z % 8) (z / 8 % 8) (z / 64 % 64) = 0 ∧ z < 8192)) : rfE z = 3 := by rw [rfE, if_pos h, if_neg k]
theorem rfF_bad {z e : Int} (h : rfE z = e) (hn : ¬ e = 0) : rfF z = (0, 0, 0, false) := if_neg (fun x => hn (h.symm.trans x))
theorem rfF_ok {z : Int} (h : rfE z = 0) : rfF z = (z % 8, z / 8 % 8, z / 64 % 64, decide (z / 4096 = 1)) := if_pos h

/-- The project's way: what is read is put, and must be as it was. -/
theorem ro_way {z : Int} (h : 0 ≤ z ∧ z ≤ 65535) :
    (roE z = 3 ∧ roO z = (0, 0, 0) ∧ (¬ oE (z % 4) (z / 4 % 8) (z / 32 % 64) = 0 ∨ (oE (z % 4) (z / 4 % 8) (z / 32 % 64) = 0 ∧ ¬ oW (z % 4) (z / 4 % 8) (z / 32 % 64) = z))) ∨
    (roE z = 0 ∧ roO z = (z % 4, z / 4 % 8, z / 32 % 64) ∧ oE (z % 4) (z / 4 % 8) (z / 32 % 64) = 0 ∧ oW (z % 4) (z / 4 % 8) (z / 32 % 64) = z) := by
  by_cases hs : z < 2048
  · have e : z / 32 % 64 = z / 32 := by omega
    rw [e]
    by_cases hk : oE (z % 4) (z / 4 % 8) (z / 32) = 0
    · have hr := roE_mk h hk
      exact .inr ⟨hr, roO_ok hr, hk, by rw [oW_ok hk]; omega⟩
    · have hr := roE_bad h hk
      exact .inl ⟨hr, roO_bad hr (by decide), .inl hk⟩
  · have hr : roE z = 3 := roE_bad h fun hk => by have := (oE_ok hk).2.2.1; omega
    refine .inl ⟨hr, roO_bad hr (by decide), ?_⟩
    by_cases hk : oE (z % 4) (z / 4 % 8) (z / 32 % 64) = 0
    · exact .inr ⟨hk, by rw [oW_ok hk]; omega⟩
    · exact .inl hk
theorem rf_way {z : Int} (h : 0 ≤ z ∧ z ≤ 65535) :
    (rfE z = 3 ∧ rfF z = (0, 0, 0, false) ∧ (¬ fE (z % 8) (z / 8 % 8) (z / 64 % 64) = 0 ∨ (fE (z % 8) (z / 8 % 8) (z / 64 % 64) = 0 ∧ ¬ fW (z % 8) (z / 8 % 8) (z / 64 % 64) (z / 4096 % 2 == 1) = z))) ∨
    (rfE z = 0 ∧ rfF z = (z % 8, z / 8 % 8, z / 64 % 64, (z / 4096 % 2 == 1)) ∧ fE (z % 8) (z / 8 % 8) (z / 64 % 64) = 0 ∧ fW (z % 8) (z / 8 % 8) (z / 64 % 64) (z / 4096 % 2 == 1) = z) := by
  have hb : (z / 4096 % 2 == 1) = decide (z / 4096 % 2 = 1) := rfl
  rw [hb]
  by_cases hk : fE (z % 8) (z / 8 % 8) (z / 64 % 64) = 0
  · by_cases hs : z < 8192
    · have hr := rfE_mk h hk hs
      have e : z / 4096 % 2 = z / 4096 := by omega
      have hq := rfF_ok hr
      rw [e]
      exact .inr ⟨hr, hq, hk, (f_read hr hq).2⟩
    · have hr : rfE z = 3 := rfE_bad h fun x => hs x.2
      refine .inl ⟨hr, rfF_bad hr (by decide), .inr ⟨hk, ?_⟩⟩
      rw [fW_ok hk]
      rcases fX_cases (decide (z / 4096 % 2 = 1)) with ⟨_, e⟩ | ⟨_, e⟩ <;> rw [e] <;> omega
  · have hr : rfE z = 3 := rfE_bad h fun x => hk x.1
    exact .inl ⟨hr, rfF_bad hr (by decide), .inl hk⟩

set_option maxHeartbeats 2000000 in
theorem readOrder_any (z : Int) (w : World) :
    Calls Try.prog 16 #[.int .i64 z] w fun e w' => (∃ k d p, e = .returned (.tuple #[.agg #[.int .i64 k, .int .i64 d, .int .i64 p], .int .i64 (roE z)]) ∧ roO z = (k, d, p)) ∧ Below w.heap.size w w' := by
  cases hw : betweenB 0 65535 z
  · have hr : roE z = 2 := roE_out (of_decide_eq_false hw)
    have HO : Hid (roO z = (0, 0, 0)) := roO_bad hr (by decide)
    rw [hr]
    clear hr
    go_enter Try.func16, Try.ntmps16
    go_wp2_with fail
    refine (oIsWord_any _ _).mono ?_
    rintro e w1 ⟨rfl, rfl⟩
    rw [hw]
    go_wp2
    refine bodyPost_ret (v := .tuple #[.agg #[.int .i64 0, .int .i64 0, .int .i64 0], .int .i64 2]) (by simp [results, Try.results16, go_sem]) rfl ⟨⟨_, _, _, rfl, HO.out⟩, ?_⟩
    exact bel_alloc (Below.refl _ _) _
  have hz := of_between hw
  have hway := ro_way hz
  obtain ⟨h0, h1⟩ := hz
  obtain ⟨eo, heo⟩ : ∃ eo, oE (z % 4) (z / 4 % 8) (z / 32 % 64) = eo := ⟨_, rfl⟩
  obtain ⟨xo, hxo⟩ : ∃ xo, oW (z % 4) (z / 4 % 8) (z / 32 % 64) = xo := ⟨_, rfl⟩
  rw [heo, hxo] at hway
  have HW : Hid _ := hway
  have HE : Hid _ := heo
  have HX : Hid _ := hxo
  clear hway heo hxo
  go_enter Try.func16, Try.ntmps16
  go_wp2_with fail
  refine (oIsWord_any _ _).mono ?_
  rintro e w1 ⟨rfl, rfl⟩
  rw [hw]
  go_wp2_with fail
  refine (putOrder_any _ _ _ _).mono ?_
  rintro e w1 ⟨rfl, b1⟩
  rw [HE.out, HX.out]
  have X0 := (Box.newAt (n := w.heap.size) (by simp) 23 #[.int .i64 0, .int .i64 0, .int .i64 0]).past (.cells #[.int .i64 (z % 4), .int .i64 (z / 4 % 8), .int .i64 (z / 32 % 64)] 23) |>.keep b1
  have X1 := (Box.newAt (w := w.alloc (.cells #[.int .i64 0, .int .i64 0, .int .i64 0] 23)) (n := w.heap.size + 1) (by simp) 23 #[.int .i64 (z % 4), .int .i64 (z / 4 % 8), .int .i64 (z / 32 % 64)]).keep b1
  have B1 : Hid (Below w.heap.size w w1) := bel_trans (bel_alloc (bel_alloc (Below.refl _ _) _) _) b1
  clear b1
  obtain ⟨u0, u1, u2, g0, g1, g2, s0⟩ := X0.three
  obtain ⟨q0, q1, q2, -, -, -, s1⟩ := X1.three
  clear X0 X1
  rcases HW.out with ⟨hr, ho, hk | ⟨hk, hx⟩⟩ | ⟨hr, ho, hk, hx⟩
  · have HR : Hid _ := hr
    have HO : Hid _ := ho
    have hq : (eo != 0) = true := by simpa using hk
    clear hr ho HW HE HX hk
    go_wp2
    refine bodyPost_ret (v := .tuple #[.agg #[.int .i64 0, .int .i64 0, .int .i64 0], .int .i64 3]) (by simp [results, Try.results16, go_sem, *]) rfl ⟨⟨_, _, _, by rw [HR.out], HO.out⟩, ?_⟩
    exact bel_set3 (by omega) B1.out _ _ _
  · have HR : Hid _ := hr
    have HO : Hid _ := ho
    have hq : (xo != z) = true := by simpa using hx
    clear hr ho HW HE HX hx
    subst hk
    go_wp2
    refine bodyPost_ret (v := .tuple #[.agg #[.int .i64 0, .int .i64 0, .int .i64 0], .int .i64 3]) (by simp [results, Try.results16, go_sem, *]) rfl ⟨⟨_, _, _, by rw [HR.out], HO.out⟩, ?_⟩
    exact bel_set3 (by omega) B1.out _ _ _
  · have HR : Hid _ := hr
    have HO : Hid _ := ho
    clear hr ho HW HE HX
    subst hk hx
    go_wp2
    refine bodyPost_ret (v := .tuple #[.agg #[.int .i64 (xo % 4), .int .i64 (xo / 4 % 8), .int .i64 (xo / 32 % 64)], .int .i64 0]) (by simp [results, Try.results16, go_sem, *]) rfl ⟨⟨_, _, _, by rw [HR.out], HO.out⟩, ?_⟩
    exact bel_set3 (by omega) B1.out _ _ _
end Go.Proofs.Ytefcdcneenjbgab
/-
  What ReadFault answers, and drawbridgeref's OrderOf, FaultOf: the same as ReadOrder, ReadFault; none turns memory that was there.
-/
namespace Go.Proofs.Ytefcdcneenjbgab
open Go.RowKit

set_option maxHeartbeats 2000000 in
theorem readFault_any (z : Int) (w : World) :
    Calls Try.prog 18 #[.int .i64 z] w fun e w' => (∃ c d p x, e = .returned (.tuple #[.agg #[.int .i64 c, .int .i64 d, .int .i64 p, .bool x], .int .i64 (rfE z)]) ∧ rfF z = (c, d, p, x)) ∧ Below w.heap.size w w' := by
  cases hw : betweenB 0 65535 z
  · have hr : rfE z = 2 := rfE_out (of_decide_eq_false hw)
    have HO : Hid (rfF z = (0, 0, 0, false)) := rfF_bad hr (by decide)
    rw [hr]
    clear hr
    go_enter Try.func18, Try.ntmps18
    go_wp2_with fail
    refine (oIsWord_any _ _).mono ?_
    rintro e w1 ⟨rfl, rfl⟩
    rw [hw]
    go_wp2
    refine bodyPost_ret (v := .tuple #[.agg #[.int .i64 0, .int .i64 0, .int .i64 0, .bool false], .int .i64 2]) (by simp [results, Try.results18, go_sem]) rfl ⟨⟨_, _, _, _, rfl, HO.out⟩, ?_⟩
    exact bel_alloc (Below.refl _ _) _
  have hz := of_between hw
  have hway := rf_way hz
  obtain ⟨h0, h1⟩ := hz
  obtain ⟨eo, heo⟩ : ∃ eo, fE (z % 8) (z / 8 % 8) (z / 64 % 64) = eo := ⟨_, rfl⟩
  obtain ⟨xo, hxo⟩ : ∃ xo, fW (z % 8) (z / 8 % 8) (z / 64 % 64) (z / 4096 % 2 == 1) = xo := ⟨_, rfl⟩
  rw [heo, hxo] at hway
  have HW : Hid _ := hway
  have HE : Hid _ := heo
  have HX : Hid _ := hxo
  clear hway heo hxo
  go_enter Try.func18, Try.ntmps18
  go_wp2_with fail
  refine (oIsWord_any _ _).mono ?_
  rintro e w1 ⟨rfl, rfl⟩
  rw [hw]
  go_wp2_with fail
  refine (putFault_any _ _ _ _ _).mono ?_
  rintro e w1 ⟨rfl, b1⟩
  rw [HE.out, HX.out]
  have X0 := (Box.newAt (n := w.heap.size) (by simp) 25 #[.int .i64 0, .int .i64 0, .int .i64 0, .bool false]).past (.cells #[.int .i64 (z % 8), .int .i64 (z / 8 % 8), .int .i64 (z / 64 % 64), .bool (z / 4096 % 2 == 1)] 25) |>.keep b1
  have X1 := (Box.newAt (w := w.alloc (.cells #[.int .i64 0, .int .i64 0, .int .i64 0, .bool false] 25)) (n := w.heap.size + 1) (by simp) 25 #[.int .i64 (z % 8), .int .i64 (z / 8 % 8), .int .i64 (z / 64 % 64), .bool (z / 4096 % 2 == 1)]).keep b1
  have B1 : Hid (Below w.heap.size w w1) := bel_trans (bel_alloc (bel_alloc (Below.refl _ _) _) _) b1
  clear b1
  obtain ⟨u0, u1, u2, u3, g0, g1, g2, g3, s0⟩ := X0.four
  obtain ⟨q0, q1, q2, q3, -, -, -, -, s1⟩ := X1.four
  clear X0 X1
  rcases HW.out with ⟨hr, ho, hk | ⟨hk, hx⟩⟩ | ⟨hr, ho, hk, hx⟩
  · have HR : Hid _ := hr
    have HO : Hid _ := ho
    have hq : (eo != 0) = true := by simpa using hk
    clear hr ho HW HE HX hk
    go_wp2
    refine bodyPost_ret (v := .tuple #[.agg #[.int .i64 0, .int .i64 0, .int .i64 0, .bool false], .int .i64 3]) (by simp [results, Try.results18, go_sem, *]) rfl ⟨⟨_, _, _, _, by rw [HR.out], HO.out⟩, ?_⟩
    exact bel_set4 (by omega) B1.out _ _ _ _
  · have HR : Hid _ := hr
    have HO : Hid _ := ho
    have hq : (xo != z) = true := by simpa using hx
    clear hr ho HW HE HX hx
    subst hk
    go_wp2
    refine bodyPost_ret (v := .tuple #[.agg #[.int .i64 0, .int .i64 0, .int .i64 0, .bool false], .int .i64 3]) (by simp [results, Try.results18, go_sem, *]) rfl ⟨⟨_, _, _, _, by rw [HR.out], HO.out⟩, ?_⟩
    exact bel_set4 (by omega) B1.out _ _ _ _
  · have HR : Hid _ := hr
    have HO : Hid _ := ho
    clear hr ho HW HE HX
    subst hk hx
    go_wp2
    refine bodyPost_ret (v := .tuple #[.agg #[.int .i64 (xo % 8), .int .i64 (xo / 8 % 8), .int .i64 (xo / 64 % 64), .bool (xo / 4096 % 2 == 1)], .int .i64 0]) (by simp [results, Try.results18, go_sem, *]) rfl ⟨⟨_, _, _, _, by rw [HR.out], HO.out⟩, ?_⟩
    exact bel_set4 (by omega) B1.out _ _ _ _

/-- The reference's way. -/
theorem rof_way {z : Int} (h : 0 ≤ z ∧ z ≤ 65535) :
    (roE z = 3 ∧ roO z = (0, 0, 0) ∧ ¬ oE (z % 4) (z / 4 % 8) (z / 32) = 0) ∨ (roE z = 0 ∧ roO z = (z % 4, z / 4 % 8, z / 32) ∧ oE (z % 4) (z / 4 % 8) (z / 32) = 0) := by
  by_cases hk : oE (z % 4) (z / 4 % 8) (z / 32) = 0
  · have hr := roE_mk h hk
    exact .inr ⟨hr, roO_ok hr, hk⟩
  · have hr := roE_bad h hk
    exact .inl ⟨hr, roO_bad hr (by decide), hk⟩
theorem rff_way {z : Int} (h : 0 ≤ z ∧ z ≤ 65535) :
    (rfE z = 3 ∧ rfF z = (0, 0, 0, false) ∧ (¬ fE (z % 8) (z / 8 % 8) (z / 64 % 64) = 0 ∨ (fE (z % 8) (z / 8 % 8) (z / 64 % 64) = 0 ∧ 8192 ≤ z))) ∨
    (rfE z = 0 ∧ rfF z = (z % 8, z / 8 % 8, z / 64 % 64, (z / 4096 == 1)) ∧ fE (z % 8) (z / 8 % 8) (z / 64 % 64) = 0 ∧ ¬ 8192 ≤ z) := by
  by_cases hk : fE (z % 8) (z / 8 % 8) (z / 64 % 64) = 0
  · by_cases hs : z < 8192
    · have hr := rfE_mk h hk hs
      exact .inr ⟨hr, rfF_ok hr, hk, by omega⟩
    · have hr : rfE z = 3 := rfE_bad h fun x => hs x.2
      exact .inl ⟨hr, rfF_bad hr (by decide), .inr ⟨hk, by omega⟩⟩
  · have hr : rfE z = 3 := rfE_bad h fun x => hk x.1
    exact .inl ⟨hr, rfF_bad hr (by decide), .inl hk⟩

set_option maxHeartbeats 2000000 in
theorem orderOf_any (z : Int) (w : World) :
    Calls Try.prog 20 #[.int .i64 z] w fun e w' => (∃ k d p, e = .returned (.tuple #[.agg #[.int .i64 k, .int .i64 d, .int .i64 p], .int .i64 (roE z)]) ∧ roO z = (k, d, p)) ∧ Below w.heap.size w w' := by
  cases hw : betweenB 0 65535 z
  · have hr : roE z = 2 := roE_out (of_decide_eq_false hw)
    have HO : Hid (roO z = (0, 0, 0)) := roO_bad hr (by decide)
    rw [hr]
    clear hr
    go_enter Try.func20, Try.ntmps20
    go_wp2_with fail
    refine (in_any _ _ _ _).mono ?_
    rintro e w1 ⟨rfl, rfl⟩
    rw [hw]
    go_wp2
    refine bodyPost_ret (v := .tuple #[.agg #[.int .i64 0, .int .i64 0, .int .i64 0], .int .i64 2]) (by simp [results, Try.results20, go_sem]) rfl ⟨⟨_, _, _, rfl, HO.out⟩, ?_⟩
    exact bel_alloc (Below.refl _ _) _
  have hz := of_between hw
  have hway := rof_way hz
  obtain ⟨h0, h1⟩ := hz
  obtain ⟨eo, heo⟩ : ∃ eo, oE (z % 4) (z / 4 % 8) (z / 32) = eo := ⟨_, rfl⟩
  obtain ⟨xo, hxo⟩ : ∃ xo, oW (z % 4) (z / 4 % 8) (z / 32) = xo := ⟨_, rfl⟩
  rw [heo] at hway
  have HW : Hid _ := hway
  have HE : Hid _ := heo
  have HX : Hid _ := hxo
  clear hway heo hxo
  go_enter Try.func20, Try.ntmps20
  go_wp2_with fail
  refine (in_any _ _ _ _).mono ?_
  rintro e w1 ⟨rfl, rfl⟩
  rw [hw]
  go_wp2_with fail
  refine (orderWord_any _ _ _ _).mono ?_
  rintro e w1 ⟨rfl, b1⟩
  rw [HE.out, HX.out]
  have X0 := (Box.newAt (n := w.heap.size) (by simp) 23 #[.int .i64 0, .int .i64 0, .int .i64 0]).past (.cells #[.int .i64 (z % 4), .int .i64 (z / 4 % 8), .int .i64 (z / 32)] 23) |>.keep b1
  have X1 := (Box.newAt (w := w.alloc (.cells #[.int .i64 0, .int .i64 0, .int .i64 0] 23)) (n := w.heap.size + 1) (by simp) 23 #[.int .i64 (z % 4), .int .i64 (z / 4 % 8), .int .i64 (z / 32)]).keep b1
  have B1 : Hid (Below w.heap.size w w1) := bel_trans (bel_alloc (bel_alloc (Below.refl _ _) _) _) b1
  clear b1
  obtain ⟨u0, u1, u2, g0, g1, g2, s0⟩ := X0.three
  obtain ⟨q0, q1, q2, -, -, -, s1⟩ := X1.three
  clear X0 X1
  clear HX
  rcases HW.out with ⟨hr, ho, hk⟩ | ⟨hr, ho, hk⟩
  · have HR : Hid _ := hr
    have HO : Hid _ := ho
    have hq : (eo != 0) = true := by simpa using hk
    clear hr ho HW HE hk
    go_wp2
    refine bodyPost_ret (v := .tuple #[.agg #[.int .i64 0, .int .i64 0, .int .i64 0], .int .i64 3]) (by simp [results, Try.results20, go_sem, *]) rfl ⟨⟨_, _, _, by rw [HR.out], HO.out⟩, ?_⟩
    exact bel_set3 (by omega) B1.out _ _ _
  · have HR : Hid _ := hr
    have HO : Hid _ := ho
    clear hr ho HW HE
    subst hk
    go_wp2
    refine bodyPost_ret (v := .tuple #[.agg #[.int .i64 (z % 4), .int .i64 (z / 4 % 8), .int .i64 (z / 32)], .int .i64 0]) (by simp [results, Try.results20, go_sem, *]) rfl ⟨⟨_, _, _, by rw [HR.out], HO.out⟩, ?_⟩
    exact bel_set3 (by omega) B1.out _ _ _

set_option maxHeartbeats 2000000 in
theorem faultOf_any (z : Int) (w : World) :
    Calls Try.prog 22 #[.int .i64 z] w fun e w' => (∃ c d p x, e = .returned (.tuple #[.agg #[.int .i64 c, .int .i64 d, .int .i64 p, .bool x], .int .i64 (rfE z)]) ∧ rfF z = (c, d, p, x)) ∧ Below w.heap.size w w' := by
  cases hw : betweenB 0 65535 z
  · have hr : rfE z = 2 := rfE_out (of_decide_eq_false hw)
    have HO : Hid (rfF z = (0, 0, 0, false)) := rfF_bad hr (by decide)
    rw [hr]
    clear hr
    go_enter Try.func22, Try.ntmps22
    go_wp2_with fail
    refine (in_any _ _ _ _).mono ?_
    rintro e w1 ⟨rfl, rfl⟩
    rw [hw]
    go_wp2
    refine bodyPost_ret (v := .tuple #[.agg #[.int .i64 0, .int .i64 0, .int .i64 0, .bool false], .int .i64 2]) (by simp [results, Try.results22, go_sem]) rfl ⟨⟨_, _, _, _, rfl, HO.out⟩, ?_⟩
    exact bel_alloc (Below.refl _ _) _
  have hz := of_between hw
  have hway := rff_way hz
  obtain ⟨h0, h1⟩ := hz
  obtain ⟨eo, heo⟩ : ∃ eo, fE (z % 8) (z / 8 % 8) (z / 64 % 64) = eo := ⟨_, rfl⟩
  obtain ⟨xo, hxo⟩ : ∃ xo, fW (z % 8) (z / 8 % 8) (z / 64 % 64) (z / 4096 == 1) = xo := ⟨_, rfl⟩
  rw [heo] at hway
  have HW : Hid _ := hway
  have HE : Hid _ := heo
  have HX : Hid _ := hxo
  clear hway heo hxo
  go_enter Try.func22, Try.ntmps22
  go_wp2_with fail
  refine (in_any _ _ _ _).mono ?_
  rintro e w1 ⟨rfl, rfl⟩
  rw [hw]
  go_wp2_with fail
  refine (faultWord_any _ _ _ _ _).mono ?_
  rintro e w1 ⟨rfl, b1⟩
  rw [HE.out, HX.out]
  have X0 := (Box.newAt (n := w.heap.size) (by simp) 25 #[.int .i64 0, .int .i64 0, .int .i64 0, .bool false]).past (.cells #[.int .i64 (z % 8), .int .i64 (z / 8 % 8), .int .i64 (z / 64 % 64), .bool (z / 4096 == 1)] 25) |>.keep b1
  have X1 := (Box.newAt (w := w.alloc (.cells #[.int .i64 0, .int .i64 0, .int .i64 0, .bool false] 25)) (n := w.heap.size + 1) (by simp) 25 #[.int .i64 (z % 8), .int .i64 (z / 8 % 8), .int .i64 (z / 64 % 64), .bool (z / 4096 == 1)]).keep b1
  have B1 : Hid (Below w.heap.size w w1) := bel_trans (bel_alloc (bel_alloc (Below.refl _ _) _) _) b1
  clear b1
  obtain ⟨u0, u1, u2, u3, g0, g1, g2, g3, s0⟩ := X0.four
  obtain ⟨q0, q1, q2, q3, -, -, -, -, s1⟩ := X1.four
  clear X0 X1
  clear HX
  rcases HW.out with ⟨hr, ho, hk | ⟨hk, hx⟩⟩ | ⟨hr, ho, hk, hx⟩
  · have HR : Hid _ := hr
    have HO : Hid _ := ho
    have hq : (eo != 0) = true := by simpa using hk
    clear hr ho HW HE hk
    go_wp2
    refine bodyPost_ret (v := .tuple #[.agg #[.int .i64 0, .int .i64 0, .int .i64 0, .bool false], .int .i64 3]) (by simp [results, Try.results22, go_sem, *]) rfl ⟨⟨_, _, _, _, by rw [HR.out], HO.out⟩, ?_⟩
    exact bel_set4 (by omega) B1.out _ _ _ _
  · have HR : Hid _ := hr
    have HO : Hid _ := ho
    clear hr ho HW HE
    subst hk
    go_wp2
    refine bodyPost_ret (v := .tuple #[.agg #[.int .i64 0, .int .i64 0, .int .i64 0, .bool false], .int .i64 3]) (by simp [results, Try.results22, go_sem, *]) rfl ⟨⟨_, _, _, _, by rw [HR.out], HO.out⟩, ?_⟩
    exact bel_set4 (by omega) B1.out _ _ _ _
  · have HR : Hid _ := hr
    have HO : Hid _ := ho
    clear hr ho HW HE
    subst hk
    go_wp2
    refine bodyPost_ret (v := .tuple #[.agg #[.int .i64 (z % 8), .int .i64 (z / 8 % 8), .int .i64 (z / 64 % 64), .bool (z / 4096 == 1)], .int .i64 0]) (by simp [results, Try.results22, go_sem, *]) rfl ⟨⟨_, _, _, _, by rw [HR.out], HO.out⟩, ?_⟩
    exact bel_set4 (by omega) B1.out _ _ _ _

end Go.Proofs.Ytefcdcneenjbgab
/-
  The closed fact drawbridgelaw.worded; the reads where their answer is known.
-/
namespace Go.Proofs.Ytefcdcneenjbgab
open Go.RowKit

theorem readOrder_at {z k d p e1 : Int} {w : World} (hE : roE z = e1) (hO : roO z = (k, d, p)) :
    Calls Try.prog 16 #[.int .i64 z] w fun e w' => e = .returned (.tuple #[.agg #[.int .i64 k, .int .i64 d, .int .i64 p], .int .i64 e1]) ∧ Below w.heap.size w w' := by
  refine (readOrder_any z w).mono ?_
  rintro e w' ⟨⟨k', d', p', rfl, h⟩, hb⟩
  rw [hO] at h
  simp only [Prod.mk.injEq] at h
  obtain ⟨rfl, rfl, rfl⟩ := h
  rw [hE]
  exact ⟨rfl, hb⟩
theorem orderOf_at {z k d p e1 : Int} {w : World} (hE : roE z = e1) (hO : roO z = (k, d, p)) :
    Calls Try.prog 20 #[.int .i64 z] w fun e w' => e = .returned (.tuple #[.agg #[.int .i64 k, .int .i64 d, .int .i64 p], .int .i64 e1]) ∧ Below w.heap.size w w' := by
  refine (orderOf_any z w).mono ?_
  rintro e w' ⟨⟨k', d', p', rfl, h⟩, hb⟩
  rw [hO] at h
  simp only [Prod.mk.injEq] at h
  obtain ⟨rfl, rfl, rfl⟩ := h
  rw [hE]
  exact ⟨rfl, hb⟩
theorem readFault_at {z c d p e1 : Int} {x : Bool} {w : World} (hE : rfE z = e1) (hO : rfF z = (c, d, p, x)) :
    Calls Try.prog 18 #[.int .i64 z] w fun e w' => e = .returned (.tuple #[.agg #[.int .i64 c, .int .i64 d, .int .i64 p, .bool x], .int .i64 e1]) ∧ Below w.heap.size w w' := by
  refine (readFault_any z w).mono ?_
  rintro e w' ⟨⟨c', d', p', x', rfl, h⟩, hb⟩
  rw [hO] at h
  simp only [Prod.mk.injEq] at h
  obtain ⟨rfl, rfl, rfl, rfl⟩ := h
  rw [hE]
  exact ⟨rfl, hb⟩
theorem faultOf_at {z c d p e1 : Int} {x : Bool} {w : World} (hE : rfE z = e1) (hO : rfF z = (c, d, p, x)) :
    Calls Try.prog 22 #[.int .i64 z] w fun e w' => e = .returned (.tuple #[.agg #[.int .i64 c, .int .i64 d, .int .i64 p, .bool x], .int .i64 e1]) ∧ Below w.heap.size w w' := by
  refine (faultOf_any z w).mono ?_
  rintro e w' ⟨⟨c', d', p', x', rfl, h⟩, hb⟩
  rw [hO] at h
  simp only [Prod.mk.injEq] at h
  obtain ⟨rfl, rfl, rfl, rfl⟩ := h
  rw [hE]
  exact ⟨rfl, hb⟩
theorem putOrder_at {k d p e1 z : Int} {w : World} (hE : oE k d p = e1) (hW : oW k d p = z) :
    Calls Try.prog 15 #[.agg #[.int .i64 k, .int .i64 d, .int .i64 p]] w fun e w' => e = .returned (.tuple #[.int .i64 z, .int .i64 e1]) ∧ Below w.heap.size w w' := by
  refine (putOrder_any k d p w).mono ?_
  rintro e w' ⟨rfl, hb⟩
  rw [hE, hW]
  exact ⟨rfl, hb⟩
theorem orderWord_at {k d p e1 z : Int} {w : World} (hE : oE k d p = e1) (hW : oW k d p = z) :
    Calls Try.prog 19 #[.agg #[.int .i64 k, .int .i64 d, .int .i64 p]] w fun e w' => e = .returned (.tuple #[.int .i64 z, .int .i64 e1]) ∧ Below w.heap.size w w' := by
  refine (orderWord_any k d p w).mono ?_
  rintro e w' ⟨rfl, hb⟩
  rw [hE, hW]
  exact ⟨rfl, hb⟩
theorem putFault_at {c d p e1 z : Int} {x : Bool} {w : World} (hE : fE c d p = e1) (hW : fW c d p x = z) :
    Calls Try.prog 17 #[.agg #[.int .i64 c, .int .i64 d, .int .i64 p, .bool x]] w fun e w' => e = .returned (.tuple #[.int .i64 z, .int .i64 e1]) ∧ Below w.heap.size w w' := by
  refine (putFault_any c d p x w).mono ?_
  rintro e w' ⟨rfl, hb⟩
  rw [hE, hW]
  exact ⟨rfl, hb⟩
theorem faultWord_at {c d p e1 z : Int} {x : Bool} {w : World} (hE : fE c d p = e1) (hW : fW c d p x = z) :
    Calls Try.prog 21 #[.agg #[.int .i64 c, .int .i64 d, .int .i64 p, .bool x]] w fun e w' => e = .returned (.tuple #[.int .i64 z, .int .i64 e1]) ∧ Below w.heap.size w w' := by
  refine (faultWord_any c d p x w).mono ?_
  rintro e w' ⟨rfl, hb⟩
  rw [hE, hW]
  exact ⟨rfl, hb⟩

set_option maxHeartbeats 2000000 in
theorem worded_true (w : World) : Calls Try.prog 23 #[] w fun e w' => e = .returned (.bool true) ∧ Below w.heap.size w w' := by
  go_enter Try.func23, Try.ntmps23
  go_wp2_with fail
  refine (putOrder_at (k := 3) (d := 2) (p := 5) (e1 := 0) (z := 171) (by decide) (by decide)).mono ?_
  rintro e w1 ⟨rfl, b1⟩
  have B1 : Hid (Below w.heap.size w w1) := b1
  clear b1
  go_wp2_with fail
  refine (readOrder_at (z := 171) (k := 3) (d := 2) (p := 5) (e1 := 0) (by decide) (by decide)).mono ?_
  rintro e w2 ⟨rfl, b2⟩
  have B2 : Hid (Below w.heap.size w w2) := bel_trans B1.out b2
  clear b2 B1
  go_wp2_with fail
  refine (putFault_at (c := 3) (d := 1) (p := 2) (x := true) (e1 := 0) (z := 4235) (by decide) (by decide)).mono ?_
  rintro e w3 ⟨rfl, b3⟩
  have X1 := (Box.newAt (w := w2) (n := w2.heap.size) rfl 23 #[.int .i64 3, .int .i64 2, .int .i64 5]).keep b3
  have B3 : Hid (Below w.heap.size w w3) := bel_trans (bel_alloc B2.out _) b3
  clear b3 B2
  go_wp2_with fail
  refine (readFault_at (z := 4235) (c := 3) (d := 1) (p := 2) (x := true) (e1 := 0) (by decide) (by decide)).mono ?_
  rintro e w4 ⟨rfl, b4⟩
  have X1 := X1.keep b4
  have B4 : Hid (Below w.heap.size w w4) := bel_trans B3.out b4
  clear b4 B3
  go_wp2_with fail
  refine (readOrder_at (z := 4) (k := 0) (d := 0) (p := 0) (e1 := 3) (by decide) (by decide)).mono ?_
  rintro e w5 ⟨rfl, b5⟩
  have X1 := (X1.past _).keep b5
  have X2 := (Box.newAt (w := w4) (n := w4.heap.size) rfl 25 #[.int .i64 3, .int .i64 1, .int .i64 2, .bool true]).keep b5
  have B5 : Hid (Below w.heap.size w w5) := bel_trans (bel_alloc B4.out _) b5
  clear b5 B4
  obtain ⟨-, q1, -, -, -, -, l1⟩ := X1.three
  obtain ⟨-, -, p2, p3, -, -, -, -, l2⟩ := X2.four
  go_wp2
  go_ret
  exact ⟨rfl, bel_alloc B5.out _⟩
end Go.Proofs.Ytefcdcneenjbgab
