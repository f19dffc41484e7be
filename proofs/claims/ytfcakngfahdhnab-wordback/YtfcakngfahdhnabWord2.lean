/-
  What PutOrder, PutFault answer, and drawbridgeref's OrderWord, FaultWord: the same; none turns memory that was there.
-/
import Derived.Test.YtfcakngfahdhnabWord1
namespace Go.Proofs.Ytfcakngfahdhnab
open Go.RowKit

theorem forO_ok {k d p : Int} (hk : 0 ≤ k ∧ k ≤ 3) (hd : 0 ≤ d ∧ d ≤ 7) (hp : 0 ≤ p ∧ p ≤ 63) (h : forO k d p = true) : oE k d p = 0 := by
  refine oE_mk hk hd hp ?_ ?_
  · intro ⟨a, b⟩
    have n3 : ¬ k = 3 := by omega
    have n2 : ¬ k = 2 := by omega
    have nd : ¬ d = 0 := by omega
    simp [forO, n3, n2, nd] at h
  · intro ⟨a, b⟩
    have n3 : ¬ k = 3 := by omega
    have np : ¬ p = 0 := by omega
    by_cases n2 : k = 2 <;> simp [forO, n3, n2, np] at h
theorem forO_bad {k d p : Int} (hk : 0 ≤ k ∧ k ≤ 3) (hd : 0 ≤ d ∧ d ≤ 7) (hp : 0 ≤ p ∧ p ≤ 63) (h : forO k d p = false) : oE k d p = 3 := by
  unfold oE
  rw [if_pos ⟨hk, hd, hp⟩, if_pos]
  by_cases n3 : k = 3
  · simp [forO, n3] at h
  by_cases n2 : k = 2
  · by_cases np : p = 0
    · simp [forO, n2, np] at h
    · exact .inr (by omega)
  by_cases nd : d = 0
  · by_cases np : p = 0
    · simp [forO, n2, n3, nd, np] at h
    · exact .inr (by omega)
  · exact .inl (by omega)
theorem oE_out {k d p : Int} (h : ¬ ((0 ≤ k ∧ k ≤ 3) ∧ (0 ≤ d ∧ d ≤ 7) ∧ (0 ≤ p ∧ p ≤ 63))) : oE k d p = 2 := if_neg h
theorem oW_bad {k d p e : Int} (h : oE k d p = e) (hn : ¬ e = 0) : oW k d p = 0 := if_neg (fun x => hn (h.symm.trans x))
theorem fE_out {c d p : Int} (h : ¬ ((1 ≤ c ∧ c ≤ 5) ∧ (0 ≤ d ∧ d ≤ 7) ∧ (0 ≤ p ∧ p ≤ 63))) : fE c d p = 2 := if_neg h
theorem fW_bad {c d p : Int} {x : Bool} (h : fE c d p = 2) : fW c d p x = 0 := if_neg (by rw [h]; decide)

set_option maxHeartbeats 1000000 in
theorem putOrder_any (k d p : Int) (w : World) :
    Calls Try.prog 5 #[.agg #[.int .i64 k, .int .i64 d, .int .i64 p]] w fun e w' => e = .returned (.tuple #[.int .i64 (oW k d p), .int .i64 (oE k d p)]) ∧ Below w.heap.size w w' := by
  by_cases k0 : k < 0
  · have he : oE k d p = 2 := oE_out (by omega)
    rw [oW_bad he (by decide), he]
    clear he
    go_enter Try.func5, Try.ntmps5
    go_wp2
    go_ret2
    exact ⟨rfl, bel_alloc (Below.refl _ _) _⟩
  by_cases k1 : 3 < k
  · have he : oE k d p = 2 := oE_out (by omega)
    rw [oW_bad he (by decide), he]
    clear he
    go_enter Try.func5, Try.ntmps5
    go_wp2
    go_ret2
    exact ⟨rfl, bel_alloc (Below.refl _ _) _⟩
  cases hd : betweenB 0 7 d
  · have hd' : ¬ (0 ≤ d ∧ d ≤ 7) := of_decide_eq_false hd
    have he : oE k d p = 2 := oE_out (by omega)
    rw [oW_bad he (by decide), he]
    clear he hd'
    go_enter Try.func5, Try.ntmps5
    go_wp2_with fail
    refine (oIsDev_any _ _).mono ?_
    rintro e w1 ⟨rfl, rfl⟩
    rw [hd]
    go_wp2
    go_ret2
    exact ⟨rfl, bel_alloc (Below.refl _ _) _⟩
  have hd' := of_between hd
  cases hp : betweenB 0 63 p
  · have hp' : ¬ (0 ≤ p ∧ p ≤ 63) := of_decide_eq_false hp
    have he : oE k d p = 2 := oE_out (by omega)
    rw [oW_bad he (by decide), he]
    clear he hd' hp'
    go_enter Try.func5, Try.ntmps5
    go_wp2_with fail
    refine (oIsDev_any _ _).mono ?_
    rintro e w1 ⟨rfl, rfl⟩
    rw [hd]
    go_wp2_with fail
    refine (oIsPage_any _ _).mono ?_
    rintro e w1 ⟨rfl, rfl⟩
    rw [hp]
    go_wp2
    go_ret2
    exact ⟨rfl, bel_alloc (Below.refl _ _) _⟩
  have hp' := of_between hp
  cases hf : forO k d p
  · have he : oE k d p = 3 := forO_bad (by omega) hd' hp' hf
    rw [oW_bad he (by decide), he]
    clear he hd' hp'
    go_enter Try.func5, Try.ntmps5
    go_wp2_with fail
    refine (oIsDev_any _ _).mono ?_
    rintro e w1 ⟨rfl, rfl⟩
    rw [hd]
    go_wp2_with fail
    refine (oIsPage_any _ _).mono ?_
    rintro e w1 ⟨rfl, rfl⟩
    rw [hp]
    go_wp2_with fail
    refine (isOrder_any _ _ _ _).mono ?_
    rintro e w1 ⟨rfl, o1, rfl⟩
    rw [hf]
    go_wp2
    go_ret2
    exact ⟨rfl, bel_alloc (bel_alloc (Below.refl _ _) _) _⟩
  · have he : oE k d p = 0 := forO_ok (by omega) hd' hp' hf
    rw [oW_ok he, he]
    clear he
    obtain ⟨d0, d1⟩ := hd'
    obtain ⟨p0, p1⟩ := hp'
    go_enter Try.func5, Try.ntmps5
    go_wp2_with fail
    refine (oIsDev_any _ _).mono ?_
    rintro e w1 ⟨rfl, rfl⟩
    rw [hd]
    go_wp2_with fail
    refine (oIsPage_any _ _).mono ?_
    rintro e w1 ⟨rfl, rfl⟩
    rw [hp]
    go_wp2_with fail
    refine (isOrder_any _ _ _ _).mono ?_
    rintro e w1 ⟨rfl, o1, rfl⟩
    rw [hf]
    go_wp2
    go_ret2
    exact ⟨rfl, bel_alloc (bel_alloc (Below.refl _ _) _) _⟩

set_option maxHeartbeats 1000000 in
theorem putFault_any (c d p : Int) (x : Bool) (w : World) :
    Calls Try.prog 7 #[.agg #[.int .i64 c, .int .i64 d, .int .i64 p, .bool x]] w fun e w' => e = .returned (.tuple #[.int .i64 (fW c d p x), .int .i64 (fE c d p)]) ∧ Below w.heap.size w w' := by
  by_cases k0 : c < 1
  · have he : fE c d p = 2 := fE_out (by omega)
    rw [fW_bad he, he]
    clear he
    go_enter Try.func7, Try.ntmps7
    go_wp2
    go_ret2
    exact ⟨rfl, bel_alloc (Below.refl _ _) _⟩
  by_cases k1 : 5 < c
  · have he : fE c d p = 2 := fE_out (by omega)
    rw [fW_bad he, he]
    clear he
    go_enter Try.func7, Try.ntmps7
    go_wp2
    go_ret2
    exact ⟨rfl, bel_alloc (Below.refl _ _) _⟩
  cases hd : betweenB 0 7 d
  · have hd' : ¬ (0 ≤ d ∧ d ≤ 7) := of_decide_eq_false hd
    have he : fE c d p = 2 := fE_out (by omega)
    rw [fW_bad he, he]
    clear he hd'
    go_enter Try.func7, Try.ntmps7
    go_wp2_with fail
    refine (oIsDev_any _ _).mono ?_
    rintro e w1 ⟨rfl, rfl⟩
    rw [hd]
    go_wp2
    go_ret2
    exact ⟨rfl, bel_alloc (Below.refl _ _) _⟩
  have hd' := of_between hd
  cases hp : betweenB 0 63 p
  · have hp' : ¬ (0 ≤ p ∧ p ≤ 63) := of_decide_eq_false hp
    have he : fE c d p = 2 := fE_out (by omega)
    rw [fW_bad he, he]
    clear he hd' hp'
    go_enter Try.func7, Try.ntmps7
    go_wp2_with fail
    refine (oIsDev_any _ _).mono ?_
    rintro e w1 ⟨rfl, rfl⟩
    rw [hd]
    go_wp2_with fail
    refine (oIsPage_any _ _).mono ?_
    rintro e w1 ⟨rfl, rfl⟩
    rw [hp]
    go_wp2
    go_ret2
    exact ⟨rfl, bel_alloc (Below.refl _ _) _⟩
  have hp' := of_between hp
  have he : fE c d p = 0 := fE_mk (by omega) hd' hp'
  rw [fW_ok he, he]
  clear he
  obtain ⟨d0, d1⟩ := hd'
  obtain ⟨p0, p1⟩ := hp'
  cases x
  · rw [show fX false = 0 from rfl, Int.add_zero]
    go_enter Try.func7, Try.ntmps7
    go_wp2_with fail
    refine (oIsDev_any _ _).mono ?_
    rintro e w1 ⟨rfl, rfl⟩
    rw [hd]
    go_wp2_with fail
    refine (oIsPage_any _ _).mono ?_
    rintro e w1 ⟨rfl, rfl⟩
    rw [hp]
    go_wp2
    go_ret2
    exact ⟨rfl, bel_alloc (Below.refl _ _) _⟩
  · rw [show fX true = 4096 from rfl]
    go_enter Try.func7, Try.ntmps7
    go_wp2_with fail
    refine (oIsDev_any _ _).mono ?_
    rintro e w1 ⟨rfl, rfl⟩
    rw [hd]
    go_wp2_with fail
    refine (oIsPage_any _ _).mono ?_
    rintro e w1 ⟨rfl, rfl⟩
    rw [hp]
    go_wp2
    go_ret2
    exact ⟨rfl, bel_alloc (Below.refl _ _) _⟩

/-- The reference's. -/
theorem oE_form {k d p : Int} (hk : 0 ≤ k ∧ k ≤ 3) (hd : 0 ≤ d ∧ d ≤ 7) (hp : 0 ≤ p ∧ p ≤ 63) (h : (0 < d ∧ k < 2) ∨ (0 < p ∧ k < 3)) : oE k d p = 3 := by
  unfold oE; rw [if_pos ⟨hk, hd, hp⟩, if_pos h]

set_option maxHeartbeats 1000000 in
theorem orderWord_any (k d p : Int) (w : World) :
    Calls Try.prog 9 #[.agg #[.int .i64 k, .int .i64 d, .int .i64 p]] w fun e w' => e = .returned (.tuple #[.int .i64 (oW k d p), .int .i64 (oE k d p)]) ∧ Below w.heap.size w w' := by
  cases hk : betweenB 0 3 k
  · have hk' : ¬ (0 ≤ k ∧ k ≤ 3) := of_decide_eq_false hk
    have he : oE k d p = 2 := oE_out (fun h => hk' h.1)
    rw [oW_bad he (by decide), he]
    clear he hk'
    go_enter Try.func9, Try.ntmps9
    go_wp2_with fail
    refine (in_any _ _ _ _).mono ?_
    rintro e w1 ⟨rfl, rfl⟩
    rw [hk]
    go_wp2
    go_ret2
    exact ⟨rfl, bel_alloc (Below.refl _ _) _⟩
  have hk' := of_between hk
  cases hd : betweenB 0 7 d
  · have hd' : ¬ (0 ≤ d ∧ d ≤ 7) := of_decide_eq_false hd
    have he : oE k d p = 2 := oE_out (fun h => hd' h.2.1)
    rw [oW_bad he (by decide), he]
    clear he hd' hk'
    go_enter Try.func9, Try.ntmps9
    go_wp2_with fail
    refine (in_any _ _ _ _).mono ?_
    rintro e w1 ⟨rfl, rfl⟩
    rw [hk]
    go_wp2_with fail
    refine (in_any _ _ _ _).mono ?_
    rintro e w1 ⟨rfl, rfl⟩
    rw [hd]
    go_wp2
    go_ret2
    exact ⟨rfl, bel_alloc (Below.refl _ _) _⟩
  have hd' := of_between hd
  cases hp : betweenB 0 63 p
  · have hp' : ¬ (0 ≤ p ∧ p ≤ 63) := of_decide_eq_false hp
    have he : oE k d p = 2 := oE_out (fun h => hp' h.2.2)
    rw [oW_bad he (by decide), he]
    clear he hd' hk' hp'
    go_enter Try.func9, Try.ntmps9
    go_wp2_with fail
    refine (in_any _ _ _ _).mono ?_
    rintro e w1 ⟨rfl, rfl⟩
    rw [hk]
    go_wp2_with fail
    refine (in_any _ _ _ _).mono ?_
    rintro e w1 ⟨rfl, rfl⟩
    rw [hd]
    go_wp2_with fail
    refine (in_any _ _ _ _).mono ?_
    rintro e w1 ⟨rfl, rfl⟩
    rw [hp]
    go_wp2
    go_ret2
    exact ⟨rfl, bel_alloc (Below.refl _ _) _⟩
  have hp' := of_between hp
  obtain ⟨k0, k1⟩ := hk'
  obtain ⟨d0, d1⟩ := hd'
  obtain ⟨p0, p1⟩ := hp'
  have oneB : (0 < d ∧ k < 2) ∨ (0 < d ∧ ¬ k < 2 ∧ 0 < p ∧ k < 3) ∨ (¬ 0 < d ∧ 0 < p ∧ k < 3) ∨ (0 < d ∧ ¬ k < 2 ∧ ¬ 0 < p) ∨ (¬ 0 < d ∧ ¬ 0 < p) ∨ (0 < d ∧ ¬ k < 2 ∧ 0 < p ∧ ¬ k < 3) ∨ (¬ 0 < d ∧ 0 < p ∧ ¬ k < 3) := by omega
  rcases oneB with ⟨a1, a2⟩ | ⟨a1, a2, a3, a4⟩ | ⟨a1, a3, a4⟩ | ⟨a1, a2, a3⟩ | ⟨a1, a3⟩ | ⟨a1, a2, a3, a4⟩ | ⟨a1, a3, a4⟩
  · rw [oW_bad (oE_form ⟨k0, k1⟩ ⟨d0, d1⟩ ⟨p0, p1⟩ (by omega)) (by decide), oE_form ⟨k0, k1⟩ ⟨d0, d1⟩ ⟨p0, p1⟩ (by omega)]
    go_enter Try.func9, Try.ntmps9
    go_wp2_with fail
    refine (in_any _ _ _ _).mono ?_
    rintro e w1 ⟨rfl, rfl⟩
    rw [hk]
    go_wp2_with fail
    refine (in_any _ _ _ _).mono ?_
    rintro e w1 ⟨rfl, rfl⟩
    rw [hd]
    go_wp2_with fail
    refine (in_any _ _ _ _).mono ?_
    rintro e w1 ⟨rfl, rfl⟩
    rw [hp]
    go_wp2
    go_ret2
    exact ⟨rfl, bel_alloc (Below.refl _ _) _⟩
  · rw [oW_bad (oE_form ⟨k0, k1⟩ ⟨d0, d1⟩ ⟨p0, p1⟩ (by omega)) (by decide), oE_form ⟨k0, k1⟩ ⟨d0, d1⟩ ⟨p0, p1⟩ (by omega)]
    go_enter Try.func9, Try.ntmps9
    go_wp2_with fail
    refine (in_any _ _ _ _).mono ?_
    rintro e w1 ⟨rfl, rfl⟩
    rw [hk]
    go_wp2_with fail
    refine (in_any _ _ _ _).mono ?_
    rintro e w1 ⟨rfl, rfl⟩
    rw [hd]
    go_wp2_with fail
    refine (in_any _ _ _ _).mono ?_
    rintro e w1 ⟨rfl, rfl⟩
    rw [hp]
    go_wp2
    go_ret2
    exact ⟨rfl, bel_alloc (Below.refl _ _) _⟩
  · rw [oW_bad (oE_form ⟨k0, k1⟩ ⟨d0, d1⟩ ⟨p0, p1⟩ (by omega)) (by decide), oE_form ⟨k0, k1⟩ ⟨d0, d1⟩ ⟨p0, p1⟩ (by omega)]
    go_enter Try.func9, Try.ntmps9
    go_wp2_with fail
    refine (in_any _ _ _ _).mono ?_
    rintro e w1 ⟨rfl, rfl⟩
    rw [hk]
    go_wp2_with fail
    refine (in_any _ _ _ _).mono ?_
    rintro e w1 ⟨rfl, rfl⟩
    rw [hd]
    go_wp2_with fail
    refine (in_any _ _ _ _).mono ?_
    rintro e w1 ⟨rfl, rfl⟩
    rw [hp]
    go_wp2
    go_ret2
    exact ⟨rfl, bel_alloc (Below.refl _ _) _⟩
  · rw [oW_ok (oE_mk ⟨k0, k1⟩ ⟨d0, d1⟩ ⟨p0, p1⟩ (by omega) (by omega)), oE_mk ⟨k0, k1⟩ ⟨d0, d1⟩ ⟨p0, p1⟩ (by omega) (by omega)]
    go_enter Try.func9, Try.ntmps9
    go_wp2_with fail
    refine (in_any _ _ _ _).mono ?_
    rintro e w1 ⟨rfl, rfl⟩
    rw [hk]
    go_wp2_with fail
    refine (in_any _ _ _ _).mono ?_
    rintro e w1 ⟨rfl, rfl⟩
    rw [hd]
    go_wp2_with fail
    refine (in_any _ _ _ _).mono ?_
    rintro e w1 ⟨rfl, rfl⟩
    rw [hp]
    go_wp2
    go_ret2
    exact ⟨rfl, bel_alloc (Below.refl _ _) _⟩
  · rw [oW_ok (oE_mk ⟨k0, k1⟩ ⟨d0, d1⟩ ⟨p0, p1⟩ (by omega) (by omega)), oE_mk ⟨k0, k1⟩ ⟨d0, d1⟩ ⟨p0, p1⟩ (by omega) (by omega)]
    go_enter Try.func9, Try.ntmps9
    go_wp2_with fail
    refine (in_any _ _ _ _).mono ?_
    rintro e w1 ⟨rfl, rfl⟩
    rw [hk]
    go_wp2_with fail
    refine (in_any _ _ _ _).mono ?_
    rintro e w1 ⟨rfl, rfl⟩
    rw [hd]
    go_wp2_with fail
    refine (in_any _ _ _ _).mono ?_
    rintro e w1 ⟨rfl, rfl⟩
    rw [hp]
    go_wp2
    go_ret2
    exact ⟨rfl, bel_alloc (Below.refl _ _) _⟩
  · rw [oW_ok (oE_mk ⟨k0, k1⟩ ⟨d0, d1⟩ ⟨p0, p1⟩ (by omega) (by omega)), oE_mk ⟨k0, k1⟩ ⟨d0, d1⟩ ⟨p0, p1⟩ (by omega) (by omega)]
    go_enter Try.func9, Try.ntmps9
    go_wp2_with fail
    refine (in_any _ _ _ _).mono ?_
    rintro e w1 ⟨rfl, rfl⟩
    rw [hk]
    go_wp2_with fail
    refine (in_any _ _ _ _).mono ?_
    rintro e w1 ⟨rfl, rfl⟩
    rw [hd]
    go_wp2_with fail
    refine (in_any _ _ _ _).mono ?_
    rintro e w1 ⟨rfl, rfl⟩
    rw [hp]
    go_wp2
    go_ret2
    exact ⟨rfl, bel_alloc (Below.refl _ _) _⟩
  · rw [oW_ok (oE_mk ⟨k0, k1⟩ ⟨d0, d1⟩ ⟨p0, p1⟩ (by omega) (by omega)), oE_mk ⟨k0, k1⟩ ⟨d0, d1⟩ ⟨p0, p1⟩ (by omega) (by omega)]
    go_enter Try.func9, Try.ntmps9
    go_wp2_with fail
    refine (in_any _ _ _ _).mono ?_
    rintro e w1 ⟨rfl, rfl⟩
    rw [hk]
    go_wp2_with fail
    refine (in_any _ _ _ _).mono ?_
    rintro e w1 ⟨rfl, rfl⟩
    rw [hd]
    go_wp2_with fail
    refine (in_any _ _ _ _).mono ?_
    rintro e w1 ⟨rfl, rfl⟩
    rw [hp]
    go_wp2
    go_ret2
    exact ⟨rfl, bel_alloc (Below.refl _ _) _⟩

set_option maxHeartbeats 1000000 in
theorem faultWord_any (c d p : Int) (x : Bool) (w : World) :
    Calls Try.prog 11 #[.agg #[.int .i64 c, .int .i64 d, .int .i64 p, .bool x]] w fun e w' => e = .returned (.tuple #[.int .i64 (fW c d p x), .int .i64 (fE c d p)]) ∧ Below w.heap.size w w' := by
  cases hk : betweenB 1 5 c
  · have hk' : ¬ (1 ≤ c ∧ c ≤ 5) := of_decide_eq_false hk
    have he : fE c d p = 2 := fE_out (fun h => hk' h.1)
    rw [fW_bad he, he]
    clear he hk'
    go_enter Try.func11, Try.ntmps11
    go_wp2_with fail
    refine (in_any _ _ _ _).mono ?_
    rintro e w1 ⟨rfl, rfl⟩
    rw [hk]
    go_wp2
    go_ret2
    exact ⟨rfl, bel_alloc (Below.refl _ _) _⟩
  have hk' := of_between hk
  cases hd : betweenB 0 7 d
  · have hd' : ¬ (0 ≤ d ∧ d ≤ 7) := of_decide_eq_false hd
    have he : fE c d p = 2 := fE_out (fun h => hd' h.2.1)
    rw [fW_bad he, he]
    clear he hd' hk'
    go_enter Try.func11, Try.ntmps11
    go_wp2_with fail
    refine (in_any _ _ _ _).mono ?_
    rintro e w1 ⟨rfl, rfl⟩
    rw [hk]
    go_wp2_with fail
    refine (in_any _ _ _ _).mono ?_
    rintro e w1 ⟨rfl, rfl⟩
    rw [hd]
    go_wp2
    go_ret2
    exact ⟨rfl, bel_alloc (Below.refl _ _) _⟩
  have hd' := of_between hd
  cases hp : betweenB 0 63 p
  · have hp' : ¬ (0 ≤ p ∧ p ≤ 63) := of_decide_eq_false hp
    have he : fE c d p = 2 := fE_out (fun h => hp' h.2.2)
    rw [fW_bad he, he]
    clear he hd' hk' hp'
    go_enter Try.func11, Try.ntmps11
    go_wp2_with fail
    refine (in_any _ _ _ _).mono ?_
    rintro e w1 ⟨rfl, rfl⟩
    rw [hk]
    go_wp2_with fail
    refine (in_any _ _ _ _).mono ?_
    rintro e w1 ⟨rfl, rfl⟩
    rw [hd]
    go_wp2_with fail
    refine (in_any _ _ _ _).mono ?_
    rintro e w1 ⟨rfl, rfl⟩
    rw [hp]
    go_wp2
    go_ret2
    exact ⟨rfl, bel_alloc (Below.refl _ _) _⟩
  have hp' := of_between hp
  have he : fE c d p = 0 := fE_mk hk' hd' hp'
  rw [fW_ok he, he]
  clear he
  obtain ⟨k0, k1⟩ := hk'
  obtain ⟨d0, d1⟩ := hd'
  obtain ⟨p0, p1⟩ := hp'
  cases x
  · rw [show fX false = 0 from rfl, Int.add_zero]
    go_enter Try.func11, Try.ntmps11
    go_wp2_with fail
    refine (in_any _ _ _ _).mono ?_
    rintro e w1 ⟨rfl, rfl⟩
    rw [hk]
    go_wp2_with fail
    refine (in_any _ _ _ _).mono ?_
    rintro e w1 ⟨rfl, rfl⟩
    rw [hd]
    go_wp2_with fail
    refine (in_any _ _ _ _).mono ?_
    rintro e w1 ⟨rfl, rfl⟩
    rw [hp]
    go_wp2
    go_ret2
    exact ⟨rfl, bel_alloc (Below.refl _ _) _⟩
  · rw [show fX true = 4096 from rfl]
    go_enter Try.func11, Try.ntmps11
    go_wp2_with fail
    refine (in_any _ _ _ _).mono ?_
    rintro e w1 ⟨rfl, rfl⟩
    rw [hk]
    go_wp2_with fail
    refine (in_any _ _ _ _).mono ?_
    rintro e w1 ⟨rfl, rfl⟩
    rw [hd]
    go_wp2_with fail
    refine (in_any _ _ _ _).mono ?_
    rintro e w1 ⟨rfl, rfl⟩
    rw [hp]
    go_wp2
    go_ret2
    exact ⟨rfl, bel_alloc (Below.refl _ _) _⟩
end Go.Proofs.Ytfcakngfahdhnab
