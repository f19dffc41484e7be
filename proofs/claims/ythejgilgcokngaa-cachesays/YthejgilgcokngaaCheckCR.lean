/-
  drawbridgeref's CheckCache: the first thing that is wrong with lines; nothing that was there turns.
-/
import Derived.Test.YthejgilgcokngaaCheckC
import Derived.Test.YthejgilgcokngaaMapB
namespace Go.Proofs.Ythejgilgcokngaa
open Go.RowKit

/-- The number that a line is seen by. -/
def keyN (x : Ln) : Int := x.1 * 64 + x.2.1
def seenN (l : List Ln) (k : Nat) : List Int := ((l.take k).map keyN).reverse
theorem seenN_zero (l : List Ln) : seenN l 0 = [] := by simp [seenN]
theorem seenN_next {l : List Ln} {k : Nat} (h : k < l.length) : seenN l (k + 1) = keyN (lth l k) :: seenN l k := by
  unfold seenN
  rw [List.take_succ_eq_append_getElem h, List.map_append, List.reverse_append, lth_get h]
  rfl
theorem rng_of {x : Ln} (h : rngB x = true) : (0 ≤ x.1 ∧ x.1 < 8) ∧ (0 ≤ x.2.1 ∧ x.2.1 < 64) := by
  simp [rngB] at h; exact ⟨by omega, by omega⟩
theorem key_same {x y : Ln} (hx : rngB x = true) (hy : rngB y = true) : keyB x y = true ↔ keyN x = keyN y := by
  obtain ⟨a1, a2⟩ := rng_of hx
  obtain ⟨b1, b2⟩ := rng_of hy
  unfold keyB keyN
  simp only [Bool.and_eq_true, decide_eq_true_eq]
  constructor
  · rintro ⟨e1, e2⟩; rw [e1, e2]
  · intro e; constructor <;> omega
/-- Whether the number was seen is whether the line was found. -/
theorem seen_find {l : List Ln} {k : Nat} (hk : k < l.length) (h : ∀ j, j < k → errL l j = 0) (hr : rngB (lth l k) = true) : keyN (lth l k) ∈ seenN l k ↔ 0 ≤ fndC (l.take k) (lth l k).1 (lth l k).2.1 := by
  rw [← any_find, List.any_eq_true]
  unfold seenN
  rw [List.mem_reverse, List.mem_map]
  constructor
  · rintro ⟨y, hy, e⟩
    refine ⟨y, hy, ?_⟩
    obtain ⟨j, hj, rfl⟩ := List.getElem_of_mem hy
    have hj' : j < k := by simp at hj; omega
    have hz := (errL_zero.1 (h j hj')).1
    rw [lth_get (by omega)] at hz
    rw [List.getElem_take] at e ⊢
    exact (key_same hr hz).2 e.symm
  · rintro ⟨y, hy, e⟩
    refine ⟨y, hy, ?_⟩
    obtain ⟨j, hj, rfl⟩ := List.getElem_of_mem hy
    have hj' : j < k := by simp at hj; omega
    have hz := (errL_zero.1 (h j hj')).1
    rw [lth_get (by omega)] at hz
    rw [List.getElem_take] at e ⊢
    exact ((key_same hr hz).1 e).symm

set_option maxHeartbeats 1000000 in
theorem checkCache_any (v : Value) (l : List Ln) (w : World) (h : Ls w v l) :
    Calls Try.prog 41 #[v] w fun e w' => e = .returned (.int .i64 (chkC l)) ∧ Below w.heap.size w w' := by
  have hmm := @run_makeMap Try.prog
  have HL : Hid (Ls w v l) := h
  obtain ⟨a, cap, rfl, hl, hm, h⟩ := h
  unfold maxLen at hm
  by_cases h6 : 6 < l.length
  · have e6 : chkC l = 1 := chkC_many h6
    rw [e6]
    have h6' : (6 : Int) < l.length := by omega
    go_enter Try.func41, Try.ntmps41
    go_wp2
    go_ret
    exact ⟨rfl, Below.refl _ _⟩
  have h6' : ¬ (6 : Int) < l.length := by omega
  have hmz : (l.length : Int) ≤ 6 := by omega
  rcases h with rfl | ⟨b, o, rfl, hb, hc⟩
  · go_enter Try.func41, Try.ntmps41
    go_wp2
    go_loopw [5, 12] (fun _ i w' => i = .int .i64 0 ∧ Below w.heap.size w w') (fun _ i _ => 0)
    case atStart => exact ⟨rfl, bel_alloc (Below.refl _ _) _⟩
    case round =>
      obtain ⟨rfl, hB⟩ := hrel
      go_wp2
      go_ret
      exact ⟨ret_int (chkC_all h6 (fun j hj => absurd hj (Nat.not_lt_zero _))).symm, hB⟩
  · have HC : Hid _ := hc
    clear hc
    go_enter Try.func41, Try.ntmps41
    go_wp2
    go_loopw [5, 12] (fun _ i w' => ∃ k : Nat, k ≤ l.length ∧ i = .int .i64 k ∧ (∀ j, j < k → errL l j = 0) ∧ Seen w' w.heap.size k (seenN l k) ∧ Below w.heap.size w w') (fun _ i _ => l.length - (intOf i).toNat)
    case atStart => exact ⟨0, Nat.zero_le _, rfl, fun j hj => absurd hj (Nat.not_lt_zero _), by rw [seenN_zero]; exact Seen.new w, bel_alloc (Below.refl _ _) _⟩
    case round =>
      obtain ⟨k, hk, rfl, hpre, hS, hB⟩ := hrel
      have HP : Hid _ := hpre
      have HB : Hid _ := hB
      by_cases hlt : k < l.length
      · obtain ⟨g0, g1, g2, g3, g4⟩ := (HC.out k hlt).keep hB hb
        have hb' : b < wr.heap.size := Nat.lt_of_lt_of_le hb hB.size
        obtain ⟨y, hy⟩ : ∃ y, y = lth l k := ⟨_, rfl⟩
        have HY : Hid _ := hy
        rw [← hy] at g0 g1 g2 g3 g4
        clear hy hpre hB
        obtain ⟨d1, p1, a1, r1, x1⟩ := y
        simp only at g0 g1 g2 g3 g4
        have hlt1 : (k : Int) < l.length := by omega
        have hk6 : k < 1000 := by omega
        have hsz : w.heap.size < wr.heap.size := hS.lt
        have HS : Hid _ := hS
        clear hS
        have HW : Hid (own (d1, p1, a1, r1, x1) = if (devB d1 && pgB p1 && pgB a1) = true then (if r1 = true then 0 else 3) else 2) := rfl
        by_cases ho : own (d1, p1, a1, r1, x1) = 0
        rotate_left
        · have HE : Hid (chkC l = own (d1, p1, a1, r1, x1)) := chkC_at h6 hlt HP.out (by have := errL_own (l := l) (k := k) (by rw [← HY.out]; exact ho); rw [this, ← HY.out]) ho
          cases e1 : devB d1
          · have H2 : Hid (chkC l = 2) := by show _ = _; rw [HE.out, HW.out, e1]; rfl
            go_wp2_with (first | (go_at_call 47; refine (cIn_any _ _ _ _).mono ?_; rintro e w1 ⟨rfl, rfl⟩; first | rw [in_dev, e1] | rw [in_page]))
            go_ret
            exact ⟨ret_int H2.out.symm, bel_alloc HB.out _⟩
          cases e2 : pgB p1
          · have H2 : Hid (chkC l = 2) := by show _ = _; rw [HE.out, HW.out, e1, e2]; rfl
            go_wp2_with (first | (go_at_call 47; refine (cIn_any _ _ _ _).mono ?_; rintro e w1 ⟨rfl, rfl⟩; first | rw [in_dev, e1] | rw [in_page, e2]))
            go_ret
            exact ⟨ret_int H2.out.symm, bel_alloc HB.out _⟩
          cases e3 : pgB a1
          · have H2 : Hid (chkC l = 2) := by show _ = _; rw [HE.out, HW.out, e1, e2, e3]; rfl
            go_wp2_with (first | (go_at_call 47; refine (cIn_any _ _ _ _).mono ?_; rintro e w1 ⟨rfl, rfl⟩; first | rw [in_dev, e1] | rw [in_page, e2] | rw [in_page, e3]))
            go_ret
            exact ⟨ret_int H2.out.symm, bel_alloc HB.out _⟩
          cases r1
          rotate_left
          · exact absurd (by rw [HW.out, e1, e2, e3]; rfl) ho
          have H2 : Hid (chkC l = 3) := by show _ = _; rw [HE.out, HW.out, e1, e2, e3]; rfl
          go_wp2_with (first | (go_at_call 47; refine (cIn_any _ _ _ _).mono ?_; rintro e w1 ⟨rfl, rfl⟩; first | rw [in_dev, e1] | rw [in_page, e2] | rw [in_page, e3]))
          go_ret
          exact ⟨ret_int H2.out.symm, bel_alloc HB.out _⟩
        have hw := HW.out
        rw [ho] at hw
        have e1 : devB d1 = true := by cases e : devB d1; (· rw [e] at hw; simp at hw); rfl
        have e2 : pgB p1 = true := by cases e : pgB p1; (· rw [e] at hw; simp at hw); rfl
        have e3 : pgB a1 = true := by cases e : pgB a1; (· rw [e] at hw; simp at hw); rfl
        have e4 : r1 = true := by rw [e1, e2, e3] at hw; cases r1; (· simp at hw); rfl
        subst e4
        clear hw HW
        have hd : 0 ≤ d1 ∧ d1 < 8 := by simpa [devB] using e1
        have hp : 0 ≤ p1 ∧ p1 < 64 := by simpa [pgB] using e2
        obtain ⟨hd0, hd1⟩ := hd
        obtain ⟨hp0, hp1⟩ := hp
        have HR : Hid (rngB (lth l k) = true) := by show _ = _; rw [← HY.out, rng_split, e1, e2, e3]; rfl
        have HS1 : ∀ ob, Seen (wr.alloc ob) w.heap.size k (seenN l k) := fun ob => Seen.keep HS.out (bel_alloc (Below.refl _ _) _)
        have HS2 : Hid _ := HS1
        clear HS1
        have HN : Hid (keyN (lth l k) = d1 * 64 + p1) := by show _ = _; rw [← HY.out]; rfl
        by_cases hin : d1 * 64 + p1 ∈ seenN l k
        · have HE : Hid (chkC l = 5) := chkC_at h6 hlt HP.out (errL_twice (by rw [← HY.out]; exact ho) ((seen_find hlt HP.out HR.out).1 (by rw [HN.out]; exact hin))) (by decide)
          go_wp2_with (first | (go_at_call 47; refine (cIn_any _ _ _ _).mono ?_; rintro e w1 ⟨rfl, rfl⟩; first | rw [in_dev, e1] | rw [in_page, e2] | rw [in_page, e3]) | (at_lookup; refine wpList_seen rfl _ _ rfl w.heap.size k (seenN l k) rfl (HS2.out _) (d1 * 64 + p1) (by first | rfl | simp) (by omega) (by omega) ?_; rw [decide_eq_true hin]))
          go_ret
          exact ⟨ret_int HE.out.symm, bel_alloc HB.out _⟩
        · have HE : Hid (errL l k = 0) := errL_fine (by rw [← HY.out]; exact ho) (fun hf => hin (by rw [← HN.out]; exact (seen_find hlt HP.out HR.out).2 hf))
          have HQ : Hid (seenN l (k + 1) = (d1 * 64 + p1) :: seenN l k) := by show _ = _; rw [seenN_next hlt, HN.out]
          go_wp2_with (first | (go_at_call 47; refine (cIn_any _ _ _ _).mono ?_; rintro e w1 ⟨rfl, rfl⟩; first | rw [in_dev, e1] | rw [in_page, e2] | rw [in_page, e3]) | (at_lookup; refine wpList_seen rfl _ _ rfl w.heap.size k (seenN l k) rfl (HS2.out _) (d1 * 64 + p1) (by first | rfl | simp) (by omega) (by omega) ?_; rw [decide_eq_false hin]) | (at_mapUpdate; refine wpList_see rfl _ _ _ rfl w.heap.size k (seenN l k) rfl (HS2.out _) (d1 * 64 + p1) (by first | rfl | simp) rfl (by omega) (by omega) hk6 ?_; intro w1 hs1 hgr1))
          exact ⟨⟨k + 1, by omega, by go_num, upto_next HP.out HE.out, by rw [HQ.out]; exact hs1, (bel_alloc HB.out _).grown hgr1 (by simp; omega) (fun j hj => by cases hj; exact Nat.le_refl _)⟩, by simp [intOf]; omega⟩
      · have HF : Hid (chkC l = 0) := chkC_all h6 fun j hj => HP.out j (by omega)
        clear hpre hB hS
        go_wp2
        go_ret
        exact ⟨ret_int HF.out.symm, HB.out⟩
end Go.Proofs.Ythejgilgcokngaa
