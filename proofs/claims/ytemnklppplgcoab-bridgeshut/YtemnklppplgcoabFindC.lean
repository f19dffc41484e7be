/-
  slices.IndexFunc with the closure of isOf, and cache.Find: which line it is; nothing that was there turns.
-/
import Derived.Test.YtemnklppplgcoabIs
namespace Go.Proofs.Ytemnklppplgcoab
open Go.RowKit

set_option maxHeartbeats 1000000 in
theorem indexFunc_any (v : Value) (l : List Ln) (n m : Nat) (d p : Int) (w : World) (h : Ls w v l) (h1 : w.cell? ⟨n, 0, none⟩ = some (.int .i64 d)) (h2 : w.cell? ⟨m, 0, none⟩ = some (.int .i64 p)) (l1 : n < w.heap.size) (l2 : m < w.heap.size) :
    Calls Try.prog 68 #[v, .func (.func 90) #[] #[.pointer (some ⟨n, 0, none⟩), .pointer (some ⟨m, 0, none⟩)]] w fun e w' => e = .returned (.int .i64 (fndC l d p)) ∧ Below w.heap.size w w' := by
  obtain ⟨a, cap, rfl, hl, hm, h⟩ := h
  unfold maxLen at hm
  rcases h with rfl | ⟨b, o, rfl, hb, hc⟩
  · go_enter Try.func68, Try.ntmps68
    go_wp2
    go_loopw [5, 8] (fun _ i w' => i = .int .i64 0 ∧ w' = w) (fun _ i _ => 0)
    case atStart => exact ⟨rfl, rfl⟩
    case round =>
      obtain ⟨rfl, rfl⟩ := hrel
      go_wp2
      go_ret
      exact ⟨ret_int (fndC_none (fun j hj => absurd hj (Nat.not_lt_zero _))).symm, Below.refl _ _⟩
  · have HC : Hid _ := hc
    have H1 : Hid _ := h1
    have H2 : Hid _ := h2
    clear hc h1 h2
    go_enter Try.func68, Try.ntmps68
    go_wp2
    go_loopw [5, 8] (fun _ i w' => ∃ k : Nat, k ≤ l.length ∧ i = .int .i64 k ∧ (∀ j, j < k → hasB d p (lth l j) = false) ∧ Below w.heap.size w w') (fun _ i _ => l.length - (intOf i).toNat)
    case atStart => exact ⟨0, Nat.zero_le _, rfl, fun j hj => absurd hj (Nat.not_lt_zero _), Below.refl _ _⟩
    case round =>
      obtain ⟨k, hk, rfl, hpre, hB⟩ := hrel
      have HP : Hid _ := hpre
      have HB : Hid _ := hB
      by_cases hlt : k < l.length
      · obtain ⟨g0, g1, g2, g3, g4⟩ := (HC.out k hlt).keep hB hb
        have c1 : Hid (wr.cell? ⟨n, 0, none⟩ = _) := ((bcell hB).1 n 0 l1).trans H1.out
        have c2 : Hid (wr.cell? ⟨m, 0, none⟩ = _) := ((bcell hB).1 m 0 l2).trans H2.out
        have s1 : n < wr.heap.size := Nat.lt_of_lt_of_le l1 hB.size
        have s2 : m < wr.heap.size := Nat.lt_of_lt_of_le l2 hB.size
        have hb' : b < wr.heap.size := Nat.lt_of_lt_of_le hb hB.size
        obtain ⟨y, hy⟩ : ∃ y, y = lth l k := ⟨_, rfl⟩
        have HY : Hid _ := hy
        rw [← hy] at g0 g1 g2 g3 g4
        clear hy hpre hB
        obtain ⟨d1, p1, a1, r1, x1⟩ := y
        simp only at g0 g1 g2 g3 g4
        have hlt1 : (k : Int) < l.length := by omega
        go_wp2_with fail
        refine (is_any n m d p d1 p1 a1 r1 x1 wr c1.out c2.out s1 s2).mono ?_
        rintro e w1 ⟨rfl, ob, rfl⟩
        cases hh : hasB d p (d1, p1, a1, r1, x1)
        · have HN : Hid (hasB d p (lth l k) = false) := by show _ = _; rw [← HY.out]; exact hh
          go_wp2
          exact ⟨⟨k + 1, by omega, by go_num, upto_next HP.out HN.out, bel_alloc HB.out _⟩, by simp [intOf]; omega⟩
        · have HF : Hid (fndC l d p = k) := fndC_at hlt (by rw [← HY.out]; exact hh) HP.out
          go_wp2
          go_ret
          exact ⟨ret_int HF.out.symm, bel_alloc HB.out _⟩
      · have HF : Hid (fndC l d p = -1) := fndC_none fun j hj => HP.out j (by omega)
        clear hpre hB
        go_wp2
        go_ret
        exact ⟨ret_int HF.out.symm, HB.out⟩

set_option maxHeartbeats 1000000 in
theorem cFind_any (v : Value) (l : List Ln) (d p : Int) (w : World) (h : Ls w v l) :
    Calls Try.prog 36 #[v, .int .i64 d, .int .i64 p] w fun e w' => e = .returned (.int .i64 (fndC l d p)) ∧ Below w.heap.size w w' := by
  go_enter Try.func36, Try.ntmps36
  go_wp2_with fail
  refine (isOf_any _ _ _).mono ?_
  rintro e w1 ⟨rfl, rfl⟩
  have B1 : Hid (Below w.heap.size w ((w.alloc (.cells #[.int .i64 d] 3)).alloc (.cells #[.int .i64 p] 3))) := bel_alloc (bel_alloc (Below.refl _ _) _) _
  go_wp2_with fail
  refine (indexFunc_any v l w.heap.size (w.heap.size + 1) d p _ (h.keep B1.out) ?_ ?_ ?_ ?_).mono ?_
  · simp [go_sem]
  · simp [go_sem]
  · simp; omega
  · simp
  rintro e w2 ⟨rfl, b2⟩
  go_wp2
  go_ret
  exact ⟨rfl, bel_trans B1.out b2⟩
end Go.Proofs.Ytemnklppplgcoab
