/-
  Laid together: Is, FindC, CheckC, AppendL, FillC.
-/
import Derived.Test.YthlhocneggcekaaM1
import Derived.Test.YthlhocneggcekaaM2
import Derived.Test.YthlhocneggcekaaRows
import Derived.WalkKit
import Derived.WalkSpells
import Derived.WalkLawsBesides
import Derived.Below
import Derived.WalkSmall
import Derived.Deep.QuietTactic
import Derived.BigQuiet
import Derived.Deep.Draws
import Derived.Deep.RegionHeld3
import Derived.Deep.AppendLies
namespace Go.Proofs.Ythlhocneggcekaa
open Go.RowKit
def devB (z : Int) : Bool := decide (0 ≤ z ∧ z < 8)
def pgB (z : Int) : Bool := decide (0 ≤ z ∧ z < 64)
theorem isDev_any (z : Int) (w : World) : Calls Try.prog 51 #[.int .i64 z] w fun e w' => e = .returned (.bool (devB z)) ∧ w' = w := by
  by_cases h1 : 0 ≤ z
  · by_cases h2 : z < 8
    · have : devB z = true := by simp [devB, h1, h2]
      rw [this]
      go_enter Try.func51, Try.ntmps51
      go_wp2
      go_ret
      exact ⟨rfl, rfl⟩
    · have : devB z = false := by simp [devB, h2]
      rw [this]
      go_enter Try.func51, Try.ntmps51
      go_wp2
      go_ret
      exact ⟨rfl, rfl⟩
  · have : devB z = false := by simp [devB, h1]
    rw [this]
    go_enter Try.func51, Try.ntmps51
    go_wp2
    go_ret
    exact ⟨rfl, rfl⟩
theorem cPage_any (z : Int) (w : World) : Calls Try.prog 52 #[.int .i64 z] w fun e w' => e = .returned (.bool (pgB z)) ∧ w' = w := by
  by_cases h1 : 0 ≤ z
  · by_cases h2 : z < 64
    · have : pgB z = true := by simp [pgB, h1, h2]
      rw [this]
      go_enter Try.func52, Try.ntmps52
      go_wp2
      go_ret
      exact ⟨rfl, rfl⟩
    · have : pgB z = false := by simp [pgB, h2]
      rw [this]
      go_enter Try.func52, Try.ntmps52
      go_wp2
      go_ret
      exact ⟨rfl, rfl⟩
  · have : pgB z = false := by simp [pgB, h1]
    rw [this]
    go_enter Try.func52, Try.ntmps52
    go_wp2
    go_ret
    exact ⟨rfl, rfl⟩
def own (x : Ln) : Int := if rngB x = true then (if x.2.2.2.1 = true then 0 else 3) else 2
set_option maxHeartbeats 1000000 in
theorem checkLine_any (d p a : Int) (r x : Bool) (w : World) :
    Calls Try.prog 43 #[.agg #[.int .i64 d, .int .i64 p, .int .i64 a, .bool r, .bool x]] w fun e w' => e = .returned (.int .i64 (own (d, p, a, r, x))) ∧ ∃ o, w' = w.alloc o := by
  have ho : own (d, p, a, r, x) = if (devB d && pgB p && pgB a) = true then (if r = true then 0 else 3) else 2 := rfl
  rw [ho]
  clear ho
  cases h1 : devB d
  · go_enter Try.func43, Try.ntmps43
    go_wp2_with (first | (go_at_call 51; refine (isDev_any _ _).mono ?_; rintro e w1 ⟨rfl, rfl⟩; rw [h1]))
    go_ret
    exact ⟨rfl, _, rfl⟩
  cases h2 : pgB p
  · go_enter Try.func43, Try.ntmps43
    go_wp2_with (first | (go_at_call 51; refine (isDev_any _ _).mono ?_; rintro e w1 ⟨rfl, rfl⟩; rw [h1]) | (go_at_call 52; refine (cPage_any _ _).mono ?_; rintro e w1 ⟨rfl, rfl⟩; rw [h2]))
    go_ret
    exact ⟨rfl, _, rfl⟩
  cases h3 : pgB a
  · go_enter Try.func43, Try.ntmps43
    go_wp2_with (first | (go_at_call 51; refine (isDev_any _ _).mono ?_; rintro e w1 ⟨rfl, rfl⟩; rw [h1]) | (go_at_call 52; refine (cPage_any _ _).mono ?_; rintro e w1 ⟨rfl, rfl⟩; first | rw [h2] | rw [h3]))
    go_ret
    exact ⟨rfl, _, rfl⟩
  cases r
  all_goals
    go_enter Try.func43, Try.ntmps43
    go_wp2_with (first | (go_at_call 51; refine (isDev_any _ _).mono ?_; rintro e w1 ⟨rfl, rfl⟩; rw [h1]) | (go_at_call 52; refine (cPage_any _ _).mono ?_; rintro e w1 ⟨rfl, rfl⟩; first | rw [h2] | rw [h3]))
    go_ret
    exact ⟨rfl, _, rfl⟩
theorem is_any (n m : Nat) (d p d1 p1 a : Int) (r x : Bool) (w : World) (h1 : w.cell? ⟨n, 0, none⟩ = some (.int .i64 d)) (h2 : w.cell? ⟨m, 0, none⟩ = some (.int .i64 p)) (l1 : n < w.heap.size) (l2 : m < w.heap.size) :
    Calls Try.prog 59 #[.agg #[.int .i64 d1, .int .i64 p1, .int .i64 a, .bool r, .bool x], .pointer (some ⟨n, 0, none⟩), .pointer (some ⟨m, 0, none⟩)] w fun e w' => e = .returned (.bool (hasB d p (d1, p1, a, r, x))) ∧ ∃ o, w' = w.alloc o := by
  have ho : hasB d p (d1, p1, a, r, x) = (decide (d1 = d) && decide (p1 = p)) := rfl
  rw [ho]
  clear ho
  by_cases e1 : d1 = d
  · by_cases e2 : p1 = p
    · subst e1 e2
      go_enter Try.func59, Try.ntmps59
      go_wp2
      go_ret
      exact ⟨by simp, _, rfl⟩
    · have q1 : (d1 == d) = true := by simpa using e1
      have q2 : (p1 == p) = false := by simpa using e2
      have q3 : Hid ((decide (d1 = d) && decide (p1 = p)) = false) := by show _ = _; simp [e2]
      rw [q3.out]
      clear e1 e2 q3
      go_enter Try.func59, Try.ntmps59
      go_wp2
      go_ret
      exact ⟨rfl, _, rfl⟩
  · have q1 : (d1 == d) = false := by simpa using e1
    have q3 : Hid ((decide (d1 = d) && decide (p1 = p)) = false) := by show _ = _; simp [e1]
    rw [q3.out]
    clear e1 q3
    go_enter Try.func59, Try.ntmps59
    go_wp2
    go_ret
    exact ⟨rfl, _, rfl⟩
theorem isOf_any (d p : Int) (w : World) :
    Calls Try.prog 54 #[.int .i64 d, .int .i64 p] w fun e w' => e = .returned (.func (.func 59) #[] #[.pointer (some ⟨w.heap.size, 0, none⟩), .pointer (some ⟨w.heap.size + 1, 0, none⟩)]) ∧ w' = (w.alloc (.cells #[.int .i64 d] 3)).alloc (.cells #[.int .i64 p] 3) := by
  have hmf : ∀ (fn : Fn) (first cap : Array Value) (w : World), (Instr.makeFunc fn first cap).run Try.prog w = .ok (.func fn first cap) w := fun _ _ _ _ => rfl
  go_enter Try.func54, Try.ntmps54
  go_wp2
  go_ret
  exact ⟨rfl, rfl⟩
set_option maxHeartbeats 1000000 in
theorem indexFunc_any (v : Value) (l : List Ln) (n m : Nat) (d p : Int) (w : World) (h : Ls w v l) (h1 : w.cell? ⟨n, 0, none⟩ = some (.int .i64 d)) (h2 : w.cell? ⟨m, 0, none⟩ = some (.int .i64 p)) (l1 : n < w.heap.size) (l2 : m < w.heap.size) :
    Calls Try.prog 53 #[v, .func (.func 59) #[] #[.pointer (some ⟨n, 0, none⟩), .pointer (some ⟨m, 0, none⟩)]] w fun e w' => e = .returned (.int .i64 (fndC l d p)) ∧ Below w.heap.size w w' := by
  obtain ⟨a, cap, rfl, hl, hm, h⟩ := h
  unfold maxLen at hm
  rcases h with rfl | ⟨b, o, rfl, hb, hc⟩
  · go_enter Try.func53, Try.ntmps53
    go_wp2
    go_loopw [5, 8] (fun _ i w' => i = .int .i64 0 ∧ w' = w) (fun _ i _ => 0)
    case atStart => exact ⟨rfl, rfl⟩
    case round =>
      obtain ⟨rfl, rfl⟩ := hrel
      go_wp2
      go_ret
      exact ⟨ret_int (fndC_none (fun j hj => absurd hj (Nat.not_lt_zero _))).symm, Below.refl _ _⟩
  · have HC : Hid _ := hc
    have H1 : Hid _ := h1
    have H2 : Hid _ := h2
    clear hc h1 h2
    go_enter Try.func53, Try.ntmps53
    go_wp2
    go_loopw [5, 8] (fun _ i w' => ∃ k : Nat, k ≤ l.length ∧ i = .int .i64 k ∧ (∀ j, j < k → hasB d p (lth l j) = false) ∧ Below w.heap.size w w') (fun _ i _ => l.length - (intOf i).toNat)
    case atStart => exact ⟨0, Nat.zero_le _, rfl, fun j hj => absurd hj (Nat.not_lt_zero _), Below.refl _ _⟩
    case round =>
      obtain ⟨k, hk, rfl, hpre, hB⟩ := hrel
      have HP : Hid _ := hpre
      have HB : Hid _ := hB
      by_cases hlt : k < l.length
      · obtain ⟨g0, g1, g2, g3, g4⟩ := (HC.out k hlt).keep hB hb
        have c1 : Hid (wr.cell? ⟨n, 0, none⟩ = _) := ((bcell hB).1 n 0 l1).trans H1.out
        have c2 : Hid (wr.cell? ⟨m, 0, none⟩ = _) := ((bcell hB).1 m 0 l2).trans H2.out
        have s1 : n < wr.heap.size := Nat.lt_of_lt_of_le l1 hB.size
        have s2 : m < wr.heap.size := Nat.lt_of_lt_of_le l2 hB.size
        have hb' : b < wr.heap.size := Nat.lt_of_lt_of_le hb hB.size
        obtain ⟨y, hy⟩ : ∃ y, y = lth l k := ⟨_, rfl⟩
        have HY : Hid _ := hy
        rw [← hy] at g0 g1 g2 g3 g4
        clear hy hpre hB
        obtain ⟨d1, p1, a1, r1, x1⟩ := y
        simp only at g0 g1 g2 g3 g4
        have hlt1 : (k : Int) < l.length := by omega
        go_wp2_with fail
        refine (is_any n m d p d1 p1 a1 r1 x1 wr c1.out c2.out s1 s2).mono ?_
        rintro e w1 ⟨rfl, ob, rfl⟩
        cases hh : hasB d p (d1, p1, a1, r1, x1)
        · have HN : Hid (hasB d p (lth l k) = false) := by show _ = _; rw [← HY.out]; exact hh
          go_wp2
          exact ⟨⟨k + 1, by omega, by go_num, upto_next HP.out HN.out, bel_alloc HB.out _⟩, by simp [intOf]; omega⟩
        · have HF : Hid (fndC l d p = k) := fndC_at hlt (by rw [← HY.out]; exact hh) HP.out
          go_wp2
          go_ret
          exact ⟨ret_int HF.out.symm, bel_alloc HB.out _⟩
      · have HF : Hid (fndC l d p = -1) := fndC_none fun j hj => HP.out j (by omega)
        clear hpre hB
        go_wp2
        go_ret
        exact ⟨ret_int HF.out.symm, HB.out⟩
set_option maxHeartbeats 1000000 in
theorem cFind_any (v : Value) (l : List Ln) (d p : Int) (w : World) (h : Ls w v l) :
    Calls Try.prog 44 #[v, .int .i64 d, .int .i64 p] w fun e w' => e = .returned (.int .i64 (fndC l d p)) ∧ Below w.heap.size w w' := by
  go_enter Try.func44, Try.ntmps44
  go_wp2_with fail
  refine (isOf_any _ _ _).mono ?_
  rintro e w1 ⟨rfl, rfl⟩
  have B1 : Hid (Below w.heap.size w ((w.alloc (.cells #[.int .i64 d] 3)).alloc (.cells #[.int .i64 p] 3))) := bel_alloc (bel_alloc (Below.refl _ _) _) _
  go_wp2_with fail
  refine (indexFunc_any v l w.heap.size (w.heap.size + 1) d p _ (h.keep B1.out) ?_ ?_ ?_ ?_).mono ?_
  · simp [go_sem]
  · simp [go_sem]
  · simp; omega
  · simp
  rintro e w2 ⟨rfl, b2⟩
  go_wp2
  go_ret
  exact ⟨rfl, bel_trans B1.out b2⟩
theorem Ls.take {w : World} {a : Option Addr} {n cap : Nat} {l : List Ln} (h : Ls w (.slice a n cap) l) {k : Nat} (hk : k ≤ l.length) : Ls w (.slice a k cap) (l.take k) := by
  obtain ⟨a', cap', e, hl, hm, h⟩ := h
  simp only [Value.slice.injEq] at e
  obtain ⟨rfl, _, rfl⟩ := e
  have hn : (l.take k).length = k := by simp; omega
  refine ⟨a, cap, by rw [hn], by omega, hm, ?_⟩
  rcases h with rfl | ⟨b, o, rfl, hb, hc⟩
  · exact .inl (by simp)
  · refine .inr ⟨b, o, rfl, hb, fun i hi => ?_⟩
    rw [hn] at hi
    have : lth (l.take k) i = lth l i := by simp [lth, hi]
    rw [this]
    exact hc i (by omega)
theorem Ls.drop {w : World} {b o n cap : Nat} {l : List Ln} (h : Ls w (.slice (some ⟨b, o, none⟩) n cap) l) {k : Nat} (hk : k ≤ l.length) : Ls w (.slice (some ⟨b, o + k * 5, none⟩) (l.length - k) (cap - k)) (l.drop k) := by
  obtain ⟨a', cap', e, hl, hm, h⟩ := h
  simp only [Value.slice.injEq] at e
  obtain ⟨rfl, _, rfl⟩ := e
  have hn : (l.drop k).length = l.length - k := by simp
  refine ⟨_, cap - k, by rw [hn], by omega, by omega, ?_⟩
  rcases h with rfl | ⟨b', o', e, hb, hc⟩
  · exact .inl (by simp)
  · simp only [Option.some.injEq, Addr.mk.injEq, and_true] at e
    obtain ⟨rfl, rfl⟩ := e
    refine .inr ⟨b, o + k * 5, rfl, hb, fun i hi => ?_⟩
    rw [hn] at hi
    have hlth : lth (l.drop k) i = lth l (k + i) := by simp [lth]
    rw [hlth]
    have := hc (k + i) (by omega)
    rwa [Nat.add_mul, ← Nat.add_assoc] at this
theorem any_find (l : List Ln) (x : Ln) : l.any (keyB x) = true ↔ 0 ≤ fndC l x.1 x.2.1 := by
  have h := @fndC_neg l x.1 x.2.1
  constructor
  · intro ha
    have : ¬ fndC l x.1 x.2.1 < 0 := fun hn => by
      obtain ⟨y, hy, hk⟩ := List.any_eq_true.1 ha
      have := h.1 hn y hy
      rw [has_key, hk] at this
      exact absurd this (by decide)
    omega
  · intro h0
    cases ha : l.any (keyB x)
    · exfalso
      have : fndC l x.1 x.2.1 < 0 := h.2 fun y hy => by
        rw [has_key]
        rw [List.any_eq_false] at ha
        simpa using ha y hy
      omega
    · rfl
theorem errL_own {l : List Ln} {k : Nat} (h : ¬ own (lth l k) = 0) : errL l k = own (lth l k) := by
  unfold errL own at *
  cases h1 : rngB (lth l k)
  · simp
  · cases h2 : (lth l k).2.2.2.1
    · simp
    · simp [h1, h2] at h
theorem errL_twice {l : List Ln} {k : Nat} (h : own (lth l k) = 0) (hf : 0 ≤ fndC (l.take k) (lth l k).1 (lth l k).2.1) : errL l k = 5 := by
  unfold errL own at *
  cases h1 : rngB (lth l k)
  · simp [h1] at h
  · cases h2 : (lth l k).2.2.2.1
    · simp [h1, h2] at h
    · simp only [if_true]
      rw [if_pos ((any_find _ _).2 hf)]
theorem errL_fine {l : List Ln} {k : Nat} (h : own (lth l k) = 0) (hf : ¬ 0 ≤ fndC (l.take k) (lth l k).1 (lth l k).2.1) : errL l k = 0 := by
  unfold errL own at *
  cases h1 : rngB (lth l k)
  · simp [h1] at h
  · cases h2 : (lth l k).2.2.2.1
    · simp [h1, h2] at h
    · simp only [if_true]
      rw [if_neg fun ha => hf ((any_find _ _).1 ha)]
theorem keep2 {W w' : World} {n : Nat} {u v : Value} (h0 : W.cell? ⟨n, 0, none⟩ = some u) (h1 : W.cell? ⟨n, 1, none⟩ = some v) (hn : n < W.heap.size) (hb : Below W.heap.size W w') :
    w'.cell? ⟨n, 0, none⟩ = some u ∧ w'.cell? ⟨n, 1, none⟩ = some v ∧ Below W.heap.size W w' :=
  ⟨((bcell hb).1 n 0 hn).trans h0, ((bcell hb).1 n 1 hn).trans h1, hb⟩
set_option maxHeartbeats 1000000 in
theorem cCheck_any (v : Value) (l : List Ln) (w : World) (h : Ls w v l) :
    Calls Try.prog 36 #[v] w fun e w' => e = .returned (.int .i64 (chkC l)) ∧ Below w.heap.size w w' := by
  have HL : Hid (Ls w v l) := h
  obtain ⟨a, cap, rfl, hl, hm, h⟩ := h
  unfold maxLen at hm
  by_cases h6 : 6 < l.length
  · have e6 : chkC l = 1 := chkC_many h6
    rw [e6]
    have h6' : (6 : Int) < l.length := by omega
    go_enter Try.func36, Try.ntmps36
    go_wp2
    go_ret
    exact ⟨rfl, Below.refl _ _⟩
  have h6' : ¬ (6 : Int) < l.length := by omega
  have hmz : (l.length : Int) ≤ 6 := by omega
  rcases h with rfl | ⟨b, o, rfl, hb, hc⟩
  · go_enter Try.func36, Try.ntmps36
    go_wp2
    go_loopw [3, 4, 5, 11] (fun _ _ _ i w' => i = .int .i64 0 ∧ w' = w) (fun _ _ _ i _ => 0)
    case atStart => exact ⟨rfl, rfl⟩
    case round =>
      obtain ⟨rfl, rfl⟩ := hrel
      go_wp2
      go_ret
      exact ⟨ret_int (chkC_all h6 (fun j hj => absurd hj (Nat.not_lt_zero _))).symm, Below.refl _ _⟩
  · have HC : Hid _ := hc
    clear hc
    go_enter Try.func36, Try.ntmps36
    go_wp2
    go_loopw [3, 4, 5, 11] (fun _ _ _ i w' => ∃ k : Nat, k ≤ l.length ∧ i = .int .i64 k ∧ (∀ j, j < k → errL l j = 0) ∧ Below w.heap.size w w') (fun _ _ _ i _ => l.length - (intOf i).toNat)
    case atStart => exact ⟨0, Nat.zero_le _, rfl, fun j hj => absurd hj (Nat.not_lt_zero _), Below.refl _ _⟩
    case round =>
      obtain ⟨k, hk, rfl, hpre, hB⟩ := hrel
      have HP : Hid _ := hpre
      have HB : Hid _ := hB
      by_cases hlt : k < l.length
      · obtain ⟨g0, g1, g2, g3, g4⟩ := (HC.out k hlt).keep hB hb
        have hb' : b < wr.heap.size := Nat.lt_of_lt_of_le hb hB.size
        obtain ⟨y, hy⟩ : ∃ y, y = lth l k := ⟨_, rfl⟩
        have HY : Hid _ := hy
        rw [← hy] at g0 g1 g2 g3 g4
        clear hy hpre hB
        obtain ⟨d1, p1, a1, r1, x1⟩ := y
        simp only at g0 g1 g2 g3 g4
        have hlt1 : (k : Int) < l.length := by omega
        go_wp2_with fail
        refine (checkLine_any d1 p1 a1 r1 x1 _).mono ?_
        rintro e w1 ⟨rfl, ob, rfl⟩
        by_cases ho : own (d1, p1, a1, r1, x1) = 0
        rotate_left
        · have HE : Hid (chkC l = own (d1, p1, a1, r1, x1)) := chkC_at h6 hlt HP.out (by have := errL_own (l := l) (k := k) (by rw [← HY.out]; exact ho); rw [this, ← HY.out]) ho
          have hq : (own (d1, p1, a1, r1, x1) != 0) = true := by simpa using ho
          clear ho
          generalize own (d1, p1, a1, r1, x1) = z at *
          go_wp2
          go_ret
          exact ⟨ret_int HE.out.symm, bel_alloc (bel_alloc HB.out _) _⟩
        rw [ho]
        have k1 := ((Blk.new wr #[.int .i64 d1, .int .i64 p1, .int .i64 a1, .bool r1, .bool x1] 63 (0, 0)).past ob).five
        have B1 := bel_alloc (bel_alloc HB.out (.cells #[.int .i64 d1, .int .i64 p1, .int .i64 a1, .bool r1, .bool x1] 63 (0, 0))) ob
        have s1 : wr.heap.size < ((wr.alloc (.cells #[.int .i64 d1, .int .i64 p1, .int .i64 a1, .bool r1, .bool x1] 63 (0, 0))).alloc ob).heap.size := by simp; omega
        obtain ⟨c0, c1, _, _, _⟩ := k1
        go_wp2
        generalize ((wr.alloc (.cells #[.int .i64 d1, .int .i64 p1, .int .i64 a1, .bool r1, .bool x1] 63 (0, 0))).alloc ob) = wx at *
        have HT : Hid (Ls wx (.slice (some ⟨b, o, none⟩) k cap) (l.take k)) := (HL.out.keep B1).take hk
        have HO : Hid _ := ho
        have HB1 : Hid _ := B1
        clear B1 ho g0 g1 g2 g3 g4 HB HC
        have z0 : (0 : Int) ≤ k := by omega
        have z1 : (k : Int) ≤ cap := by omega
        have z2 : k ≤ cap := by omega
        have z3 : ¬ cap = 0 := by omega
        go_region_held3 (fun w' => w'.cell? ⟨wr.heap.size, 0, none⟩ = some (.int .i64 d1) ∧ w'.cell? ⟨wr.heap.size, 1, none⟩ = some (.int .i64 p1) ∧ Below wx.heap.size wx w')
          (with_reducible refine keep2 (by assumption) (by assumption) (by assumption) ?_; (repeat (first | with_reducible assumption | (with_reducible (refine And.right (a := _ = _) (And.right (a := _ = _) (?_ : _ ∧ _ ∧ _)); assumption)) | with_reducible exact Below.refl _ _ | with_reducible refine Below.drew ?_ | with_reducible refine bel_drewN ?_ _ | with_reducible refine bel_alloc ?_ _ | with_reducible refine bel_trans ?_ (by assumption))))
          (first | (go_at_call 44; refine (cFind_any _ (l.take k) d1 p1 _ ?_).mono ?_; (focus (refine HT.out.keep ?_; (repeat (first | with_reducible assumption | (with_reducible (refine And.right (a := _ = _) (And.right (a := _ = _) (?_ : _ ∧ _ ∧ _)); assumption)) | with_reducible exact Below.refl _ _ | with_reducible refine Below.drew ?_ | with_reducible refine bel_drewN ?_ _)))); rintro e w1 ⟨rfl, b1⟩))
        rename_i hH
        have HB2 : Hid _ := bel_trans HB1.out hH.2.2
        clear hH b1
        by_cases hf : 0 ≤ fndC (l.take k) d1 p1
        · have HE : Hid (chkC l = 5) := chkC_at h6 hlt HP.out (errL_twice (by rw [← HY.out]; exact HO.out) (by rw [← HY.out]; exact hf)) (by decide)
          go_wp2
          go_ret
          exact ⟨ret_int HE.out.symm, HB2.out⟩
        · have HE : Hid (errL l k = 0) := errL_fine (by rw [← HY.out]; exact HO.out) (by rw [← HY.out]; exact hf)
          go_wp2
          exact ⟨⟨k + 1, by omega, by go_num, upto_next HP.out HE.out, HB2.out⟩, by simp [intOf]; omega⟩
      · have HF : Hid (chkC l = 0) := chkC_all h6 fun j hj => HP.out j (by omega)
        clear hpre hB
        go_wp2
        go_ret
        exact ⟨ret_int HF.out.symm, HB.out⟩
theorem infoLine : ∃ i, Try.prog.info? 63 = some i ∧ i.zero = some (.agg #[.int .i64 0, .int .i64 0, .int .i64 0, .bool false, .bool false]) ∧ i.size = 5 ∧ i.bytes = 32 := by
  have h : (Try.prog.info? 63).map (fun i => (i.zero, i.size, i.bytes)) = some (some (.agg #[.int .i64 0, .int .i64 0, .int .i64 0, .bool false, .bool false]), 5, 32) := by kernel_rfl
  cases hi : Try.prog.info? 63 with
  | none => rw [hi] at h; simp at h
  | some i => rw [hi] at h; simp at h; exact ⟨i, rfl, h.1, h.2.1, h.2.2⟩
theorem cellsL_len (x : Ln) : (cellsL x).length = 5 := rfl
theorem flat_len (l : List Ln) : (l.flatMap cellsL).length = l.length * 5 := by
  induction l with
  | nil => rfl
  | cons x t ih => rw [List.flatMap_cons, List.length_append, ih, cellsL_len, List.length_cons]; omega
theorem lth_succ (x : Ln) (t : List Ln) (i : Nat) : lth (x :: t) (i + 1) = lth t i := by simp [lth]
theorem flat_at (l : List Ln) : ∀ (i r : Nat), i < l.length → r < 5 → (l.flatMap cellsL)[i * 5 + r]? = (cellsL (lth l i))[r]? := by
  induction l with
  | nil => intro i r hi _; exact absurd hi (Nat.not_lt_zero _)
  | cons x t ih =>
    intro i r hi hr
    rw [List.flatMap_cons]
    cases i with
    | zero =>
      rw [Nat.zero_mul, Nat.zero_add, List.getElem?_append_left (by rw [cellsL_len]; exact hr)]
      rfl
    | succ i =>
      rw [List.getElem?_append_right (by rw [cellsL_len]; omega), cellsL_len, lth_succ, ← ih i r (by simpa using hi) hr]
      congr 1; omega
theorem flat_of {l : List Ln} {j : Nat} {u : Value} (h : (l.flatMap cellsL)[j]? = some u) : ∃ i r, i < l.length ∧ r < 5 ∧ j = i * 5 + r ∧ (cellsL (lth l i))[r]? = some u := by
  have hj : j < l.length * 5 := by
    rw [← flat_len]
    rcases Nat.lt_or_ge j (l.flatMap cellsL).length with k | k
    · exact k
    · rw [List.getElem?_eq_none k] at h; cases h
  refine ⟨j / 5, j % 5, by omega, by omega, by omega, ?_⟩
  rw [← flat_at l (j / 5) (j % 5) (by omega) (by omega), ← h]
  congr 1; omega
theorem flat_one (l : List Ln) : ∀ u ∈ l.flatMap cellsL, u.oneCell' = true := by
  intro u hu
  obtain ⟨x, _, hx⟩ := List.mem_flatMap.1 hu
  simp only [cellsL, List.mem_cons, List.not_mem_nil, or_false] at hx
  rcases hx with rfl | rfl | rfl | rfl | rfl <;> rfl
theorem add_off (b o j : Nat) : Addr.add ⟨b, o, none⟩ j = ⟨b, o + j, none⟩ := by unfold Addr.add; split <;> simp_all
theorem atL_cell {w : World} {b o : Nat} {x : Ln} (h : AtL w b o x) {r : Nat} {u : Value} (hr : r < 5) (hu : (cellsL x)[r]? = some u) : w.cell? ⟨b, o + r, none⟩ = some u := by
  obtain ⟨h0, h1, h2, h3, h4⟩ := h
  match r, hr with
  | 0, _ => simp [cellsL] at hu; subst hu; exact h0
  | 1, _ => simp [cellsL] at hu; subst hu; exact h1
  | 2, _ => simp [cellsL] at hu; subst hu; exact h2
  | 3, _ => simp [cellsL] at hu; subst hu; exact h3
  | 4, _ => simp [cellsL] at hu; subst hu; exact h4
def OwnL (w : World) (base : Nat) (v : Value) (l : List Ln) : Prop := w.ownsRow base 63 5 v l.length (l.flatMap cellsL)
theorem OwnL.lit (w : World) (base : Nat) (h : base ≤ w.heap.size) : OwnL (w.alloc (.cells #[] 63)) base (.slice (some ⟨w.heap.size, 0, none⟩) 0 0) [] :=
  World.ownsRow_lit (base := base) (e := 63) (size := 5) w #[] 0 h (by simp [maxLen]) rfl
theorem OwnL.litAt {w : World} {n : Nat} (e : n = w.heap.size) (base : Nat) (h : base ≤ w.heap.size) : OwnL (w.alloc (.cells #[] 63)) base (.slice (some ⟨n, 0, none⟩) 0 0) [] := by
  subst e; exact OwnL.lit w base h
theorem OwnL.alloc {w : World} {base : Nat} {v : Value} {l : List Ln} (h : OwnL w base v l) (o : Obj) : OwnL (w.alloc o) base v l := World.ownsRow.alloc h o
theorem OwnL.ls {w : World} {base : Nat} {v : Value} {l : List Ln} (h : OwnL w base v l) : Ls w v l := by
  have h' := h
  rcases h.2 with ⟨rfl, h0⟩ | ⟨g, cap, cur, rfl, hb, hg, hnc, hcm, hcs, htake⟩
  · obtain rfl : l = [] := List.eq_nil_of_length_eq_zero h0
    exact Ls.nothing w
  · refine ⟨_, cap, rfl, hnc, hcm, .inr ⟨g, 0, rfl, ?_, fun i hi => ?_⟩⟩
    · exact (h.lt g rfl).2
    · have hc : ∀ r, r < 5 → w.cell? ⟨g, 0 + i * 5 + r, none⟩ = (cellsL (lth l i))[r]? := fun r hr => by
        rw [Nat.zero_add]
        have := h.cellAt (i * 5 + r) (by omega)
        rw [this, flat_at l i r hi hr]
      exact ⟨hc 0 (by omega), hc 1 (by omega), hc 2 (by omega), hc 3 (by omega), hc 4 (by omega)⟩
theorem OwnL.base {w : World} {base : Nat} {v : Value} {l : List Ln} (h : OwnL w base v l) : ∀ k, v.ownBlock = some k → base ≤ k := fun k hk => (World.ownsRow.lt h k hk).1
theorem run_append_L (w : World) (ty : TypeId) (base : Nat) (v x : Value) (l1 l2 : List Ln) (hown : OwnL w base v l1) (hx : Ls w x l2) (hn : l1.length + l2.length ≤ 1000) (hbase : base ≤ w.heap.size) (hne : (∃ c m n, v = .slice (some c) m n) ∨ l2 ≠ []) :
    ∃ g cap w', (Builtin.append_ #[33, 33] ty #[v, x]).run Try.prog w = .ok (.slice (some ⟨g, 0, none⟩) (l1 ++ l2).length cap) w' ∧ OwnL w' base (.slice (some ⟨g, 0, none⟩) (l1 ++ l2).length cap) (l1 ++ l2) ∧ w.grownBy w' v.ownBlock ∧ (v.ownBlock = some g ∨ g = w.heap.size) := by
  obtain ⟨i, hi, hz, hsz, hby⟩ := infoLine
  obtain ⟨a, cap, rfl, hl, hm, h⟩ := hx
  rcases h with rfl | ⟨b, o, rfl, hb, hc⟩
  · rcases hown.2 with ⟨rfl, h0⟩ | ⟨g, c, cur, rfl, hbg, hg, hnc, hcm, hcs, htake⟩
    · rcases hne with ⟨_, _, _, hne⟩ | hne
      · simp at hne
      · exact absurd rfl hne
    · refine ⟨g, c, w, ?_, ?_, ⟨rfl, rfl, rfl, Nat.le_refl _, fun _ _ _ => rfl⟩, .inl rfl⟩
      · cases a <;>
        simp [Builtin.append_, run_underlying Try.underlying33, sizeOf, typeInfo, hi, Builtin.lenOf, Builtin.firstCells, loadCells, loadCellsFrom, hnc, storeCells]
      · simpa using hown
  · by_cases h0 : l2 = []
    · subst h0
      rcases hown.2 with ⟨rfl, h0⟩ | ⟨g, c, cur, rfl, hbg, hg, hnc, hcm, hcs, htake⟩
      · rcases hne with ⟨_, _, _, hne⟩ | hne
        · simp at hne
        · exact absurd rfl hne
      · refine ⟨g, c, w, ?_, ?_, ⟨rfl, rfl, rfl, Nat.le_refl _, fun _ _ _ => rfl⟩, .inl rfl⟩
        · simp [Builtin.append_, run_underlying Try.underlying33, sizeOf, typeInfo, hi, Builtin.lenOf, Builtin.firstCells, loadCells, loadCellsFrom, hnc, storeCells]
        · simpa using hown
    · have hpos : 0 < l2.length := List.length_pos_iff.2 h0
      obtain ⟨g, c, w', hr, ho, hgr, hat, _⟩ := run_append_lies (P := Try.prog) w 33 ty base 63 i _ 5 32 Try.underlying33 hi hz hsz hby rfl (by omega) v l1.length (l1.flatMap cellsL) hown ⟨b, o, none⟩ l2.length cap (l2.flatMap cellsL) (flat_len l2)
        (fun j u hu => by
          obtain ⟨i', r, h1, h2, rfl, h4⟩ := flat_of hu
          rw [add_off, ← Nat.add_assoc]
          exact atL_cell (hc i' h1) h2 h4)
        (flat_one l2) hpos (by unfold maxLen; omega) (by omega) hbase w.heap.size rfl
      refine ⟨g, c, w', ?_, ?_, hgr, hat⟩
      · rw [List.length_append]; exact hr
      · unfold OwnL; rw [List.length_append, List.flatMap_append]; exact ho
theorem wp_append_L {w : World} {o : Oper} {a : Act} {K : Act → World → Prop} {Q : Exit → Act → World → Prop} (s x : Operand)
    (ho : o.op = .call { callee := .builtin .append, args := #[s, x], argTypes := #[33, 33] })
    (base : Nat) (v u : Value) (l1 l2 : List Ln) (hs : a.eval s = v) (hu : a.eval x = u) (hown : OwnL w base v l1) (hx : Ls w u l2) (hn : l1.length + l2.length ≤ 1000) (hbase : base ≤ w.heap.size) (hne : (∃ c m n, v = .slice (some c) m n) ∨ l2 ≠ [])
    (h : ∀ g cap w', OwnL w' base (.slice (some ⟨g, 0, none⟩) (l1 ++ l2).length cap) (l1 ++ l2) → w.grownBy w' v.ownBlock → Below base w w' → (v.ownBlock = some g ∨ g = w.heap.size) → K (a.put o.dst (.slice (some ⟨g, 0, none⟩) (l1 ++ l2).length cap)) w') : o.wp Try.prog a w K Q := by
  obtain ⟨g, cap, w', hr, h2, h3, h4⟩ := run_append_L w o.type base v u l1 l2 hown hx hn hbase hne
  unfold Oper.wp execOp
  simp only [ho, resolve, invoke, builtin, Sem.run_bind, Sem.run_pure, Result.andThen_ok, List.map_toArray, List.map_cons, List.map_nil, hs, hu, hr]
  exact h g cap w' h2 h3 ((Below.refl base w).grown h3 hbase hown.base) h4
theorem step_append_L {w : World} {ops : Array Oper} {o : Oper} {a : Act} {K : Act → World → Prop} {Q : Exit → Act → World → Prop} {E : Prop} (hgd : o.guard = none) (s x : Operand)
    (ho : o.op = .call { callee := .builtin .append, args := #[s, x], argTypes := #[33, 33] })
    (base : Nat) (v u : Value) (l1 l2 : List Ln) (hs : a.eval s = v) (hu : a.eval x = u) (hown : OwnL w base v l1) (hx : Ls w u l2) (hn : l1.length + l2.length ≤ 1000) (hbase : base ≤ w.heap.size) (hne : (∃ c m n, v = .slice (some c) m n) ∨ l2 ≠ [])
    (h : ∀ g cap w', OwnL w' base (.slice (some ⟨g, 0, none⟩) (l1 ++ l2).length cap) (l1 ++ l2) → w.grownBy w' v.ownBlock → Below base w w' → (v.ownBlock = some g ∨ g = w.heap.size) → K (a.put o.dst (.slice (some ⟨g, 0, none⟩) (l1 ++ l2).length cap)) w') :
    if Region.wanted o (yielded ops a.tmps) = true then Oper.wp Try.prog o a w K Q else E := by
  have hw : Region.wanted o (yielded ops a.tmps) = true := by simp [Region.wanted, hgd]
  rw [if_pos hw]
  exact wp_append_L s x ho base v u l1 l2 hs hu hown hx hn hbase hne h
theorem ls_one (w : World) (d p a : Int) (r x : Bool) (fr : Nat × Nat) : Ls (w.alloc (.cells #[.int .i64 d, .int .i64 p, .int .i64 a, .bool r, .bool x] 63 fr)) (.slice (some ⟨w.heap.size, 0, none⟩) 1 1) [(d, p, a, r, x)] := by
  have k := (Blk.new w #[.int .i64 d, .int .i64 p, .int .i64 a, .bool r, .bool x] 63 fr).five
  refine ⟨_, 1, rfl, Nat.le_refl _, by simp [maxLen], .inr ⟨w.heap.size, 0, rfl, by simp, fun i hi => ?_⟩⟩
  obtain rfl : i = 0 := by simpa using hi
  exact k
theorem ls_oneAt {w : World} {n : Nat} (h : n = w.heap.size) (d p a : Int) (r x : Bool) (fr : Nat × Nat) : Ls (w.alloc (.cells #[.int .i64 d, .int .i64 p, .int .i64 a, .bool r, .bool x] 63 fr)) (.slice (some ⟨n, 0, none⟩) 1 1) [(d, p, a, r, x)] := by
  subst h; exact ls_one w d p a r x fr
theorem Ls.grown {w w' : World} {a : Addr} {n cap : Nat} {l : List Ln} {row : Option Nat} (h : Ls w (.slice (some a) n cap) l) (hg : w.grownBy w' row) (hne : some a.block ≠ row) : Ls w' (.slice (some a) n cap) l := by
  obtain ⟨a', cap', e, hl, hm, h⟩ := h
  refine ⟨a', cap', e, hl, hm, ?_⟩
  rcases h with h | ⟨b, o, rfl, hb, hc⟩
  · exact .inl h
  · simp only [Value.slice.injEq, Option.some.injEq] at e
    obtain ⟨rfl, _, rfl⟩ := e
    have hblk := hg.block b hb hne
    refine .inr ⟨b, o, rfl, Nat.lt_of_lt_of_le hb hg.size, fun i hi => ?_⟩
    have hcell : ∀ j, w'.cell? ⟨b, j, none⟩ = w.cell? ⟨b, j, none⟩ := fun j => World.cell?_of_block (a := ⟨b, j, none⟩) hblk
    unfold AtL
    rw [hcell, hcell, hcell, hcell, hcell]
    exact hc i hi
theorem chkC_one (y : Ln) : chkC [y] = own y := by
  by_cases h : own y = 0
  · rw [h]
    refine chkC_all (by simp) fun j hj => ?_
    obtain rfl : j = 0 := by simpa using hj
    exact errL_fine (by simpa [lth] using h) (by simp [fndC])
  · exact chkC_at (j := 0) (by simp) (by simp) (fun i hi => absurd hi (Nat.not_lt_zero _)) (by rw [errL_own (by simpa [lth] using h)]; simp [lth]) h
theorem keep5 {W w' : World} {n : Nat} {u0 u1 u2 u3 u4 : Value} (h0 : W.cell? ⟨n, 0, none⟩ = some u0) (h1 : W.cell? ⟨n, 1, none⟩ = some u1) (h2 : W.cell? ⟨n, 2, none⟩ = some u2) (h3 : W.cell? ⟨n, 3, none⟩ = some u3) (h4 : W.cell? ⟨n, 4, none⟩ = some u4) (hn : n < W.heap.size) (hb : Below W.heap.size W w') :
    w'.cell? ⟨n, 0, none⟩ = some u0 ∧ w'.cell? ⟨n, 1, none⟩ = some u1 ∧ w'.cell? ⟨n, 2, none⟩ = some u2 ∧ w'.cell? ⟨n, 3, none⟩ = some u3 ∧ w'.cell? ⟨n, 4, none⟩ = some u4 ∧ Below W.heap.size W w' :=
  ⟨((bcell hb).1 n 0 hn).trans h0, ((bcell hb).1 n 1 hn).trans h1, ((bcell hb).1 n 2 hn).trans h2, ((bcell hb).1 n 3 hn).trans h3, ((bcell hb).1 n 4 hn).trans h4, hb⟩
theorem limb5 {A B C D E F : Prop} (h : A ∧ B ∧ C ∧ D ∧ E ∧ F) : F := h.2.2.2.2.2
set_option maxHeartbeats 1000000 in
theorem fill_any (v : Value) (l : List Ln) (d p a : Int) (r x : Bool) (w : World) (h : Ls w v l) :
    Calls Try.prog 58 #[v, .agg #[.int .i64 d, .int .i64 p, .int .i64 a, .bool r, .bool x]] w fun e w' => (∃ v', e = .returned (.tuple #[v', .int .i64 (flE l (d, p, a, r, x))]) ∧ Ls w' v' (flC l (d, p, a, r, x)) ∧ Fresh w.heap.size v') ∧ Below w.heap.size w w' := by
  have HL : Hid (Ls w v l) := h
  obtain ⟨a0, cap, rfl, hl, hm, h⟩ := h
  unfold maxLen at hm
  go_enter Try.func58, Try.ntmps58
  go_wp2_with fail
  refine (cCheck_any _ l _ (HL.out.keep (bel_alloc (Below.refl _ _) _))).mono ?_
  rintro e w1 ⟨rfl, b1⟩
  have K1 := (Blk.new w #[.int .i64 d, .int .i64 p, .int .i64 a, .bool r, .bool x] 63 (0, 0)).keep b1
  have B1 : Hid (Below w.heap.size w w1) := bel_trans (bel_alloc (Below.refl _ _) _) b1
  clear b1
  by_cases hc : chkC l = 0
  rotate_left
  · have hq : (chkC l != 0) = true := by simpa using hc
    have HE : Hid (flE l (d, p, a, r, x) = chkC l) := by unfold flE; exact if_neg hc
    have HF : Hid (flC l (d, p, a, r, x) = []) := by unfold flC; exact if_neg (by rw [HE.out]; exact hc)
    go_wp2
    refine bodyPost_ret (v := .tuple #[.slice none 0 0, .int .i64 (chkC l)]) (by simp [results, Try.results58, go_sem]) rfl ⟨⟨_, by rw [HE.out], by rw [HF.out]; exact Ls.nothing _, Fresh.none _ _ _⟩, B1.out⟩
  rw [hc]
  obtain ⟨c0, c1, c2, c3, c4⟩ := K1.five
  have s1 := K1.lt
  go_wp2_with fail
  refine (checkLine_any d p a r x _).mono ?_
  rintro e w2 ⟨rfl, ob, rfl⟩
  have K2 := K1.past ob
  have B2 : Hid (Below w.heap.size w (w1.alloc ob)) := bel_alloc B1.out ob
  clear B1 K1 c0 c1 c2 c3 c4 s1
  obtain ⟨c0, c1, c2, c3, c4⟩ := K2.five
  have s1 := K2.lt
  generalize w1.alloc ob = w2 at *
  by_cases ho : own (d, p, a, r, x) = 0
  rotate_left
  · have hq : (own (d, p, a, r, x) != 0) = true := by simpa using ho
    have HE : Hid (flE l (d, p, a, r, x) = own (d, p, a, r, x)) := by
      unfold flE
      rw [if_pos hc, chkC_one, if_neg ho]
      rfl
    have HF : Hid (flC l (d, p, a, r, x) = []) := by unfold flC; exact if_neg (by rw [HE.out]; exact ho)
    generalize own (d, p, a, r, x) = z at *
    go_wp2
    refine bodyPost_ret (v := .tuple #[.slice none 0 0, .int .i64 z]) (by simp [results, Try.results58, go_sem]) rfl ⟨⟨_, by rw [HE.out], by rw [HF.out]; exact Ls.nothing _, Fresh.none _ _ _⟩, B2.out⟩
  rw [ho]
  go_wp2_with fail
  refine (cFind_any _ l d p _ (HL.out.keep B2.out)).mono ?_
  rintro e wx ⟨rfl, b3⟩
  have K3 := K2.keep b3
  have B3 : Hid (Below w.heap.size w wx) := bel_trans B2.out b3
  clear B2 K2 b3 c0 c1 c2 c3 c4 s1
  obtain ⟨c0, c1, c2, c3, c4⟩ := K3.five
  have s1 := K3.lt
  by_cases hf : 0 ≤ fndC l d p
  · have HE : Hid (flE l (d, p, a, r, x) = 5) := by
      unfold flE
      rw [if_pos hc, chkC_one, if_pos ho]
      exact if_pos hf
    have HF : Hid (flC l (d, p, a, r, x) = []) := by unfold flC; exact if_neg (by rw [HE.out]; decide)
    go_wp2
    refine bodyPost_ret (v := .tuple #[.slice none 0 0, .int .i64 5]) (by simp [results, Try.results58, go_sem]) rfl ⟨⟨_, by rw [HE.out], by rw [HF.out]; exact Ls.nothing _, Fresh.none _ _ _⟩, B3.out⟩
  have HE : Hid (flE l (d, p, a, r, x) = 0) := by
    unfold flE
    rw [if_pos hc, chkC_one, if_pos ho]
    exact if_neg hf
  have HF : Hid (flC l (d, p, a, r, x) = oldC l ++ [(d, p, a, r, x)]) := flC_ok HE.out
  have h6 : l.length ≤ 6 := (chkC_zero.1 hc).1
  have HT0 : Hid (Ls wx (.slice a0 l.length cap) l) := HL.out.keep B3.out
  clear HL K3
  obtain ⟨m, hm'⟩ : ∃ m, m = oldC l := ⟨_, rfl⟩
  have HM : Hid (m = oldC l) := hm'
  have hm5 : m.length ≤ 5 := by rw [hm']; exact (oldC_len h6).1
  clear hm'
  by_cases hl6 : l.length = 6
  · rcases h with rfl | ⟨b, o, rfl, hb, _⟩
    · exact absurd hl6 (by simp)
    have HT : Hid (Ls wx (.slice (some ⟨b, o + 5, none⟩) 5 (cap - 1)) m) := by
      have := HT0.out.drop (k := 1) (by omega)
      rw [HM.out, oldC, if_pos hl6]
      rw [hl6] at this
      exact this
    rw [hl6] at hl ⊢
    have z1 : (1 : Int) ≤ cap := by omega
    have z2 : (6 : Int) ≤ cap := by omega
    have z3 : ¬ cap = 1 := by omega
    have z4 : 1 ≤ cap := by omega
    go_wp2
    go_region_held3 (fun w' => w'.cell? ⟨w.heap.size, 0, none⟩ = some (.int .i64 d) ∧ w'.cell? ⟨w.heap.size, 1, none⟩ = some (.int .i64 p) ∧ w'.cell? ⟨w.heap.size, 2, none⟩ = some (.int .i64 a) ∧ w'.cell? ⟨w.heap.size, 3, none⟩ = some (.bool r) ∧ w'.cell? ⟨w.heap.size, 4, none⟩ = some (.bool x) ∧ Below wx.heap.size wx w')
      (with_reducible refine keep5 (by assumption) (by assumption) (by assumption) (by assumption) (by assumption) (by assumption) ?_; (repeat (first | with_reducible assumption | (with_reducible (refine limb5 (?_ : _ ∧ _ ∧ _ ∧ _ ∧ _ ∧ _); assumption)) | with_reducible exact Below.refl _ _ | with_reducible refine Below.drew ?_ | with_reducible refine bel_drewN ?_ _ | with_reducible refine bel_alloc ?_ _ | with_reducible refine Below.trans ?_ (by assumption))))
      (first
        | (refine step_append_L rfl (.tmp 30) (.tmp 31) rfl wx.heap.size (.slice (some ⟨_, 0, none⟩) 0 0) _ [] m rfl rfl ?_ ?_ (by first | (simp; done) | (simp; omega)) (by first | (simp; done) | (simp; omega)) (.inl ⟨_, _, _, rfl⟩) ?_; (focus (first | exact OwnL.litAt (by simp) _ (by simp) | exact (OwnL.litAt (by simp) _ (by simp)).alloc _)); (focus (first | exact HT.out.keep (bel_alloc (bel_alloc (Below.drew (Below.refl _ _)) _) _) | exact HT.out.keep (bel_alloc (Below.drew (Below.refl _ _)) _))); intro g cg w4 hown hgr hbel _)
        | (refine step_append_L rfl (.tmp 32) (.tmp 34) rfl wx.heap.size (.slice (some ⟨_, 0, none⟩) _ _) (.slice (some ⟨_, 0, none⟩) 1 1) m [(d, p, a, r, x)] rfl rfl ?_ ?_ (by simp; omega) (by have hs4 := hgr.size; simp at hs4 ⊢; omega) (.inl ⟨_, _, _, rfl⟩) ?_; (focus (first | exact hown | exact hown.alloc _)); (focus (first | exact ls_oneAt (by simp) _ _ _ _ _ _ | (refine Ls.grown ?_ hgr (by simp [Value.ownBlock]); first | exact ls_oneAt (by simp) _ _ _ _ _ _ | exact Ls.alloc (ls_oneAt (by simp) _ _ _ _ _ _) _))); intro g2 cg2 w5 hown2 _ hbel2 _))
    all_goals
      rename_i hH
      have HB5 : Hid (Below wx.heap.size wx w5) := limb5 hH
      have HO2 : Hid _ := hown2
      have HG2 : Hid (w.heap.size ≤ g2) := Nat.le_trans B3.out.size (hown2.base g2 rfl)
      clear hH hown2 hown hgr hbel hbel2
      go_wp2
      refine bodyPost_ret (v := .tuple #[.slice (some ⟨g2, 0, none⟩) (m.length + 1) cg2, .int .i64 0]) (by simp [results, Try.results58, go_sem]) rfl ⟨⟨_, by rw [HE.out], ?_, fresh_at HG2.out _ _ _⟩, bel_trans B3.out HB5.out⟩
      rw [HF.out, ← HM.out]
      simpa using OwnL.ls HO2.out
  · have hq6 : ((l.length : Int) == 6) = false := by simp; omega
    have HT : Hid (Ls wx (.slice a0 l.length cap) m) := by
      rw [HM.out, oldC, if_neg hl6]
      exact HT0.out
    go_wp2
    go_region_held3 (fun w' => w'.cell? ⟨w.heap.size, 0, none⟩ = some (.int .i64 d) ∧ w'.cell? ⟨w.heap.size, 1, none⟩ = some (.int .i64 p) ∧ w'.cell? ⟨w.heap.size, 2, none⟩ = some (.int .i64 a) ∧ w'.cell? ⟨w.heap.size, 3, none⟩ = some (.bool r) ∧ w'.cell? ⟨w.heap.size, 4, none⟩ = some (.bool x) ∧ Below wx.heap.size wx w')
      (with_reducible refine keep5 (by assumption) (by assumption) (by assumption) (by assumption) (by assumption) (by assumption) ?_; (repeat (first | with_reducible assumption | (with_reducible (refine limb5 (?_ : _ ∧ _ ∧ _ ∧ _ ∧ _ ∧ _); assumption)) | with_reducible exact Below.refl _ _ | with_reducible refine Below.drew ?_ | with_reducible refine bel_drewN ?_ _ | with_reducible refine bel_alloc ?_ _ | with_reducible refine Below.trans ?_ (by assumption))))
      (first
        | (refine step_append_L rfl (.tmp 30) (.tmp 31) rfl wx.heap.size (.slice (some ⟨_, 0, none⟩) 0 0) _ [] m rfl rfl ?_ ?_ (by first | (simp; done) | (simp; omega)) (by first | (simp; done) | (simp; omega)) (.inl ⟨_, _, _, rfl⟩) ?_; (focus (first | exact OwnL.litAt (by simp) _ (by simp) | exact (OwnL.litAt (by simp) _ (by simp)).alloc _)); (focus (first | exact HT.out.keep (bel_alloc (bel_alloc (Below.drew (Below.refl _ _)) _) _) | exact HT.out.keep (bel_alloc (Below.drew (Below.refl _ _)) _))); intro g cg w4 hown hgr hbel _)
        | (refine step_append_L rfl (.tmp 32) (.tmp 34) rfl wx.heap.size (.slice (some ⟨_, 0, none⟩) _ _) (.slice (some ⟨_, 0, none⟩) 1 1) m [(d, p, a, r, x)] rfl rfl ?_ ?_ (by simp; omega) (by have hs4 := hgr.size; simp at hs4 ⊢; omega) (.inl ⟨_, _, _, rfl⟩) ?_; (focus (first | exact hown | exact hown.alloc _)); (focus (first | exact ls_oneAt (by simp) _ _ _ _ _ _ | (refine Ls.grown ?_ hgr (by simp [Value.ownBlock]); first | exact ls_oneAt (by simp) _ _ _ _ _ _ | exact Ls.alloc (ls_oneAt (by simp) _ _ _ _ _ _) _))); intro g2 cg2 w5 hown2 _ hbel2 _))
    all_goals
      rename_i hH
      have HB5 : Hid (Below wx.heap.size wx w5) := limb5 hH
      have HO2 : Hid _ := hown2
      have HG2 : Hid (w.heap.size ≤ g2) := Nat.le_trans B3.out.size (hown2.base g2 rfl)
      clear hH hown2 hown hgr hbel hbel2
      go_wp2
      refine bodyPost_ret (v := .tuple #[.slice (some ⟨g2, 0, none⟩) (m.length + 1) cg2, .int .i64 0]) (by simp [results, Try.results58, go_sem]) rfl ⟨⟨_, by rw [HE.out], ?_, fresh_at HG2.out _ _ _⟩, bel_trans B3.out HB5.out⟩
      rw [HF.out, ← HM.out]
      simpa using OwnL.ls HO2.out
end Go.Proofs.Ythlhocneggcekaa
