/-
  cache.Check: the first thing that is wrong with lines; nothing that was there turns.
-/
import Derived.Test.YtemnklppplgcoabFindC
import Derived.Deep.RegionHeld3
namespace Go.Proofs.Ytemnklppplgcoab
open Go.RowKit

theorem Ls.take {w : World} {a : Option Addr} {n cap : Nat} {l : List Ln} (h : Ls w (.slice a n cap) l) {k : Nat} (hk : k ≤ l.length) : Ls w (.slice a k cap) (l.take k) := by
  obtain ⟨a', cap', e, hl, hm, h⟩ := h
  simp only [Value.slice.injEq] at e
  obtain ⟨rfl, _, rfl⟩ := e
  have hn : (l.take k).length = k := by simp; omega
  refine ⟨a, cap, by rw [hn], by omega, hm, ?_⟩
  rcases h with rfl | ⟨b, o, rfl, hb, hc⟩
  · exact .inl (by simp)
  · refine .inr ⟨b, o, rfl, hb, fun i hi => ?_⟩
    rw [hn] at hi
    have : lth (l.take k) i = lth l i := by simp [lth, hi]
    rw [this]
    exact hc i (by omega)

theorem Ls.drop {w : World} {b o n cap : Nat} {l : List Ln} (h : Ls w (.slice (some ⟨b, o, none⟩) n cap) l) {k : Nat} (hk : k ≤ l.length) : Ls w (.slice (some ⟨b, o + k * 5, none⟩) (l.length - k) (cap - k)) (l.drop k) := by
  obtain ⟨a', cap', e, hl, hm, h⟩ := h
  simp only [Value.slice.injEq] at e
  obtain ⟨rfl, _, rfl⟩ := e
  have hn : (l.drop k).length = l.length - k := by simp
  refine ⟨_, cap - k, by rw [hn], by omega, by omega, ?_⟩
  rcases h with rfl | ⟨b', o', e, hb, hc⟩
  · exact .inl (by simp)
  · simp only [Option.some.injEq, Addr.mk.injEq, and_true] at e
    obtain ⟨rfl, rfl⟩ := e
    refine .inr ⟨b, o + k * 5, rfl, hb, fun i hi => ?_⟩
    rw [hn] at hi
    have hlth : lth (l.drop k) i = lth l (k + i) := by simp [lth]
    rw [hlth]
    have := hc (k + i) (by omega)
    rwa [Nat.add_mul, ← Nat.add_assoc] at this

theorem any_find (l : List Ln) (x : Ln) : l.any (keyB x) = true ↔ 0 ≤ fndC l x.1 x.2.1 := by
  have h := @fndC_neg l x.1 x.2.1
  constructor
  · intro ha
    have : ¬ fndC l x.1 x.2.1 < 0 := fun hn => by
      obtain ⟨y, hy, hk⟩ := List.any_eq_true.1 ha
      have := h.1 hn y hy
      rw [has_key, hk] at this
      exact absurd this (by decide)
    omega
  · intro h0
    cases ha : l.any (keyB x)
    · exfalso
      have : fndC l x.1 x.2.1 < 0 := h.2 fun y hy => by
        rw [has_key]
        rw [List.any_eq_false] at ha
        simpa using ha y hy
      omega
    · rfl
theorem errL_own {l : List Ln} {k : Nat} (h : ¬ own (lth l k) = 0) : errL l k = own (lth l k) := by
  unfold errL own at *
  cases h1 : rngB (lth l k)
  · simp
  · cases h2 : (lth l k).2.2.2.1
    · simp
    · simp [h1, h2] at h
theorem errL_twice {l : List Ln} {k : Nat} (h : own (lth l k) = 0) (hf : 0 ≤ fndC (l.take k) (lth l k).1 (lth l k).2.1) : errL l k = 5 := by
  unfold errL own at *
  cases h1 : rngB (lth l k)
  · simp [h1] at h
  · cases h2 : (lth l k).2.2.2.1
    · simp [h1, h2] at h
    · simp only [if_true]
      rw [if_pos ((any_find _ _).2 hf)]
theorem errL_fine {l : List Ln} {k : Nat} (h : own (lth l k) = 0) (hf : ¬ 0 ≤ fndC (l.take k) (lth l k).1 (lth l k).2.1) : errL l k = 0 := by
  unfold errL own at *
  cases h1 : rngB (lth l k)
  · simp [h1] at h
  · cases h2 : (lth l k).2.2.2.1
    · simp [h1, h2] at h
    · simp only [if_true]
      rw [if_neg fun ha => hf ((any_find _ _).1 ha)]

/-- Two cells that are read, and nothing that has turned. -/
theorem keep2 {W w' : World} {n : Nat} {u v : Value} (h0 : W.cell? ⟨n, 0, none⟩ = some u) (h1 : W.cell? ⟨n, 1, none⟩ = some v) (hn : n < W.heap.size) (hb : Below W.heap.size W w') :
    w'.cell? ⟨n, 0, none⟩ = some u ∧ w'.cell? ⟨n, 1, none⟩ = some v ∧ Below W.heap.size W w' :=
  ⟨((bcell hb).1 n 0 hn).trans h0, ((bcell hb).1 n 1 hn).trans h1, hb⟩

set_option maxHeartbeats 1000000 in
theorem cCheck_any (v : Value) (l : List Ln) (w : World) (h : Ls w v l) :
    Calls Try.prog 57 #[v] w fun e w' => e = .returned (.int .i64 (chkC l)) ∧ Below w.heap.size w w' := by
  have HL : Hid (Ls w v l) := h
  obtain ⟨a, cap, rfl, hl, hm, h⟩ := h
  unfold maxLen at hm
  by_cases h6 : 6 < l.length
  · have e6 : chkC l = 1 := chkC_many h6
    rw [e6]
    have h6' : (6 : Int) < l.length := by omega
    go_enter Try.func57, Try.ntmps57
    go_wp2
    go_ret
    exact ⟨rfl, Below.refl _ _⟩
  have h6' : ¬ (6 : Int) < l.length := by omega
  have hmz : (l.length : Int) ≤ 6 := by omega
  rcases h with rfl | ⟨b, o, rfl, hb, hc⟩
  · go_enter Try.func57, Try.ntmps57
    go_wp2
    go_loopw [3, 4, 5, 11] (fun _ _ _ i w' => i = .int .i64 0 ∧ w' = w) (fun _ _ _ i _ => 0)
    case atStart => exact ⟨rfl, rfl⟩
    case round =>
      obtain ⟨rfl, rfl⟩ := hrel
      go_wp2
      go_ret
      exact ⟨ret_int (chkC_all h6 (fun j hj => absurd hj (Nat.not_lt_zero _))).symm, Below.refl _ _⟩
  · have HC : Hid _ := hc
    clear hc
    go_enter Try.func57, Try.ntmps57
    go_wp2
    go_loopw [3, 4, 5, 11] (fun _ _ _ i w' => ∃ k : Nat, k ≤ l.length ∧ i = .int .i64 k ∧ (∀ j, j < k → errL l j = 0) ∧ Below w.heap.size w w') (fun _ _ _ i _ => l.length - (intOf i).toNat)
    case atStart => exact ⟨0, Nat.zero_le _, rfl, fun j hj => absurd hj (Nat.not_lt_zero _), Below.refl _ _⟩
    case round =>
      obtain ⟨k, hk, rfl, hpre, hB⟩ := hrel
      have HP : Hid _ := hpre
      have HB : Hid _ := hB
      by_cases hlt : k < l.length
      · obtain ⟨g0, g1, g2, g3, g4⟩ := (HC.out k hlt).keep hB hb
        have hb' : b < wr.heap.size := Nat.lt_of_lt_of_le hb hB.size
        obtain ⟨y, hy⟩ : ∃ y, y = lth l k := ⟨_, rfl⟩
        have HY : Hid _ := hy
        rw [← hy] at g0 g1 g2 g3 g4
        clear hy hpre hB
        obtain ⟨d1, p1, a1, r1, x1⟩ := y
        simp only at g0 g1 g2 g3 g4
        have hlt1 : (k : Int) < l.length := by omega
        go_wp2_with fail
        refine (checkLine_any d1 p1 a1 r1 x1 _).mono ?_
        rintro e w1 ⟨rfl, ob, rfl⟩
        by_cases ho : own (d1, p1, a1, r1, x1) = 0
        rotate_left
        · have HE : Hid (chkC l = own (d1, p1, a1, r1, x1)) := chkC_at h6 hlt HP.out (by have := errL_own (l := l) (k := k) (by rw [← HY.out]; exact ho); rw [this, ← HY.out]) ho
          have hq : (own (d1, p1, a1, r1, x1) != 0) = true := by simpa using ho
          clear ho
          generalize own (d1, p1, a1, r1, x1) = z at *
          go_wp2
          go_ret
          exact ⟨ret_int HE.out.symm, bel_alloc (bel_alloc HB.out _) _⟩
        rw [ho]
        have k1 := ((Blk.new wr #[.int .i64 d1, .int .i64 p1, .int .i64 a1, .bool r1, .bool x1] 68 (0, 0)).past ob).five
        have B1 := bel_alloc (bel_alloc HB.out (.cells #[.int .i64 d1, .int .i64 p1, .int .i64 a1, .bool r1, .bool x1] 68 (0, 0))) ob
        have s1 : wr.heap.size < ((wr.alloc (.cells #[.int .i64 d1, .int .i64 p1, .int .i64 a1, .bool r1, .bool x1] 68 (0, 0))).alloc ob).heap.size := by simp; omega
        obtain ⟨c0, c1, _, _, _⟩ := k1
        go_wp2
        generalize ((wr.alloc (.cells #[.int .i64 d1, .int .i64 p1, .int .i64 a1, .bool r1, .bool x1] 68 (0, 0))).alloc ob) = wx at *
        have HT : Hid (Ls wx (.slice (some ⟨b, o, none⟩) k cap) (l.take k)) := (HL.out.keep B1).take hk
        have HO : Hid _ := ho
        have HB1 : Hid _ := B1
        clear B1 ho g0 g1 g2 g3 g4 HB HC
        have z0 : (0 : Int) ≤ k := by omega
        have z1 : (k : Int) ≤ cap := by omega
        have z2 : k ≤ cap := by omega
        have z3 : ¬ cap = 0 := by omega
        go_region_held3 (fun w' => w'.cell? ⟨wr.heap.size, 0, none⟩ = some (.int .i64 d1) ∧ w'.cell? ⟨wr.heap.size, 1, none⟩ = some (.int .i64 p1) ∧ Below wx.heap.size wx w')
          (with_reducible refine keep2 (by assumption) (by assumption) (by assumption) ?_; (repeat (first | with_reducible assumption | (with_reducible (refine And.right (a := _ = _) (And.right (a := _ = _) (?_ : _ ∧ _ ∧ _)); assumption)) | with_reducible exact Below.refl _ _ | with_reducible refine Below.drew ?_ | with_reducible refine bel_drewN ?_ _ | with_reducible refine bel_alloc ?_ _ | with_reducible refine bel_trans ?_ (by assumption))))
          (first | (go_at_call 36; refine (cFind_any _ (l.take k) d1 p1 _ ?_).mono ?_; (focus (refine HT.out.keep ?_; (repeat (first | with_reducible assumption | (with_reducible (refine And.right (a := _ = _) (And.right (a := _ = _) (?_ : _ ∧ _ ∧ _)); assumption)) | with_reducible exact Below.refl _ _ | with_reducible refine Below.drew ?_ | with_reducible refine bel_drewN ?_ _)))); rintro e w1 ⟨rfl, b1⟩))
        rename_i hH
        have HB2 : Hid _ := bel_trans HB1.out hH.2.2
        clear hH b1
        by_cases hf : 0 ≤ fndC (l.take k) d1 p1
        · have HE : Hid (chkC l = 5) := chkC_at h6 hlt HP.out (errL_twice (by rw [← HY.out]; exact HO.out) (by rw [← HY.out]; exact hf)) (by decide)
          go_wp2
          go_ret
          exact ⟨ret_int HE.out.symm, HB2.out⟩
        · have HE : Hid (errL l k = 0) := errL_fine (by rw [← HY.out]; exact HO.out) (by rw [← HY.out]; exact hf)
          go_wp2
          exact ⟨⟨k + 1, by omega, by go_num, upto_next HP.out HE.out, HB2.out⟩, by simp [intOf]; omega⟩
      · have HF : Hid (chkC l = 0) := chkC_all h6 fun j hj => HP.out j (by omega)
        clear hpre hB
        go_wp2
        go_ret
        exact ⟨ret_int HF.out.symm, HB.out⟩
end Go.Proofs.Ytemnklppplgcoab
