/-
  drawbridgeref's WordOf and WordOfContext: they answer what entry.Put and entry.PutContext answer; nothing that was there turns.
-/
import Derived.Test.YtegjnfggebhjfaaContextOf
namespace Go.Proofs.Ytegjnfggebhjfaa
open Go.RowKit

/-- This word says this entry, and is the one to put. -/
def Hit (v r x l : Bool) (p : Int) (j : Int) : Prop := okE j = true ∧ (vE j = v ∧ rE j = r ∧ xE j = x ∧ lE j = l ∧ pE j = p) ∧ (v = true ∨ j = 0)

theorem putW_in {v r x l : Bool} {p : Int} (h : putE v r x l p = 0) : 0 ≤ putW v r x l p ∧ putW v r x l p < 1024 ∧ (v = true ∨ putW v r x l p = 0) := by
  have hp : pageB p = true := by
    cases hh : pageB p
    · simp [putE, hh] at h
    · rfl
  have hf : formE v r x l p = true := by
    cases hh : formE v r x l p
    · simp [putE, hp, hh] at h
    · rfl
  obtain ⟨p0, p1⟩ : 0 ≤ p ∧ p < 64 := by simpa [pageB] using hp
  obtain ⟨m, e, m0, m1⟩ := accB_in p [v, r, x, l] 4 (by omega)
  rw [putW, if_pos h, e]
  refine ⟨by omega, by omega, ?_⟩
  cases v
  · right
    simp [formE] at hf
    obtain ⟨⟨⟨rfl, rfl⟩, rfl⟩, rfl⟩ := hf
    simp [accB, bth] at e
    omega
  · left; rfl
theorem no_hit {v r x l : Bool} {p : Int} (hp : pageB p = true) (h : ∀ j : Nat, j < 1024 → ¬ Hit v r x l p j) : putE v r x l p = 3 ∧ putW v r x l p = 0 := by
  by_cases he : putE v r x l p = 0
  · obtain ⟨g1, g2, g3, g4, g5, g6⟩ := put_back he
    obtain ⟨i0, i1, i2⟩ := putW_in he
    refine absurd ?_ (h (putW v r x l p).toNat (by omega))
    rw [Int.toNat_of_nonneg i0]
    exact ⟨g1, ⟨g2, g3, g4, g5, g6⟩, i2⟩
  · refine ⟨?_, by rw [putW, if_neg he]⟩
    cases hf : formE v r x l p
    · simp [putE, hp, hf]
    · exact absurd (by simp [putE, hp, hf]) he
theorem hit_put {v r x l : Bool} {p : Int} {j : Int} (h : Hit v r x l p j) : putE v r x l p = 0 ∧ putW v r x l p = j := by
  obtain ⟨ho, ⟨e1, e2, e3, e4, e5⟩, hv⟩ := h
  cases hv' : v
  · obtain rfl : j = 0 := by
      rcases hv with hv | hv
      · rw [hv'] at hv; exact absurd hv (by decide)
      · exact hv
    rw [← e2, ← e3, ← e4, ← e5]
    decide
  · have := read_back (z := j) (by rw [e1, hv'])
    rw [e1, e2, e3, e4, e5, hv'] at this
    exact ⟨this.1, this.2.1⟩
theorem first_diff {A B C D E : Prop} (h : ¬ (A ∧ B ∧ C ∧ D ∧ E)) : ¬ A ∨ (A ∧ ¬ B) ∨ (A ∧ B ∧ ¬ C) ∨ (A ∧ B ∧ C ∧ ¬ D) ∨ (A ∧ B ∧ C ∧ D ∧ ¬ E) := by
  by_cases a : A
  · by_cases b : B
    · by_cases c : C
      · by_cases d : D
        · exact .inr (.inr (.inr (.inr ⟨a, b, c, d, fun e => h ⟨a, b, c, d, e⟩⟩)))
        · exact .inr (.inr (.inr (.inl ⟨a, b, c, d⟩)))
      · exact .inr (.inr (.inl ⟨a, b, c⟩))
    · exact .inr (.inl ⟨a, b⟩)
  · exact .inl a
theorem page_between (z : Int) : betweenB 0 63 z = pageB z := by
  rw [betweenB, pageB, Bool.eq_iff_iff]; simp; omega

theorem ret_two {a b c d : Int} (h : a = c) (k : b = d) : Ending.returned (.tuple #[.int .i64 a, .int .i64 b]) = .returned (.tuple #[.int .i64 c, .int .i64 d]) := by rw [h, k]

set_option maxHeartbeats 4000000 in
theorem wordOfE_any (v r x l : Bool) (p : Int) (w : World) :
    Calls Try.prog 23 #[.agg #[.bool v, .bool r, .bool x, .bool l, .int .i64 p]] w fun e w' => e = .returned (.tuple #[.int .i64 (putW v r x l p), .int .i64 (putE v r x l p)]) ∧ Below w.heap.size w w' := by
  cases hp : pageB p
  · have he : putE v r x l p = 2 := by simp [putE, hp]
    rw [putW, he]
    go_enter Try.func23, Try.ntmps23
    go_wp2_with fail
    refine (in_any _ _ _ _).mono ?_
    rintro e w1 ⟨rfl, rfl⟩
    rw [page_between, hp]
    go_wp2
    go_ret2
    exact ⟨rfl, bel_alloc (Below.refl _ _) _⟩
  · have HPG : Hid (pageB p = true) := hp
    go_enter Try.func23, Try.ntmps23
    go_wp2_with fail
    refine (in_any _ _ _ _).mono ?_
    rintro e w1 ⟨rfl, rfl⟩
    rw [page_between, hp]
    clear hp
    go_wp2
    go_loopw [11] (fun i w' => ∃ k : Nat, k ≤ 1024 ∧ i = .int .i64 k ∧ Blk w' w.heap.size #[.bool v, .bool r, .bool x, .bool l, .int .i64 p] ∧ Below w.heap.size w w' ∧ ∀ j : Nat, j < k → ¬ Hit v r x l p j) (fun i _ => 1024 - (intOf i).toNat)
    case atStart => exact ⟨0, Nat.zero_le _, rfl, Blk.new _ _ _ _, bel_alloc (Below.refl _ _) _, fun j hj => absurd hj (Nat.not_lt_zero _)⟩
    case round =>
      obtain ⟨k, hk, rfl, K1, B1, hpre⟩ := hrel
      have HP : Hid (∀ j : Nat, j < k → ¬ Hit v r x l p j) := hpre
      have HB : Hid (Below w.heap.size w wr) := B1
      clear hpre B1
      by_cases hlt : k < 1024
      · have hlt1 : (k : Int) < 1024 := by omega
        go_wp2_with fail
        refine (entryOf_any _ _).mono ?_
        rintro e w2 ⟨rfl, b2⟩
        have K2 := K1.keep b2
        have B2 : Hid (Below w.heap.size w w2) := bel_trans HB.out b2
        have l2 := K2.lt
        obtain ⟨c1, c2, c3, c4, c5⟩ := K2.five
        clear b2 K1 HB
        have HK : Hid (Blk w2 w.heap.size #[.bool v, .bool r, .bool x, .bool l, .int .i64 p]) := K2
        have next : ¬ Hit v r x l p k → ∀ o : Obj, ∃ k' : Nat, k' ≤ 1024 ∧ Value.int .i64 ((k : Int) + 1) = .int .i64 k' ∧ Blk (w2.alloc o) w.heap.size #[.bool v, .bool r, .bool x, .bool l, .int .i64 p] ∧ Below w.heap.size w (w2.alloc o) ∧ ∀ j : Nat, j < k' → ¬ Hit v r x l p j := fun hn o =>
          ⟨k + 1, by omega, by go_num, HK.out.past o, bel_alloc B2.out o, fun j hj => by
            by_cases e : j = k
            · rw [e]; exact hn
            · exact HP.out j (by omega)⟩
        have HN : Hid _ := next
        clear next K2
        cases ho : okE k
        · have HH : Hid (¬ Hit v r x l p k) := fun h => by rw [h.1] at ho; exact absurd ho (by decide)
          clear ho
          go_wp2
          exact ⟨HN.out HH.out _, by simp [intOf]; omega⟩
        by_cases heq : vE k = v ∧ rE k = r ∧ xE k = x ∧ lE k = l ∧ pE k = p
        rotate_left
        · have HH : Hid (¬ Hit v r x l p k) := fun h => heq h.2.1
          rcases first_diff heq with g1 | ⟨g1, g2⟩ | ⟨g1, g2, g3⟩ | ⟨g1, g2, g3, g4⟩ | ⟨g1, g2, g3, g4, g5⟩
          all_goals
            clear heq ho
            go_wp2
            exact ⟨HN.out HH.out _, by simp [intOf]; omega⟩
        obtain ⟨g1, g2, g3, g4, g5⟩ := heq
        by_cases hv : v = true ∨ (k : Int) = 0
        · have HE : Hid (putE v r x l p = 0 ∧ putW v r x l p = k) := hit_put ⟨ho, ⟨g1, g2, g3, g4, g5⟩, hv⟩
          rw [g1, g2, g3, g4, g5]
          clear g1 g2 g3 g4 g5 ho HN HP
          cases v
          · have hk0 : k = 0 := by
              rcases hv with hv | hv
              · exact absurd hv (by decide)
              · omega
            subst hk0
            clear hv
            go_wp2
            go_ret2
            exact ⟨ret_two HE.out.2.symm HE.out.1.symm, bel_alloc B2.out _⟩
          · clear hv
            go_wp2
            go_ret2
            exact ⟨ret_two HE.out.2.symm HE.out.1.symm, bel_alloc B2.out _⟩
        · have HH : Hid (¬ Hit v r x l p k) := fun h => hv h.2.2
          obtain rfl : v = false := by
            cases v
            · rfl
            · exact absurd (.inl rfl) hv
          have hk0 : ((k : Int) == 0) = false := by
            have : ¬ (k : Int) = 0 := fun h => hv (.inr h)
            simpa using this
          rw [g1, g2, g3, g4, g5]
          clear g1 g2 g3 g4 g5 ho hv
          go_wp2
          exact ⟨HN.out HH.out _, by simp [intOf]; omega⟩
      · obtain rfl : k = 1024 := by omega
        obtain ⟨e1, e2⟩ := no_hit HPG.out HP.out
        have HE : Hid (putE v r x l p = 3 ∧ putW v r x l p = 0) := ⟨e1, e2⟩
        clear e1 e2
        go_wp2
        go_ret2
        exact ⟨ret_two HE.out.2.symm HE.out.1.symm, HB.out⟩

theorem ptc_forms {v a : Bool} {p : Int} (hp : pageB p = true) : ptcE v a p = (if v then (if a then (if 0 < p then 3 else 0) else 0) else (if a then 3 else (if 0 < p then 3 else 0))) ∧ ptcW v a p = (if v then (if a then (if 0 < p then 0 else 3) else 1 + 16 * p) else 0) := by
  obtain ⟨p0, p1⟩ : 0 ≤ p ∧ p < 64 := by simpa [pageB] using hp
  by_cases h : 0 < p
  · have hn : ¬ p = 0 := by omega
    cases v <;> cases a <;> simp [ptcE, ptcW, hp, formC, hn, h, accB, bth]
    omega
  · obtain rfl : p = 0 := by omega
    cases v <;> cases a <;> decide

set_option maxHeartbeats 4000000 in
theorem wordOfC_any (v a : Bool) (p : Int) (w : World) :
    Calls Try.prog 25 #[.agg #[.bool v, .bool a, .int .i64 p]] w fun e w' => e = .returned (.tuple #[.int .i64 (ptcW v a p), .int .i64 (ptcE v a p)]) ∧ Below w.heap.size w w' := by
  cases hp : pageB p
  · have he : ptcE v a p = 2 := by simp [ptcE, hp]
    rw [ptcW, he]
    go_enter Try.func25, Try.ntmps25
    go_wp2_with fail
    refine (in_any _ _ _ _).mono ?_
    rintro e w1 ⟨rfl, rfl⟩
    rw [page_between, hp]
    go_wp2
    go_ret2
    exact ⟨rfl, bel_alloc (Below.refl _ _) _⟩
  · obtain ⟨e1, e2⟩ := ptc_forms (v := v) (a := a) hp
    rw [e1, e2]
    clear e1 e2
    obtain ⟨p0, p1⟩ : 0 ≤ p ∧ p < 64 := by simpa [pageB] using hp
    by_cases h : 0 < p
    · rw [if_pos h, if_pos h]
      cases v <;> cases a
      all_goals
        go_enter Try.func25, Try.ntmps25
        go_wp2_with fail
        refine (in_any _ _ _ _).mono ?_
        rintro e w1 ⟨rfl, rfl⟩
        rw [page_between, hp]
        go_wp2
        go_ret2
        exact ⟨rfl, bel_alloc (Below.refl _ _) _⟩
    · obtain rfl : p = 0 := by omega
      clear h p0 p1
      cases v <;> cases a
      all_goals
        go_enter Try.func25, Try.ntmps25
        go_wp2_with fail
        refine (in_any _ _ _ _).mono ?_
        rintro e w1 ⟨rfl, rfl⟩
        rw [page_between, hp]
        go_wp2
        go_ret2
        exact ⟨rfl, bel_alloc (Below.refl _ _) _⟩
end Go.Proofs.Ytegjnfggebhjfaa
