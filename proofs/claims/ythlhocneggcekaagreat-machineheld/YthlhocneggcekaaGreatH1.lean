/-
  Laid together: Equal, Mem2, HartMath, DmaMath, EqualL, SameB, HCheck, MRow, EqualT, RefAsk.
-/
import Derived.Test.YthlhocneggcekaaGreatB1
import Derived.Test.YthlhocneggcekaaGreatB2
import Derived.Test.YthlhocneggcekaaGreatB3
import Derived.Test.YthlhocneggcekaaGreatB4
import Derived.Test.YthlhocneggcekaaGreatB5
import Derived.Test.YthlhocneggcekaaGreatB6
import Derived.Test.YthlhocneggcekaaGreatB7
import Derived.Test.YthlhocneggcekaaGreatB8
import Derived.Test.YthlhocneggcekaaGreatB9
import Derived.Test.YthlhocneggcekaaGreatB10
import Derived.Test.YthlhocneggcekaaGreatB11
import Derived.Test.YthlhocneggcekaaGreatB12
import Derived.Test.YthlhocneggcekaaGreatB13
import Derived.Test.YthlhocneggcekaaGreatB14
import Derived.Test.YthlhocneggcekaaGreatB15
import Derived.Test.YthlhocneggcekaaGreatB16
import Derived.Test.YthlhocneggcekaaGreatB17
import Derived.Test.YthlhocneggcekaaGreatB18
import Derived.Test.YthlhocneggcekaaGreatB19
import Derived.Test.YthlhocneggcekaaGreatB20
import Derived.Test.YthlhocneggcekaaGreatB21
import Derived.Test.YthlhocneggcekaaGreatB22
import Derived.Test.YthlhocneggcekaaGreatB23
import Derived.Test.YthlhocneggcekaaGreatB24
import Derived.Test.YthlhocneggcekaaGreatB25
import Derived.Test.YthlhocneggcekaaGreatB26
import Derived.Test.YthlhocneggcekaaGreatB27
import Derived.Test.YthlhocneggcekaaGreatB28
import Derived.Test.YthlhocneggcekaaGreatB29
import Derived.Test.YthlhocneggcekaaGreatB30
import Derived.Test.YthlhocneggcekaaGreatB31
import Derived.Test.YthlhocneggcekaaGreatB32
import Derived.Test.YthlhocneggcekaaGreatB33
import Derived.Test.YthlhocneggcekaaGreatB34
import Derived.Test.YthlhocneggcekaaGreatB35
import Derived.Test.YthlhocneggcekaaGreatB36
import Derived.Test.YthlhocneggcekaaGreatB37
import Derived.Test.YthlhocneggcekaaGreatB38
import Derived.Test.YthlhocneggcekaaGreatB39
import Derived.Test.YthlhocneggcekaaGreatB40
import Derived.Test.YthlhocneggcekaaGreatB41
import Derived.Test.YthlhocneggcekaaGreatB42
import Derived.Test.YthlhocneggcekaaGreatB43
import Derived.Test.YthlhocneggcekaaGreatB44
namespace Go.Proofs.YthlhocneggcekaaGreat
open Go.RowKit
set_option maxHeartbeats 1000000 in
theorem equal_any (v1 v2 : Value) (xs ys : List Int) (w : World) (h1 : Sl w v1 xs) (h2 : Sl w v2 ys) :
    Calls Tryz.prog 44 #[v1, v2] w fun e w' => e = .returned (.bool (decide (xs = ys))) ∧ ∃ n, w' = w.drewN n := by
  obtain ⟨a1, c1, rfl, l1, h1⟩ := h1
  obtain ⟨a2, c2, rfl, l2, h2⟩ := h2
  unfold maxLen at l1 l2
  by_cases hl : xs.length = ys.length
  · have hne : ((xs.length : Int) != (ys.length : Int)) = false := by simp [hl]
    rcases h1 with rfl | ⟨b1, o1, rfl, hb1, hc1⟩
    · obtain rfl : ys = [] := List.eq_nil_of_length_eq_zero hl.symm
      go_enter Tryz.func44, Tryz.ntmps44
      go_wp2
      go_loopw [5, 13] (fun _ i w' => i = J 0 ∧ w' = w) (fun _ i _ => 0)
      case atStart => exact ⟨rfl, rfl⟩
      case round =>
        obtain ⟨rfl, rfl⟩ := hrel
        go_wp2
        go_ret
        exact ⟨rfl, 0, rfl⟩
    · rcases h2 with rfl | ⟨b2, o2, rfl, hb2, hc2⟩
      · obtain rfl : xs = [] := List.eq_nil_of_length_eq_zero hl
        go_enter Tryz.func44, Tryz.ntmps44
        go_wp2
        go_loopw [5, 13] (fun _ i w' => i = J 0 ∧ w' = w) (fun _ i _ => 0)
        case atStart => exact ⟨rfl, rfl⟩
        case round =>
          obtain ⟨rfl, rfl⟩ := hrel
          go_wp2
          go_ret
          exact ⟨rfl, 0, rfl⟩
      have Hl : Hid (xs.length = ys.length) := hl
      have hle : (xs.length : Int) ≤ ys.length := by omega
      have H1 := hc1
      have H2 := hc2
      clear hl hc1 hc2
      have HC1 : Hid _ := H1
      have HC2 : Hid _ := H2
      clear H1 H2
      go_enter Tryz.func44, Tryz.ntmps44
      go_wp2
      go_loopw [5, 13] (fun _ i w' => ∃ k : Nat, k ≤ xs.length ∧ i = J k ∧ (∀ j, j < k → nth xs j = nth ys j) ∧ ∃ n, w' = w.drewN n) (fun _ i _ => xs.length - (intOf i).toNat)
      case atStart => exact ⟨0, Nat.zero_le _, rfl, fun j hj => absurd hj (Nat.not_lt_zero _), 0, rfl⟩
      case round =>
        obtain ⟨k, hk, rfl, hpre, n, rfl⟩ := hrel
        have HP : Hid (∀ j, j < k → nth xs j = nth ys j) := hpre
        clear hpre
        by_cases hlt : k < xs.length
        · have g1 := HC1.out k hlt
          have g2 := HC2.out k (by have := Hl.out; omega)
          have hlt1 : (k : Int) < xs.length := by omega
          have hlt2 : (k : Int) < ys.length := by omega
          by_cases hq : nth xs k = nth ys k
          · have hb : (nth xs k != nth ys k) = false := by simp [hq]
            have HQ : Hid (nth xs k = nth ys k) := hq
            clear hq
            go_wp2
            go_quiet (fail)
            go_wp2
            refine ⟨⟨k + 1, by omega, by go_num, fun j hj => ?_, _, rfl⟩, by simp [intOf]; omega⟩
            by_cases e : j = k
            · rw [e]; exact HQ.out
            · exact HP.out j (by omega)
          · have hb : (nth xs k != nth ys k) = true := by simp [hq]
            have HN : Hid (decide (xs = ys) = false) := by simpa [Hid] using ne_of_getD hq
            clear hq
            go_wp2
            go_quiet (fail)
            go_wp2
            go_ret
            exact ⟨ret_bool HN.out.symm, n + nq, World.drewN_drewN _ _ _⟩
        · have HD : Hid (decide (xs = ys) = true) := equal_done Hl.out hlt HP.out
          go_wp2
          go_ret
          exact ⟨ret_bool HD.out.symm, _, rfl⟩
  · have hne : ((xs.length : Int) != (ys.length : Int)) = true := by simp; omega
    have hd : decide (xs = ys) = false := by simp; intro e; exact hl (by rw [e])
    rw [hd]
    go_enter Tryz.func44, Tryz.ntmps44
    go_wp2
    go_ret
    exact ⟨rfl, 0, rfl⟩
theorem same_any (v1 v2 : Value) (xs ys : List Int) (w : World) (h1 : Sl w v1 xs) (h2 : Sl w v2 ys) :
    Calls Tryz.prog 21 #[.agg #[v1], .agg #[v2]] w fun e w' => e = .returned (.bool (decide (xs = ys))) ∧ Below w.heap.size w w' := by
  have bel : ∀ o1 o2, Below w.heap.size w ((w.alloc o1).alloc o2) := fun o1 o2 => bel_alloc (bel_alloc (Below.refl _ _) _) _
  go_enter Tryz.func21, Tryz.ntmps21
  go_wp2_with fail
  refine (equal_any _ _ xs ys _ ?_ ?_).mono ?_
  · exact h1.keep (bel _ _)
  · exact h2.keep (bel _ _)
  rintro e w1 ⟨rfl, n, rfl⟩
  go_wp2
  go_ret
  exact ⟨rfl, bel_drewN (bel _ _) _⟩
def sameH (a b : Ht) : Bool := decide (a.pc = b.pc) && decide (a.done = b.done) && decide (a.r = b.r)
theorem tth_get {l : List Tc} {i : Nat} (h : i < l.length) : tth l i = l[i] := by simp [tth, h]
theorem lines_ext {xs ys : List Ln} (hl : xs.length = ys.length) (h : ∀ i, i < xs.length → lth xs i = lth ys i) : xs = ys := by
  apply List.ext_getElem hl
  intro i h1 h2
  have := h i h1
  rwa [lth_get h1, lth_get h2] at this
theorem lines_ne {xs ys : List Ln} {i : Nat} (h : ¬ lth xs i = lth ys i) : ¬ xs = ys := fun e => h (by rw [e])
theorem line_diff {a b c : Int} {d e : Bool} {a' b' c' : Int} {d' e' : Bool} (h : ¬ (a, b, c, d, e) = (a', b', c', d', e')) :
    ¬ a = a' ∨ (a = a' ∧ ¬ b = b') ∨ (a = a' ∧ b = b' ∧ ¬ c = c') ∨ (a = a' ∧ b = b' ∧ c = c' ∧ ¬ d = d') ∨ (a = a' ∧ b = b' ∧ c = c' ∧ d = d' ∧ ¬ e = e') := by
  simp only [Prod.mk.injEq] at h
  by_cases h1 : a = a'
  · by_cases h2 : b = b'
    · by_cases h3 : c = c'
      · by_cases h4 : d = d'
        · by_cases h5 : e = e'
          · exact absurd ⟨h1, h2, h3, h4, h5⟩ h
          · exact .inr (.inr (.inr (.inr ⟨h1, h2, h3, h4, h5⟩)))
        · exact .inr (.inr (.inr (.inl ⟨h1, h2, h3, h4⟩)))
      · exact .inr (.inr (.inl ⟨h1, h2, h3⟩))
    · exact .inr (.inl ⟨h1, h2⟩)
  · exact .inl h1
set_option maxHeartbeats 1000000 in
theorem equalL_any (v1 v2 : Value) (xs ys : List Ln) (w : World) (h1 : Ls w v1 xs) (h2 : Ls w v2 ys) :
    Calls Tryz.prog 20 #[v1, v2] w fun e w' => e = .returned (.bool (decide (xs = ys))) ∧ ∃ n, w' = w.drewN n := by
  obtain ⟨a1, c1, rfl, n1, l1, h1⟩ := h1
  obtain ⟨a2, c2, rfl, n2, l2, h2⟩ := h2
  unfold maxLen at l1 l2
  by_cases hl : xs.length = ys.length
  · have hne : ((xs.length : Int) != (ys.length : Int)) = false := by simp [hl]
    rcases h1 with rfl | ⟨b1, o1, rfl, hb1, hc1⟩
    · obtain rfl : ys = [] := List.eq_nil_of_length_eq_zero hl.symm
      go_enter Tryz.func20, Tryz.ntmps20
      go_wp2
      go_loopw [5, 13] (fun _ i w' => i = J 0 ∧ w' = w) (fun _ i _ => 0)
      case atStart => exact ⟨rfl, rfl⟩
      case round =>
        obtain ⟨rfl, rfl⟩ := hrel
        go_wp2
        go_ret
        exact ⟨rfl, 0, rfl⟩
    · rcases h2 with rfl | ⟨b2, o2, rfl, hb2, hc2⟩
      · obtain rfl : xs = [] := List.eq_nil_of_length_eq_zero hl
        go_enter Tryz.func20, Tryz.ntmps20
        go_wp2
        go_loopw [5, 13] (fun _ i w' => i = J 0 ∧ w' = w) (fun _ i _ => 0)
        case atStart => exact ⟨rfl, rfl⟩
        case round =>
          obtain ⟨rfl, rfl⟩ := hrel
          go_wp2
          go_ret
          exact ⟨rfl, 0, rfl⟩
      have Hl : Hid (xs.length = ys.length) := hl
      have hle : (xs.length : Int) ≤ ys.length := by omega
      have H1 := hc1
      have H2 := hc2
      clear hl hc1 hc2
      have HC1 : Hid _ := H1
      have HC2 : Hid _ := H2
      clear H1 H2
      go_enter Tryz.func20, Tryz.ntmps20
      go_wp2
      go_loopw [5, 13] (fun _ i w' => ∃ k : Nat, k ≤ xs.length ∧ i = J k ∧ (∀ j, j < k → lth xs j = lth ys j) ∧ ∃ n, w' = w.drewN n) (fun _ i _ => xs.length - (intOf i).toNat)
      case atStart => exact ⟨0, Nat.zero_le _, rfl, fun j hj => absurd hj (Nat.not_lt_zero _), 0, rfl⟩
      case round =>
        obtain ⟨k, hk, rfl, hpre, n, rfl⟩ := hrel
        have HP : Hid (∀ j, j < k → lth xs j = lth ys j) := hpre
        clear hpre
        by_cases hlt : k < xs.length
        · obtain ⟨g0, g1, g2, g3, g4⟩ := HC1.out k hlt
          obtain ⟨f0, f1, f2, f3, f4⟩ := HC2.out k (by have := Hl.out; omega)
          have hlt1 : (k : Int) < xs.length := by omega
          have hlt2 : (k : Int) < ys.length := by omega
          obtain ⟨y, hy⟩ : ∃ y, y = lth xs k := ⟨_, rfl⟩
          obtain ⟨z, hz⟩ : ∃ z, z = lth ys k := ⟨_, rfl⟩
          have HY : Hid (y = lth xs k) := hy
          have HZ : Hid (z = lth ys k) := hz
          rw [← hy] at g0 g1 g2 g3 g4
          rw [← hz] at f0 f1 f2 f3 f4
          clear hy hz
          obtain ⟨d1, p1, a1, r1, x1⟩ := y
          obtain ⟨d2, p2, a2, r2, x2⟩ := z
          simp only at g0 g1 g2 g3 g4 f0 f1 f2 f3 f4
          by_cases hq : (d1, p1, a1, r1, x1) = ((d2, p2, a2, r2, x2) : Ln)
          · have HQ : Hid (lth xs k = lth ys k) := by show _ = _; rw [← HY.out, ← HZ.out]; exact hq
            simp only [Prod.mk.injEq] at hq
            obtain ⟨rfl, rfl, rfl, rfl, rfl⟩ := hq
            go_wp2
            go_quiet (fail)
            go_wp2
            exact ⟨⟨k + 1, by omega, by go_num, upto_next HP.out HQ.out, _, rfl⟩, by simp [intOf]; omega⟩
          · have HN : Hid (decide (xs = ys) = false) := decide_eq_false (lines_ne (i := k) (by rw [← HY.out, ← HZ.out]; exact hq))
            rcases line_diff hq with e1 | ⟨rfl, e1⟩ | ⟨rfl, rfl, e1⟩ | ⟨rfl, rfl, rfl, e1⟩ | ⟨rfl, rfl, rfl, rfl, e1⟩
            all_goals
              clear hq
              go_wp2
              go_quiet (fail)
              go_wp2
              go_ret
              exact ⟨ret_bool HN.out.symm, n + nq, World.drewN_drewN _ _ _⟩
        · have HD : Hid (decide (xs = ys) = true) := decide_eq_true (lines_ext Hl.out fun i hi => HP.out i (by omega))
          go_wp2
          go_ret
          exact ⟨ret_bool HD.out.symm, _, rfl⟩
  · have hne : ((xs.length : Int) != (ys.length : Int)) = true := by simp; omega
    have hd : decide (xs = ys) = false := by simp; intro e; exact hl (by rw [e])
    rw [hd]
    go_enter Tryz.func20, Tryz.ntmps20
    go_wp2
    go_ret
    exact ⟨rfl, 0, rfl⟩
def sameBr (a b : Br) : Bool :=
  decide (a.mode = b.mode) && (decide (a.base = b.base) && (decide (a.cache = b.cache) && (decide (a.op = b.op) && (decide (a.oh = b.oh) && (decide (a.ot = b.ot) && (decide (a.stop = b.stop) && (decide (a.fen = b.fen) && (decide (a.fp = b.fp) && (decide (a.fh = b.fh) && (decide (a.ft = b.ft) && decide (a.lost = b.lost)))))))))))
theorem sameBr_self (b : Br) : sameBr b b = true := by simp [sameBr]
set_option maxHeartbeats 4000000 in
theorem bSame_any (mo ba op oh ot fe fp fh ft : Int) (st lo : Bool) (vc : Value) (l : List Ln) (mo1 ba1 op1 oh1 ot1 fe1 fp1 fh1 ft1 : Int) (st1 lo1 : Bool) (vc1 : Value) (l1 : List Ln) (w : World) (h : Ls w vc l) (h1 : Ls w vc1 l1) :
    Calls Tryz.prog 22 #[.agg #[J mo, J ba, vc, J op, J oh, J ot, .bool st, J fe, J fp, J fh, J ft, .bool lo], .agg #[J mo1, J ba1, vc1, J op1, J oh1, J ot1, .bool st1, J fe1, J fp1, J fh1, J ft1, .bool lo1]] w fun e w' => e = .returned (.bool (sameBr ⟨mo, ba, l, op, oh, ot, st, fe, fp, fh, ft, lo⟩ ⟨mo1, ba1, l1, op1, oh1, ot1, st1, fe1, fp1, fh1, ft1, lo1⟩)) ∧ Below w.heap.size w w' := by
  have HS : Hid (Ls w vc l) := h
  have HS1 : Hid (Ls w vc1 l1) := h1
  obtain ⟨va, vk, rfl, -⟩ := h.shape
  obtain ⟨va1, vk1, rfl, -⟩ := h1.shape
  clear h h1
  by_cases hd : mo = mo1
  rotate_left
  · have HE : Hid (sameBr ⟨mo, ba, l, op, oh, ot, st, fe, fp, fh, ft, lo⟩ ⟨mo1, ba1, l1, op1, oh1, ot1, st1, fe1, fp1, fh1, ft1, lo1⟩ = false) := by show _ = _; simp [sameBr, hd]
    have hq : (mo == mo1) = false := by simpa using hd
    go_enter Tryz.func22, Tryz.ntmps22
    go_wp2_with fail
    go_ret
    exact ⟨ret_bool HE.out.symm, by first | exact bel_alloc (bel_alloc (Below.refl _ _) _) _ | exact bel_drewN (bel_alloc (bel_alloc (Below.refl _ _) _) _) _⟩
  subst hd
  by_cases hd : ba = ba1
  rotate_left
  · have HE : Hid (sameBr ⟨mo, ba, l, op, oh, ot, st, fe, fp, fh, ft, lo⟩ ⟨mo, ba1, l1, op1, oh1, ot1, st1, fe1, fp1, fh1, ft1, lo1⟩ = false) := by show _ = _; simp [sameBr, hd]
    have hq : (ba == ba1) = false := by simpa using hd
    go_enter Tryz.func22, Tryz.ntmps22
    go_wp2_with fail
    go_ret
    exact ⟨ret_bool HE.out.symm, by first | exact bel_alloc (bel_alloc (Below.refl _ _) _) _ | exact bel_drewN (bel_alloc (bel_alloc (Below.refl _ _) _) _) _⟩
  subst hd
  by_cases hd : l = l1
  rotate_left
  · have HE : Hid (sameBr ⟨mo, ba, l, op, oh, ot, st, fe, fp, fh, ft, lo⟩ ⟨mo, ba, l1, op1, oh1, ot1, st1, fe1, fp1, fh1, ft1, lo1⟩ = false) := by show _ = _; simp [sameBr, hd]
    have hq : decide (l = l1) = false := by simpa using hd
    go_enter Tryz.func22, Tryz.ntmps22
    go_wp2_with (go_at_call 20; refine (equalL_any _ _ l l1 _ (HS.out.keep (bel_alloc (bel_alloc (Below.refl _ _) _) _)) (HS1.out.keep (bel_alloc (bel_alloc (Below.refl _ _) _) _))).mono ?_; rintro e w' ⟨rfl, n, rfl⟩)
    go_ret
    exact ⟨ret_bool HE.out.symm, by first | exact bel_alloc (bel_alloc (Below.refl _ _) _) _ | exact bel_drewN (bel_alloc (bel_alloc (Below.refl _ _) _) _) _⟩
  subst hd
  by_cases hd : op = op1
  rotate_left
  · have HE : Hid (sameBr ⟨mo, ba, l, op, oh, ot, st, fe, fp, fh, ft, lo⟩ ⟨mo, ba, l, op1, oh1, ot1, st1, fe1, fp1, fh1, ft1, lo1⟩ = false) := by show _ = _; simp [sameBr, hd]
    have hq : (op == op1) = false := by simpa using hd
    go_enter Tryz.func22, Tryz.ntmps22
    go_wp2_with (go_at_call 20; refine (equalL_any _ _ l l _ (HS.out.keep (bel_alloc (bel_alloc (Below.refl _ _) _) _)) (HS1.out.keep (bel_alloc (bel_alloc (Below.refl _ _) _) _))).mono ?_; rintro e w' ⟨rfl, n, rfl⟩)
    go_ret
    exact ⟨ret_bool HE.out.symm, by first | exact bel_alloc (bel_alloc (Below.refl _ _) _) _ | exact bel_drewN (bel_alloc (bel_alloc (Below.refl _ _) _) _) _⟩
  subst hd
  by_cases hd : oh = oh1
  rotate_left
  · have HE : Hid (sameBr ⟨mo, ba, l, op, oh, ot, st, fe, fp, fh, ft, lo⟩ ⟨mo, ba, l, op, oh1, ot1, st1, fe1, fp1, fh1, ft1, lo1⟩ = false) := by show _ = _; simp [sameBr, hd]
    have hq : (oh == oh1) = false := by simpa using hd
    go_enter Tryz.func22, Tryz.ntmps22
    go_wp2_with (go_at_call 20; refine (equalL_any _ _ l l _ (HS.out.keep (bel_alloc (bel_alloc (Below.refl _ _) _) _)) (HS1.out.keep (bel_alloc (bel_alloc (Below.refl _ _) _) _))).mono ?_; rintro e w' ⟨rfl, n, rfl⟩)
    go_ret
    exact ⟨ret_bool HE.out.symm, by first | exact bel_alloc (bel_alloc (Below.refl _ _) _) _ | exact bel_drewN (bel_alloc (bel_alloc (Below.refl _ _) _) _) _⟩
  subst hd
  by_cases hd : ot = ot1
  rotate_left
  · have HE : Hid (sameBr ⟨mo, ba, l, op, oh, ot, st, fe, fp, fh, ft, lo⟩ ⟨mo, ba, l, op, oh, ot1, st1, fe1, fp1, fh1, ft1, lo1⟩ = false) := by show _ = _; simp [sameBr, hd]
    have hq : (ot == ot1) = false := by simpa using hd
    go_enter Tryz.func22, Tryz.ntmps22
    go_wp2_with (go_at_call 20; refine (equalL_any _ _ l l _ (HS.out.keep (bel_alloc (bel_alloc (Below.refl _ _) _) _)) (HS1.out.keep (bel_alloc (bel_alloc (Below.refl _ _) _) _))).mono ?_; rintro e w' ⟨rfl, n, rfl⟩)
    go_ret
    exact ⟨ret_bool HE.out.symm, by first | exact bel_alloc (bel_alloc (Below.refl _ _) _) _ | exact bel_drewN (bel_alloc (bel_alloc (Below.refl _ _) _) _) _⟩
  subst hd
  by_cases hd : st = st1
  rotate_left
  · have HE : Hid (sameBr ⟨mo, ba, l, op, oh, ot, st, fe, fp, fh, ft, lo⟩ ⟨mo, ba, l, op, oh, ot, st1, fe1, fp1, fh1, ft1, lo1⟩ = false) := by show _ = _; simp [sameBr, hd]
    have hq : (st == st1) = false := by simpa using hd
    go_enter Tryz.func22, Tryz.ntmps22
    go_wp2_with (go_at_call 20; refine (equalL_any _ _ l l _ (HS.out.keep (bel_alloc (bel_alloc (Below.refl _ _) _) _)) (HS1.out.keep (bel_alloc (bel_alloc (Below.refl _ _) _) _))).mono ?_; rintro e w' ⟨rfl, n, rfl⟩)
    go_ret
    exact ⟨ret_bool HE.out.symm, by first | exact bel_alloc (bel_alloc (Below.refl _ _) _) _ | exact bel_drewN (bel_alloc (bel_alloc (Below.refl _ _) _) _) _⟩
  subst hd
  by_cases hd : fe = fe1
  rotate_left
  · have HE : Hid (sameBr ⟨mo, ba, l, op, oh, ot, st, fe, fp, fh, ft, lo⟩ ⟨mo, ba, l, op, oh, ot, st, fe1, fp1, fh1, ft1, lo1⟩ = false) := by show _ = _; simp [sameBr, hd]
    have hq : (fe == fe1) = false := by simpa using hd
    go_enter Tryz.func22, Tryz.ntmps22
    go_wp2_with (go_at_call 20; refine (equalL_any _ _ l l _ (HS.out.keep (bel_alloc (bel_alloc (Below.refl _ _) _) _)) (HS1.out.keep (bel_alloc (bel_alloc (Below.refl _ _) _) _))).mono ?_; rintro e w' ⟨rfl, n, rfl⟩)
    go_ret
    exact ⟨ret_bool HE.out.symm, by first | exact bel_alloc (bel_alloc (Below.refl _ _) _) _ | exact bel_drewN (bel_alloc (bel_alloc (Below.refl _ _) _) _) _⟩
  subst hd
  by_cases hd : fp = fp1
  rotate_left
  · have HE : Hid (sameBr ⟨mo, ba, l, op, oh, ot, st, fe, fp, fh, ft, lo⟩ ⟨mo, ba, l, op, oh, ot, st, fe, fp1, fh1, ft1, lo1⟩ = false) := by show _ = _; simp [sameBr, hd]
    have hq : (fp == fp1) = false := by simpa using hd
    go_enter Tryz.func22, Tryz.ntmps22
    go_wp2_with (go_at_call 20; refine (equalL_any _ _ l l _ (HS.out.keep (bel_alloc (bel_alloc (Below.refl _ _) _) _)) (HS1.out.keep (bel_alloc (bel_alloc (Below.refl _ _) _) _))).mono ?_; rintro e w' ⟨rfl, n, rfl⟩)
    go_ret
    exact ⟨ret_bool HE.out.symm, by first | exact bel_alloc (bel_alloc (Below.refl _ _) _) _ | exact bel_drewN (bel_alloc (bel_alloc (Below.refl _ _) _) _) _⟩
  subst hd
  by_cases hd : fh = fh1
  rotate_left
  · have HE : Hid (sameBr ⟨mo, ba, l, op, oh, ot, st, fe, fp, fh, ft, lo⟩ ⟨mo, ba, l, op, oh, ot, st, fe, fp, fh1, ft1, lo1⟩ = false) := by show _ = _; simp [sameBr, hd]
    have hq : (fh == fh1) = false := by simpa using hd
    go_enter Tryz.func22, Tryz.ntmps22
    go_wp2_with (go_at_call 20; refine (equalL_any _ _ l l _ (HS.out.keep (bel_alloc (bel_alloc (Below.refl _ _) _) _)) (HS1.out.keep (bel_alloc (bel_alloc (Below.refl _ _) _) _))).mono ?_; rintro e w' ⟨rfl, n, rfl⟩)
    go_ret
    exact ⟨ret_bool HE.out.symm, by first | exact bel_alloc (bel_alloc (Below.refl _ _) _) _ | exact bel_drewN (bel_alloc (bel_alloc (Below.refl _ _) _) _) _⟩
  subst hd
  by_cases hd : ft = ft1
  rotate_left
  · have HE : Hid (sameBr ⟨mo, ba, l, op, oh, ot, st, fe, fp, fh, ft, lo⟩ ⟨mo, ba, l, op, oh, ot, st, fe, fp, fh, ft1, lo1⟩ = false) := by show _ = _; simp [sameBr, hd]
    have hq : (ft == ft1) = false := by simpa using hd
    go_enter Tryz.func22, Tryz.ntmps22
    go_wp2_with (go_at_call 20; refine (equalL_any _ _ l l _ (HS.out.keep (bel_alloc (bel_alloc (Below.refl _ _) _) _)) (HS1.out.keep (bel_alloc (bel_alloc (Below.refl _ _) _) _))).mono ?_; rintro e w' ⟨rfl, n, rfl⟩)
    go_ret
    exact ⟨ret_bool HE.out.symm, by first | exact bel_alloc (bel_alloc (Below.refl _ _) _) _ | exact bel_drewN (bel_alloc (bel_alloc (Below.refl _ _) _) _) _⟩
  subst hd
  by_cases hd : lo = lo1
  rotate_left
  · have HE : Hid (sameBr ⟨mo, ba, l, op, oh, ot, st, fe, fp, fh, ft, lo⟩ ⟨mo, ba, l, op, oh, ot, st, fe, fp, fh, ft, lo1⟩ = false) := by show _ = _; simp [sameBr, hd]
    have hq : (lo == lo1) = false := by simpa using hd
    go_enter Tryz.func22, Tryz.ntmps22
    go_wp2_with (go_at_call 20; refine (equalL_any _ _ l l _ (HS.out.keep (bel_alloc (bel_alloc (Below.refl _ _) _) _)) (HS1.out.keep (bel_alloc (bel_alloc (Below.refl _ _) _) _))).mono ?_; rintro e w' ⟨rfl, n, rfl⟩)
    go_ret
    exact ⟨ret_bool HE.out.symm, by first | exact bel_alloc (bel_alloc (Below.refl _ _) _) _ | exact bel_drewN (bel_alloc (bel_alloc (Below.refl _ _) _) _) _⟩
  subst hd
  have HE : Hid (sameBr ⟨mo, ba, l, op, oh, ot, st, fe, fp, fh, ft, lo⟩ ⟨mo, ba, l, op, oh, ot, st, fe, fp, fh, ft, lo⟩ = true) := sameBr_self _
  go_enter Tryz.func22, Tryz.ntmps22
  go_wp2_with (go_at_call 20; refine (equalL_any _ _ l l _ (HS.out.keep (bel_alloc (bel_alloc (Below.refl _ _) _) _)) (HS1.out.keep (bel_alloc (bel_alloc (Below.refl _ _) _) _))).mono ?_; rintro e w' ⟨rfl, n, rfl⟩)
  go_ret
  exact ⟨ret_bool HE.out.symm, by first | exact bel_alloc (bel_alloc (Below.refl _ _) _) _ | exact bel_drewN (bel_alloc (bel_alloc (Below.refl _ _) _) _) _⟩
set_option maxHeartbeats 1000000 in
theorem hSame_any (p : Int) (v : Value) (r : List Int) (d : Bool) (p1 : Int) (v1 : Value) (r1 : List Int) (d1 : Bool) (w : World) (h : Sl w v r) (h1 : Sl w v1 r1) :
    Calls Tryz.prog 19 #[.agg #[J p, v, .bool d], .agg #[J p1, v1, .bool d1]] w fun e w' => e = .returned (.bool (sameH ⟨p, r, d⟩ ⟨p1, r1, d1⟩)) ∧ Below w.heap.size w w' := by
  have ho : sameH ⟨p, r, d⟩ ⟨p1, r1, d1⟩ = (decide (p = p1) && decide (d = d1) && decide (r = r1)) := rfl
  rw [ho]
  clear ho
  have H1 : Hid (Sl w v r) := h
  have H2 : Hid (Sl w v1 r1) := h1
  obtain ⟨a, c, rfl, -⟩ := h
  obtain ⟨a1, c1, rfl, -⟩ := h1
  by_cases e1 : p = p1
  rotate_left
  · have q1 : (p == p1) = false := by simpa using e1
    have d1 : Hid (decide (p = p1) = false) := decide_eq_false e1
    clear e1
    go_enter Tryz.func19, Tryz.ntmps19
    go_wp2
    go_ret
    exact ⟨ret_bool (by rw [d1.out]; rfl), bel_alloc (bel_alloc (Below.refl _ _) _) _⟩
  subst e1
  have B2 : ∀ A B : Obj, Below w.heap.size w ((w.alloc A).alloc B) := fun A B => bel_alloc (bel_alloc (Below.refl _ _) A) B
  obtain ⟨rr, hrr⟩ : ∃ rr, decide (r = r1) = rr := ⟨_, rfl⟩
  have HR : Hid (decide (r = r1) = rr) := hrr
  clear hrr
  go_enter Tryz.func19, Tryz.ntmps19
  go_wp2_with fail
  refine (equal_any _ _ r r1 _ (H1.out.keep (B2 _ _)) (H2.out.keep (B2 _ _))).mono ?_
  rintro e w1 ⟨rfl, n, rfl⟩
  rw [HR.out]
  cases rr
  · go_wp2
    go_ret
    exact ⟨ret_bool (by rw [HR.out]; simp), bel_drewN (bel_alloc (bel_alloc (Below.refl _ _) _) _) _⟩
  · go_wp2
    go_ret
    exact ⟨ret_bool (by rw [HR.out]; cases d <;> cases d1 <;> rfl), bel_drewN (bel_alloc (bel_alloc (Below.refl _ _) _) _) _⟩
section
open Go
variable {P : Program} {ops : Array Oper} {Q : Exit → Act → World → Prop} {md : Region.Mode} {S : World → Prop}
end
theorem IsT.size {w : World} {t : To} {cs : Array Value} (h : IsT w t cs) : cs.size = 4 ∧ cs.all (·.oneCell') = true := by
  obtain ⟨a4, n4, c4, a5, n5, c5, rfl, -⟩ := h; exact ⟨rfl, by simp [Value.oneCell']⟩
theorem IsT.keep {w w' : World} {t : To} {cs : Array Value} (h : IsT w t cs) (hb : Below w.heap.size w w') : IsT w' t cs := by
  obtain ⟨a4, n4, c4, a5, n5, c5, rfl, h1, h2⟩ := h; exact ⟨a4, n4, c4, a5, n5, c5, rfl, h1.keep hb, h2.keep hb⟩
theorem touches_ext {xs ys : List Tc} (hl : xs.length = ys.length) (h : ∀ i, i < xs.length → tth xs i = tth ys i) : xs = ys := by
  apply List.ext_getElem hl
  intro i h1 h2
  have := h i h1
  rwa [tth_get h1, tth_get h2] at this
theorem touches_ne {xs ys : List Tc} {i : Nat} (h : ¬ tth xs i = tth ys i) : ¬ xs = ys := fun e => h (by rw [e])
theorem touch_diff {a b c : Int} {d : Bool} {e : Int} {a' b' c' : Int} {d' : Bool} {e' : Int} (h : ¬ (a, b, c, d, e) = (a', b', c', d', e')) :
    ¬ a = a' ∨ (a = a' ∧ ¬ b = b') ∨ (a = a' ∧ b = b' ∧ ¬ c = c') ∨ (a = a' ∧ b = b' ∧ c = c' ∧ ¬ d = d') ∨ (a = a' ∧ b = b' ∧ c = c' ∧ d = d' ∧ ¬ e = e') := by
  simp only [Prod.mk.injEq] at h
  by_cases h1 : a = a'
  · by_cases h2 : b = b'
    · by_cases h3 : c = c'
      · by_cases h4 : d = d'
        · by_cases h5 : e = e'
          · exact absurd ⟨h1, h2, h3, h4, h5⟩ h
          · exact .inr (.inr (.inr (.inr ⟨h1, h2, h3, h4, h5⟩)))
        · exact .inr (.inr (.inr (.inl ⟨h1, h2, h3, h4⟩)))
      · exact .inr (.inr (.inl ⟨h1, h2, h3⟩))
    · exact .inr (.inl ⟨h1, h2⟩)
  · exact .inl h1
set_option maxHeartbeats 1000000 in
theorem equalT_any (v1 v2 : Value) (xs ys : List Tc) (w : World) (h1 : Ts w v1 xs) (h2 : Ts w v2 ys) :
    Calls Tryz.prog 47 #[v1, v2] w fun e w' => e = .returned (.bool (decide (xs = ys))) ∧ ∃ n, w' = w.drewN n := by
  obtain ⟨a1, c1, rfl, n1, l1, h1⟩ := h1
  obtain ⟨a2, c2, rfl, n2, l2, h2⟩ := h2
  unfold maxLen at l1 l2
  by_cases hl : xs.length = ys.length
  · have hne : ((xs.length : Int) != (ys.length : Int)) = false := by simp [hl]
    rcases h1 with rfl | ⟨b1, o1, rfl, hb1, hc1⟩
    · obtain rfl : ys = [] := List.eq_nil_of_length_eq_zero hl.symm
      go_enter Tryz.func47, Tryz.ntmps47
      go_wp2
      go_loopw [5, 13] (fun _ i w' => i = J 0 ∧ w' = w) (fun _ i _ => 0)
      case atStart => exact ⟨rfl, rfl⟩
      case round =>
        obtain ⟨rfl, rfl⟩ := hrel
        go_wp2
        go_ret
        exact ⟨rfl, 0, rfl⟩
    · rcases h2 with rfl | ⟨b2, o2, rfl, hb2, hc2⟩
      · obtain rfl : xs = [] := List.eq_nil_of_length_eq_zero hl
        go_enter Tryz.func47, Tryz.ntmps47
        go_wp2
        go_loopw [5, 13] (fun _ i w' => i = J 0 ∧ w' = w) (fun _ i _ => 0)
        case atStart => exact ⟨rfl, rfl⟩
        case round =>
          obtain ⟨rfl, rfl⟩ := hrel
          go_wp2
          go_ret
          exact ⟨rfl, 0, rfl⟩
      have Hl : Hid (xs.length = ys.length) := hl
      have hle : (xs.length : Int) ≤ ys.length := by omega
      have H1 := hc1
      have H2 := hc2
      clear hl hc1 hc2
      have HC1 : Hid _ := H1
      have HC2 : Hid _ := H2
      clear H1 H2
      go_enter Tryz.func47, Tryz.ntmps47
      go_wp2
      go_loopw [5, 13] (fun _ i w' => ∃ k : Nat, k ≤ xs.length ∧ i = J k ∧ (∀ j, j < k → tth xs j = tth ys j) ∧ ∃ n, w' = w.drewN n) (fun _ i _ => xs.length - (intOf i).toNat)
      case atStart => exact ⟨0, Nat.zero_le _, rfl, fun j hj => absurd hj (Nat.not_lt_zero _), 0, rfl⟩
      case round =>
        obtain ⟨k, hk, rfl, hpre, n, rfl⟩ := hrel
        have HP : Hid (∀ j, j < k → tth xs j = tth ys j) := hpre
        clear hpre
        by_cases hlt : k < xs.length
        · obtain ⟨g0, g1, g2, g3, g4⟩ := HC1.out k hlt
          obtain ⟨f0, f1, f2, f3, f4⟩ := HC2.out k (by have := Hl.out; omega)
          have hlt1 : (k : Int) < xs.length := by omega
          have hlt2 : (k : Int) < ys.length := by omega
          obtain ⟨y, hy⟩ : ∃ y, y = tth xs k := ⟨_, rfl⟩
          obtain ⟨z, hz⟩ : ∃ z, z = tth ys k := ⟨_, rfl⟩
          have HY : Hid (y = tth xs k) := hy
          have HZ : Hid (z = tth ys k) := hz
          rw [← hy] at g0 g1 g2 g3 g4
          rw [← hz] at f0 f1 f2 f3 f4
          clear hy hz
          obtain ⟨d1, p1, a1, r1, x1⟩ := y
          obtain ⟨d2, p2, a2, r2, x2⟩ := z
          simp only at g0 g1 g2 g3 g4 f0 f1 f2 f3 f4
          by_cases hq : (d1, p1, a1, r1, x1) = ((d2, p2, a2, r2, x2) : Tc)
          · have HQ : Hid (tth xs k = tth ys k) := by show _ = _; rw [← HY.out, ← HZ.out]; exact hq
            simp only [Prod.mk.injEq] at hq
            obtain ⟨rfl, rfl, rfl, rfl, rfl⟩ := hq
            go_wp2
            go_quiet (fail)
            go_wp2
            exact ⟨⟨k + 1, by omega, by go_num, upto_next HP.out HQ.out, _, rfl⟩, by simp [intOf]; omega⟩
          · have HN : Hid (decide (xs = ys) = false) := decide_eq_false (touches_ne (i := k) (by rw [← HY.out, ← HZ.out]; exact hq))
            rcases touch_diff hq with e1 | ⟨rfl, e1⟩ | ⟨rfl, rfl, e1⟩ | ⟨rfl, rfl, rfl, e1⟩ | ⟨rfl, rfl, rfl, rfl, e1⟩
            all_goals
              clear hq
              go_wp2
              go_quiet (fail)
              go_wp2
              go_ret
              exact ⟨ret_bool HN.out.symm, n + nq, World.drewN_drewN _ _ _⟩
        · have HD : Hid (decide (xs = ys) = true) := decide_eq_true (touches_ext Hl.out fun i hi => HP.out i (by omega))
          go_wp2
          go_ret
          exact ⟨ret_bool HD.out.symm, _, rfl⟩
  · have hne : ((xs.length : Int) != (ys.length : Int)) = true := by simp; omega
    have hd : decide (xs = ys) = false := by simp; intro e; exact hl (by rw [e])
    rw [hd]
    go_enter Tryz.func47, Tryz.ntmps47
    go_wp2
    go_ret
    exact ⟨rfl, 0, rfl⟩
set_option maxHeartbeats 2000000 in
theorem sameTold_eq (dn : Bool) (v1 v2 : Value) (dat : List Int) (f : Int) (u1 u2 : Value) (tch : List Tc) (w : World) (h1 : Sl w v1 dat) (h2 : Sl w v2 dat) (k1 : Ts w u1 tch) (k2 : Ts w u2 tch) :
    Calls Tryz.prog 17 #[.agg #[.bool dn, v1, J f, u1], .agg #[.bool dn, v2, J f, u2]] w fun e w' => e = .returned (.bool true) ∧ Below w.heap.size w w' := by
  have H1 : Hid (Sl w v1 dat) := h1
  have H2 : Hid (Sl w v2 dat) := h2
  have K1 : Hid (Ts w u1 tch) := k1
  have K2 : Hid (Ts w u2 tch) := k2
  obtain ⟨a1, c1, rfl⟩ := h1.shape
  obtain ⟨a2, c2, rfl⟩ := h2.shape
  obtain ⟨b1, e1, rfl, -⟩ := k1
  obtain ⟨b2, e2, rfl, -⟩ := k2
  clear h1 h2
  have B0 : Hid (Below w.heap.size w ((w.alloc (.cells #[.bool dn, .slice a1 dat.length c1, J f, .slice b1 tch.length e1] 40)).alloc (.cells #[.bool dn, .slice a2 dat.length c2, J f, .slice b2 tch.length e2] 40))) := bel_alloc (bel_alloc (Below.refl _ _) _) _
  have X0 := (Box.newAt (n := w.heap.size) rfl 40 #[.bool dn, .slice a1 dat.length c1, J f, .slice b1 tch.length e1]).past (.cells #[.bool dn, .slice a2 dat.length c2, J f, .slice b2 tch.length e2] 40)
  have X1 := Box.newAt (w := w.alloc (.cells #[.bool dn, .slice a1 dat.length c1, J f, .slice b1 tch.length e1] 40)) (n := w.heap.size + 1) (by simp) 40 #[.bool dn, .slice a2 dat.length c2, J f, .slice b2 tch.length e2]
  have hdd : (dn == dn) = true := by simp
  go_enter Tryz.func17, Tryz.ntmps17
  go_wp2_with fail
  refine (equal_any _ _ dat dat _ (H1.out.keep B0.out) (H2.out.keep B0.out)).mono ?_
  rintro e w1 ⟨rfl, nq, rfl⟩
  rw [decide_eq_true (rfl : dat = dat)]
  obtain ⟨t0, t1, t2, t3, -, -, -, -, s0⟩ := (X0.drewN nq).four
  obtain ⟨u0, u1, u2, u3, -, -, -, -, s1⟩ := (X1.drewN nq).four
  have T1 : Hid (Ts (((w.alloc (.cells #[.bool dn, .slice a1 dat.length c1, J f, .slice b1 tch.length e1] 40)).alloc (.cells #[.bool dn, .slice a2 dat.length c2, J f, .slice b2 tch.length e2] 40)).drewN nq) _ tch) := (K1.out.keep B0.out : Ts _ _ tch)
  have T2 : Hid (Ts (((w.alloc (.cells #[.bool dn, .slice a1 dat.length c1, J f, .slice b1 tch.length e1] 40)).alloc (.cells #[.bool dn, .slice a2 dat.length c2, J f, .slice b2 tch.length e2] 40)).drewN nq) _ tch) := (K2.out.keep B0.out : Ts _ _ tch)
  have B1 : Hid (Below w.heap.size w (((w.alloc (.cells #[.bool dn, .slice a1 dat.length c1, J f, .slice b1 tch.length e1] 40)).alloc (.cells #[.bool dn, .slice a2 dat.length c2, J f, .slice b2 tch.length e2] 40)).drewN nq)) := bel_drewN B0.out nq
  clear X0 X1
  generalize (((w.alloc (.cells #[.bool dn, .slice a1 dat.length c1, J f, .slice b1 tch.length e1] 40)).alloc (.cells #[.bool dn, .slice a2 dat.length c2, J f, .slice b2 tch.length e2] 40)).drewN nq) = W at *
  go_wp2_with fail
  refine (equalT_any _ _ tch tch _ T1.out T2.out).mono ?_
  rintro e w2 ⟨rfl, n2, rfl⟩
  rw [decide_eq_true (rfl : tch = tch)]
  go_wp2
  go_ret
  exact ⟨rfl, bel_drewN B1.out _⟩
end Go.Proofs.YthlhocneggcekaaGreat
