/-
  Laid together: EqualL, SameB, ShutWalk, TellMath, Word1.
-/
import Derived.Test.YtefcdcneenjbgabT7
/-
  slices.Equal on two slices of lines answers whether they read as one list, whatever they are; it only reads.
-/
namespace Go.Proofs.Ytefcdcneenjbgab
open Go.RowKit

theorem lines_ext {xs ys : List Ln} (hl : xs.length = ys.length) (h : ∀ i, i < xs.length → lth xs i = lth ys i) : xs = ys := by
  apply List.ext_getElem hl
  intro i h1 h2
  have := h i h1
  rwa [lth_get h1, lth_get h2] at this
theorem lines_ne {xs ys : List Ln} {i : Nat} (h : ¬ lth xs i = lth ys i) : ¬ xs = ys := fun e => h (by rw [e])
/-- Where two lines part first. -/
theorem line_diff {a b c : Int} {d e : Bool} {a' b' c' : Int} {d' e' : Bool} (h : ¬ (a, b, c, d, e) = (a', b', c', d', e')) :
    ¬ a = a' ∨ (a = a' ∧ ¬ b = b') ∨ (a = a' ∧ b = b' ∧ ¬ c = c') ∨ (a = a' ∧ b = b' ∧ c = c' ∧ ¬ d = d') ∨ (a = a' ∧ b = b' ∧ c = c' ∧ d = d' ∧ ¬ e = e') := by
  simp only [Prod.mk.injEq] at h
  by_cases h1 : a = a'
  · by_cases h2 : b = b'
    · by_cases h3 : c = c'
      · by_cases h4 : d = d'
        · by_cases h5 : e = e'
          · exact absurd ⟨h1, h2, h3, h4, h5⟩ h
          · exact .inr (.inr (.inr (.inr ⟨h1, h2, h3, h4, h5⟩)))
        · exact .inr (.inr (.inr (.inl ⟨h1, h2, h3, h4⟩)))
      · exact .inr (.inr (.inl ⟨h1, h2, h3⟩))
    · exact .inr (.inl ⟨h1, h2⟩)
  · exact .inl h1

set_option maxHeartbeats 1000000 in
theorem equalL_any (v1 v2 : Value) (xs ys : List Ln) (w : World) (h1 : Ls w v1 xs) (h2 : Ls w v2 ys) :
    Calls Try.prog 42 #[v1, v2] w fun e w' => e = .returned (.bool (decide (xs = ys))) ∧ ∃ n, w' = w.drewN n := by
  obtain ⟨a1, c1, rfl, n1, l1, h1⟩ := h1
  obtain ⟨a2, c2, rfl, n2, l2, h2⟩ := h2
  unfold maxLen at l1 l2
  by_cases hl : xs.length = ys.length
  · have hne : ((xs.length : Int) != (ys.length : Int)) = false := by simp [hl]
    rcases h1 with rfl | ⟨b1, o1, rfl, hb1, hc1⟩
    · obtain rfl : ys = [] := List.eq_nil_of_length_eq_zero hl.symm
      go_enter Try.func42, Try.ntmps42
      go_wp2
      go_loopw [5, 13] (fun _ i w' => i = .int .i64 0 ∧ w' = w) (fun _ i _ => 0)
      case atStart => exact ⟨rfl, rfl⟩
      case round =>
        obtain ⟨rfl, rfl⟩ := hrel
        go_wp2
        go_ret
        exact ⟨rfl, 0, rfl⟩
    · rcases h2 with rfl | ⟨b2, o2, rfl, hb2, hc2⟩
      · obtain rfl : xs = [] := List.eq_nil_of_length_eq_zero hl
        go_enter Try.func42, Try.ntmps42
        go_wp2
        go_loopw [5, 13] (fun _ i w' => i = .int .i64 0 ∧ w' = w) (fun _ i _ => 0)
        case atStart => exact ⟨rfl, rfl⟩
        case round =>
          obtain ⟨rfl, rfl⟩ := hrel
          go_wp2
          go_ret
          exact ⟨rfl, 0, rfl⟩
      have Hl : Hid (xs.length = ys.length) := hl
      have hle : (xs.length : Int) ≤ ys.length := by omega
      have H1 := hc1
      have H2 := hc2
      clear hl hc1 hc2
      have HC1 : Hid _ := H1
      have HC2 : Hid _ := H2
      clear H1 H2
      go_enter Try.func42, Try.ntmps42
      go_wp2
      go_loopw [5, 13] (fun _ i w' => ∃ k : Nat, k ≤ xs.length ∧ i = .int .i64 k ∧ (∀ j, j < k → lth xs j = lth ys j) ∧ ∃ n, w' = w.drewN n) (fun _ i _ => xs.length - (intOf i).toNat)
      case atStart => exact ⟨0, Nat.zero_le _, rfl, fun j hj => absurd hj (Nat.not_lt_zero _), 0, rfl⟩
      case round =>
        obtain ⟨k, hk, rfl, hpre, n, rfl⟩ := hrel
        have HP : Hid (∀ j, j < k → lth xs j = lth ys j) := hpre
        clear hpre
        by_cases hlt : k < xs.length
        · obtain ⟨g0, g1, g2, g3, g4⟩ := HC1.out k hlt
          obtain ⟨f0, f1, f2, f3, f4⟩ := HC2.out k (by have := Hl.out; omega)
          have hlt1 : (k : Int) < xs.length := by omega
          have hlt2 : (k : Int) < ys.length := by omega
          obtain ⟨y, hy⟩ : ∃ y, y = lth xs k := ⟨_, rfl⟩
          obtain ⟨z, hz⟩ : ∃ z, z = lth ys k := ⟨_, rfl⟩
          have HY : Hid (y = lth xs k) := hy
          have HZ : Hid (z = lth ys k) := hz
          rw [← hy] at g0 g1 g2 g3 g4
          rw [← hz] at f0 f1 f2 f3 f4
          clear hy hz
          obtain ⟨d1, p1, a1, r1, x1⟩ := y
          obtain ⟨d2, p2, a2, r2, x2⟩ := z
          simp only at g0 g1 g2 g3 g4 f0 f1 f2 f3 f4
          by_cases hq : (d1, p1, a1, r1, x1) = ((d2, p2, a2, r2, x2) : Ln)
          · have HQ : Hid (lth xs k = lth ys k) := by show _ = _; rw [← HY.out, ← HZ.out]; exact hq
            simp only [Prod.mk.injEq] at hq
            obtain ⟨rfl, rfl, rfl, rfl, rfl⟩ := hq
            go_wp2
            go_quiet (fail)
            go_wp2
            exact ⟨⟨k + 1, by omega, by go_num, upto_next HP.out HQ.out, _, rfl⟩, by simp [intOf]; omega⟩
          · have HN : Hid (decide (xs = ys) = false) := decide_eq_false (lines_ne (i := k) (by rw [← HY.out, ← HZ.out]; exact hq))
            rcases line_diff hq with e1 | ⟨rfl, e1⟩ | ⟨rfl, rfl, e1⟩ | ⟨rfl, rfl, rfl, e1⟩ | ⟨rfl, rfl, rfl, rfl, e1⟩
            all_goals
              clear hq
              go_wp2
              go_quiet (fail)
              go_wp2
              go_ret
              exact ⟨ret_bool HN.out.symm, n + nq, World.drewN_drewN _ _ _⟩
        · have HD : Hid (decide (xs = ys) = true) := decide_eq_true (lines_ext Hl.out fun i hi => HP.out i (by omega))
          go_wp2
          go_ret
          exact ⟨ret_bool HD.out.symm, _, rfl⟩
  · have hne : ((xs.length : Int) != (ys.length : Int)) = true := by simp; omega
    have hd : decide (xs = ys) = false := by simp; intro e; exact hl (by rw [e])
    rw [hd]
    go_enter Try.func42, Try.ntmps42
    go_wp2
    go_ret
    exact ⟨rfl, 0, rfl⟩
end Go.Proofs.Ytefcdcneenjbgab
/-
  bridge.Same and drawbridgeref.SameBridge: are two bridges alike? Nothing that was there turns.
-/
namespace Go.Proofs.Ytefcdcneenjbgab
open Go.RowKit

/-- Are they alike? -/
def sameBr (a b : Br) : Bool :=
  decide (a.mode = b.mode) && (decide (a.base = b.base) && (decide (a.cache = b.cache) && (decide (a.op = b.op) && (decide (a.oh = b.oh) && (decide (a.ot = b.ot) && (decide (a.stop = b.stop) && (decide (a.fen = b.fen) && (decide (a.fp = b.fp) && (decide (a.fh = b.fh) && (decide (a.ft = b.ft) && decide (a.lost = b.lost)))))))))))
theorem sameBr_self (b : Br) : sameBr b b = true := by simp [sameBr]
theorem sameBr_eq {a b : Br} (h : sameBr a b = true) : a = b := by
  simp only [sameBr, Bool.and_eq_true, decide_eq_true_eq] at h
  obtain ⟨h0, h1, h2, h3, h4, h5, h6, h7, h8, h9, h10, h11⟩ := h
  cases a; cases b
  simp_all
theorem sameBr_ne {a b : Br} (h : ¬ a = b) : sameBr a b = false := by
  cases hs : sameBr a b
  · rfl
  · exact absurd (sameBr_eq hs) h

set_option maxHeartbeats 4000000 in
theorem bSame_any (mo ba op oh ot fe fp fh ft : Int) (st lo : Bool) (vc : Value) (l : List Ln) (mo1 ba1 op1 oh1 ot1 fe1 fp1 fh1 ft1 : Int) (st1 lo1 : Bool) (vc1 : Value) (l1 : List Ln) (w : World) (h : Ls w vc l) (h1 : Ls w vc1 l1) :
    Calls Try.prog 30 #[.agg #[.int .i64 mo, .int .i64 ba, vc, .int .i64 op, .int .i64 oh, .int .i64 ot, .bool st, .int .i64 fe, .int .i64 fp, .int .i64 fh, .int .i64 ft, .bool lo], .agg #[.int .i64 mo1, .int .i64 ba1, vc1, .int .i64 op1, .int .i64 oh1, .int .i64 ot1, .bool st1, .int .i64 fe1, .int .i64 fp1, .int .i64 fh1, .int .i64 ft1, .bool lo1]] w fun e w' => e = .returned (.bool (sameBr ⟨mo, ba, l, op, oh, ot, st, fe, fp, fh, ft, lo⟩ ⟨mo1, ba1, l1, op1, oh1, ot1, st1, fe1, fp1, fh1, ft1, lo1⟩)) ∧ Below w.heap.size w w' := by
  have HS : Hid (Ls w vc l) := h
  have HS1 : Hid (Ls w vc1 l1) := h1
  obtain ⟨va, vk, rfl, -⟩ := h.shape
  obtain ⟨va1, vk1, rfl, -⟩ := h1.shape
  clear h h1
  by_cases hd : mo = mo1
  rotate_left
  · have HE : Hid (sameBr ⟨mo, ba, l, op, oh, ot, st, fe, fp, fh, ft, lo⟩ ⟨mo1, ba1, l1, op1, oh1, ot1, st1, fe1, fp1, fh1, ft1, lo1⟩ = false) := by show _ = _; simp [sameBr, hd]
    have hq : (mo == mo1) = false := by simpa using hd
    go_enter Try.func30, Try.ntmps30
    go_wp2_with fail
    go_ret
    exact ⟨ret_bool HE.out.symm, by first | exact bel_alloc (bel_alloc (Below.refl _ _) _) _ | exact bel_drewN (bel_alloc (bel_alloc (Below.refl _ _) _) _) _⟩
  subst hd
  by_cases hd : ba = ba1
  rotate_left
  · have HE : Hid (sameBr ⟨mo, ba, l, op, oh, ot, st, fe, fp, fh, ft, lo⟩ ⟨mo, ba1, l1, op1, oh1, ot1, st1, fe1, fp1, fh1, ft1, lo1⟩ = false) := by show _ = _; simp [sameBr, hd]
    have hq : (ba == ba1) = false := by simpa using hd
    go_enter Try.func30, Try.ntmps30
    go_wp2_with fail
    go_ret
    exact ⟨ret_bool HE.out.symm, by first | exact bel_alloc (bel_alloc (Below.refl _ _) _) _ | exact bel_drewN (bel_alloc (bel_alloc (Below.refl _ _) _) _) _⟩
  subst hd
  by_cases hd : l = l1
  rotate_left
  · have HE : Hid (sameBr ⟨mo, ba, l, op, oh, ot, st, fe, fp, fh, ft, lo⟩ ⟨mo, ba, l1, op1, oh1, ot1, st1, fe1, fp1, fh1, ft1, lo1⟩ = false) := by show _ = _; simp [sameBr, hd]
    have hq : decide (l = l1) = false := by simpa using hd
    go_enter Try.func30, Try.ntmps30
    go_wp2_with (go_at_call 42; refine (equalL_any _ _ l l1 _ (HS.out.keep (bel_alloc (bel_alloc (Below.refl _ _) _) _)) (HS1.out.keep (bel_alloc (bel_alloc (Below.refl _ _) _) _))).mono ?_; rintro e w' ⟨rfl, n, rfl⟩)
    go_ret
    exact ⟨ret_bool HE.out.symm, by first | exact bel_alloc (bel_alloc (Below.refl _ _) _) _ | exact bel_drewN (bel_alloc (bel_alloc (Below.refl _ _) _) _) _⟩
  subst hd
  by_cases hd : op = op1
  rotate_left
  · have HE : Hid (sameBr ⟨mo, ba, l, op, oh, ot, st, fe, fp, fh, ft, lo⟩ ⟨mo, ba, l, op1, oh1, ot1, st1, fe1, fp1, fh1, ft1, lo1⟩ = false) := by show _ = _; simp [sameBr, hd]
    have hq : (op == op1) = false := by simpa using hd
    go_enter Try.func30, Try.ntmps30
    go_wp2_with (go_at_call 42; refine (equalL_any _ _ l l _ (HS.out.keep (bel_alloc (bel_alloc (Below.refl _ _) _) _)) (HS1.out.keep (bel_alloc (bel_alloc (Below.refl _ _) _) _))).mono ?_; rintro e w' ⟨rfl, n, rfl⟩)
    go_ret
    exact ⟨ret_bool HE.out.symm, by first | exact bel_alloc (bel_alloc (Below.refl _ _) _) _ | exact bel_drewN (bel_alloc (bel_alloc (Below.refl _ _) _) _) _⟩
  subst hd
  by_cases hd : oh = oh1
  rotate_left
  · have HE : Hid (sameBr ⟨mo, ba, l, op, oh, ot, st, fe, fp, fh, ft, lo⟩ ⟨mo, ba, l, op, oh1, ot1, st1, fe1, fp1, fh1, ft1, lo1⟩ = false) := by show _ = _; simp [sameBr, hd]
    have hq : (oh == oh1) = false := by simpa using hd
    go_enter Try.func30, Try.ntmps30
    go_wp2_with (go_at_call 42; refine (equalL_any _ _ l l _ (HS.out.keep (bel_alloc (bel_alloc (Below.refl _ _) _) _)) (HS1.out.keep (bel_alloc (bel_alloc (Below.refl _ _) _) _))).mono ?_; rintro e w' ⟨rfl, n, rfl⟩)
    go_ret
    exact ⟨ret_bool HE.out.symm, by first | exact bel_alloc (bel_alloc (Below.refl _ _) _) _ | exact bel_drewN (bel_alloc (bel_alloc (Below.refl _ _) _) _) _⟩
  subst hd
  by_cases hd : ot = ot1
  rotate_left
  · have HE : Hid (sameBr ⟨mo, ba, l, op, oh, ot, st, fe, fp, fh, ft, lo⟩ ⟨mo, ba, l, op, oh, ot1, st1, fe1, fp1, fh1, ft1, lo1⟩ = false) := by show _ = _; simp [sameBr, hd]
    have hq : (ot == ot1) = false := by simpa using hd
    go_enter Try.func30, Try.ntmps30
    go_wp2_with (go_at_call 42; refine (equalL_any _ _ l l _ (HS.out.keep (bel_alloc (bel_alloc (Below.refl _ _) _) _)) (HS1.out.keep (bel_alloc (bel_alloc (Below.refl _ _) _) _))).mono ?_; rintro e w' ⟨rfl, n, rfl⟩)
    go_ret
    exact ⟨ret_bool HE.out.symm, by first | exact bel_alloc (bel_alloc (Below.refl _ _) _) _ | exact bel_drewN (bel_alloc (bel_alloc (Below.refl _ _) _) _) _⟩
  subst hd
  by_cases hd : st = st1
  rotate_left
  · have HE : Hid (sameBr ⟨mo, ba, l, op, oh, ot, st, fe, fp, fh, ft, lo⟩ ⟨mo, ba, l, op, oh, ot, st1, fe1, fp1, fh1, ft1, lo1⟩ = false) := by show _ = _; simp [sameBr, hd]
    have hq : (st == st1) = false := by simpa using hd
    go_enter Try.func30, Try.ntmps30
    go_wp2_with (go_at_call 42; refine (equalL_any _ _ l l _ (HS.out.keep (bel_alloc (bel_alloc (Below.refl _ _) _) _)) (HS1.out.keep (bel_alloc (bel_alloc (Below.refl _ _) _) _))).mono ?_; rintro e w' ⟨rfl, n, rfl⟩)
    go_ret
    exact ⟨ret_bool HE.out.symm, by first | exact bel_alloc (bel_alloc (Below.refl _ _) _) _ | exact bel_drewN (bel_alloc (bel_alloc (Below.refl _ _) _) _) _⟩
  subst hd
  by_cases hd : fe = fe1
  rotate_left
  · have HE : Hid (sameBr ⟨mo, ba, l, op, oh, ot, st, fe, fp, fh, ft, lo⟩ ⟨mo, ba, l, op, oh, ot, st, fe1, fp1, fh1, ft1, lo1⟩ = false) := by show _ = _; simp [sameBr, hd]
    have hq : (fe == fe1) = false := by simpa using hd
    go_enter Try.func30, Try.ntmps30
    go_wp2_with (go_at_call 42; refine (equalL_any _ _ l l _ (HS.out.keep (bel_alloc (bel_alloc (Below.refl _ _) _) _)) (HS1.out.keep (bel_alloc (bel_alloc (Below.refl _ _) _) _))).mono ?_; rintro e w' ⟨rfl, n, rfl⟩)
    go_ret
    exact ⟨ret_bool HE.out.symm, by first | exact bel_alloc (bel_alloc (Below.refl _ _) _) _ | exact bel_drewN (bel_alloc (bel_alloc (Below.refl _ _) _) _) _⟩
  subst hd
  by_cases hd : fp = fp1
  rotate_left
  · have HE : Hid (sameBr ⟨mo, ba, l, op, oh, ot, st, fe, fp, fh, ft, lo⟩ ⟨mo, ba, l, op, oh, ot, st, fe, fp1, fh1, ft1, lo1⟩ = false) := by show _ = _; simp [sameBr, hd]
    have hq : (fp == fp1) = false := by simpa using hd
    go_enter Try.func30, Try.ntmps30
    go_wp2_with (go_at_call 42; refine (equalL_any _ _ l l _ (HS.out.keep (bel_alloc (bel_alloc (Below.refl _ _) _) _)) (HS1.out.keep (bel_alloc (bel_alloc (Below.refl _ _) _) _))).mono ?_; rintro e w' ⟨rfl, n, rfl⟩)
    go_ret
    exact ⟨ret_bool HE.out.symm, by first | exact bel_alloc (bel_alloc (Below.refl _ _) _) _ | exact bel_drewN (bel_alloc (bel_alloc (Below.refl _ _) _) _) _⟩
  subst hd
  by_cases hd : fh = fh1
  rotate_left
  · have HE : Hid (sameBr ⟨mo, ba, l, op, oh, ot, st, fe, fp, fh, ft, lo⟩ ⟨mo, ba, l, op, oh, ot, st, fe, fp, fh1, ft1, lo1⟩ = false) := by show _ = _; simp [sameBr, hd]
    have hq : (fh == fh1) = false := by simpa using hd
    go_enter Try.func30, Try.ntmps30
    go_wp2_with (go_at_call 42; refine (equalL_any _ _ l l _ (HS.out.keep (bel_alloc (bel_alloc (Below.refl _ _) _) _)) (HS1.out.keep (bel_alloc (bel_alloc (Below.refl _ _) _) _))).mono ?_; rintro e w' ⟨rfl, n, rfl⟩)
    go_ret
    exact ⟨ret_bool HE.out.symm, by first | exact bel_alloc (bel_alloc (Below.refl _ _) _) _ | exact bel_drewN (bel_alloc (bel_alloc (Below.refl _ _) _) _) _⟩
  subst hd
  by_cases hd : ft = ft1
  rotate_left
  · have HE : Hid (sameBr ⟨mo, ba, l, op, oh, ot, st, fe, fp, fh, ft, lo⟩ ⟨mo, ba, l, op, oh, ot, st, fe, fp, fh, ft1, lo1⟩ = false) := by show _ = _; simp [sameBr, hd]
    have hq : (ft == ft1) = false := by simpa using hd
    go_enter Try.func30, Try.ntmps30
    go_wp2_with (go_at_call 42; refine (equalL_any _ _ l l _ (HS.out.keep (bel_alloc (bel_alloc (Below.refl _ _) _) _)) (HS1.out.keep (bel_alloc (bel_alloc (Below.refl _ _) _) _))).mono ?_; rintro e w' ⟨rfl, n, rfl⟩)
    go_ret
    exact ⟨ret_bool HE.out.symm, by first | exact bel_alloc (bel_alloc (Below.refl _ _) _) _ | exact bel_drewN (bel_alloc (bel_alloc (Below.refl _ _) _) _) _⟩
  subst hd
  by_cases hd : lo = lo1
  rotate_left
  · have HE : Hid (sameBr ⟨mo, ba, l, op, oh, ot, st, fe, fp, fh, ft, lo⟩ ⟨mo, ba, l, op, oh, ot, st, fe, fp, fh, ft, lo1⟩ = false) := by show _ = _; simp [sameBr, hd]
    have hq : (lo == lo1) = false := by simpa using hd
    go_enter Try.func30, Try.ntmps30
    go_wp2_with (go_at_call 42; refine (equalL_any _ _ l l _ (HS.out.keep (bel_alloc (bel_alloc (Below.refl _ _) _) _)) (HS1.out.keep (bel_alloc (bel_alloc (Below.refl _ _) _) _))).mono ?_; rintro e w' ⟨rfl, n, rfl⟩)
    go_ret
    exact ⟨ret_bool HE.out.symm, by first | exact bel_alloc (bel_alloc (Below.refl _ _) _) _ | exact bel_drewN (bel_alloc (bel_alloc (Below.refl _ _) _) _) _⟩
  subst hd
  have HE : Hid (sameBr ⟨mo, ba, l, op, oh, ot, st, fe, fp, fh, ft, lo⟩ ⟨mo, ba, l, op, oh, ot, st, fe, fp, fh, ft, lo⟩ = true) := sameBr_self _
  go_enter Try.func30, Try.ntmps30
  go_wp2_with (go_at_call 42; refine (equalL_any _ _ l l _ (HS.out.keep (bel_alloc (bel_alloc (Below.refl _ _) _) _)) (HS1.out.keep (bel_alloc (bel_alloc (Below.refl _ _) _) _))).mono ?_; rintro e w' ⟨rfl, n, rfl⟩)
  go_ret
  exact ⟨ret_bool HE.out.symm, by first | exact bel_alloc (bel_alloc (Below.refl _ _) _) _ | exact bel_drewN (bel_alloc (bel_alloc (Below.refl _ _) _) _) _⟩

set_option maxHeartbeats 4000000 in
theorem sameBridge_any (mo ba op oh ot fe fp fh ft : Int) (st lo : Bool) (vc : Value) (l : List Ln) (mo1 ba1 op1 oh1 ot1 fe1 fp1 fh1 ft1 : Int) (st1 lo1 : Bool) (vc1 : Value) (l1 : List Ln) (w : World) (h : Ls w vc l) (h1 : Ls w vc1 l1) :
    Calls Try.prog 31 #[.agg #[.int .i64 mo, .int .i64 ba, vc, .int .i64 op, .int .i64 oh, .int .i64 ot, .bool st, .int .i64 fe, .int .i64 fp, .int .i64 fh, .int .i64 ft, .bool lo], .agg #[.int .i64 mo1, .int .i64 ba1, vc1, .int .i64 op1, .int .i64 oh1, .int .i64 ot1, .bool st1, .int .i64 fe1, .int .i64 fp1, .int .i64 fh1, .int .i64 ft1, .bool lo1]] w fun e w' => e = .returned (.bool (sameBr ⟨mo, ba, l, op, oh, ot, st, fe, fp, fh, ft, lo⟩ ⟨mo1, ba1, l1, op1, oh1, ot1, st1, fe1, fp1, fh1, ft1, lo1⟩)) ∧ Below w.heap.size w w' := by
  have HS : Hid (Ls w vc l) := h
  have HS1 : Hid (Ls w vc1 l1) := h1
  obtain ⟨va, vk, rfl, -⟩ := h.shape
  obtain ⟨va1, vk1, rfl, -⟩ := h1.shape
  clear h h1
  by_cases hd : mo = mo1
  rotate_left
  · have HE : Hid (sameBr ⟨mo, ba, l, op, oh, ot, st, fe, fp, fh, ft, lo⟩ ⟨mo1, ba1, l1, op1, oh1, ot1, st1, fe1, fp1, fh1, ft1, lo1⟩ = false) := by show _ = _; simp [sameBr, hd]
    have hq : (mo == mo1) = false := by simpa using hd
    go_enter Try.func31, Try.ntmps31
    go_wp2_with fail
    go_ret
    exact ⟨ret_bool HE.out.symm, by first | exact bel_alloc (bel_alloc (Below.refl _ _) _) _ | exact bel_drewN (bel_alloc (bel_alloc (Below.refl _ _) _) _) _⟩
  subst hd
  by_cases hd : ba = ba1
  rotate_left
  · have HE : Hid (sameBr ⟨mo, ba, l, op, oh, ot, st, fe, fp, fh, ft, lo⟩ ⟨mo, ba1, l1, op1, oh1, ot1, st1, fe1, fp1, fh1, ft1, lo1⟩ = false) := by show _ = _; simp [sameBr, hd]
    have hq : (ba == ba1) = false := by simpa using hd
    go_enter Try.func31, Try.ntmps31
    go_wp2_with fail
    go_ret
    exact ⟨ret_bool HE.out.symm, by first | exact bel_alloc (bel_alloc (Below.refl _ _) _) _ | exact bel_drewN (bel_alloc (bel_alloc (Below.refl _ _) _) _) _⟩
  subst hd
  by_cases hd : l = l1
  rotate_left
  · have HE : Hid (sameBr ⟨mo, ba, l, op, oh, ot, st, fe, fp, fh, ft, lo⟩ ⟨mo, ba, l1, op1, oh1, ot1, st1, fe1, fp1, fh1, ft1, lo1⟩ = false) := by show _ = _; simp [sameBr, hd]
    have hq : decide (l = l1) = false := by simpa using hd
    go_enter Try.func31, Try.ntmps31
    go_wp2_with (go_at_call 42; refine (equalL_any _ _ l l1 _ (HS.out.keep (bel_alloc (bel_alloc (Below.refl _ _) _) _)) (HS1.out.keep (bel_alloc (bel_alloc (Below.refl _ _) _) _))).mono ?_; rintro e w' ⟨rfl, n, rfl⟩)
    go_ret
    exact ⟨ret_bool HE.out.symm, by first | exact bel_alloc (bel_alloc (Below.refl _ _) _) _ | exact bel_drewN (bel_alloc (bel_alloc (Below.refl _ _) _) _) _⟩
  subst hd
  by_cases hd : op = op1
  rotate_left
  · have HE : Hid (sameBr ⟨mo, ba, l, op, oh, ot, st, fe, fp, fh, ft, lo⟩ ⟨mo, ba, l, op1, oh1, ot1, st1, fe1, fp1, fh1, ft1, lo1⟩ = false) := by show _ = _; simp [sameBr, hd]
    have hq : (op == op1) = false := by simpa using hd
    go_enter Try.func31, Try.ntmps31
    go_wp2_with (go_at_call 42; refine (equalL_any _ _ l l _ (HS.out.keep (bel_alloc (bel_alloc (Below.refl _ _) _) _)) (HS1.out.keep (bel_alloc (bel_alloc (Below.refl _ _) _) _))).mono ?_; rintro e w' ⟨rfl, n, rfl⟩)
    go_ret
    exact ⟨ret_bool HE.out.symm, by first | exact bel_alloc (bel_alloc (Below.refl _ _) _) _ | exact bel_drewN (bel_alloc (bel_alloc (Below.refl _ _) _) _) _⟩
  subst hd
  by_cases hd : oh = oh1
  rotate_left
  · have HE : Hid (sameBr ⟨mo, ba, l, op, oh, ot, st, fe, fp, fh, ft, lo⟩ ⟨mo, ba, l, op, oh1, ot1, st1, fe1, fp1, fh1, ft1, lo1⟩ = false) := by show _ = _; simp [sameBr, hd]
    have hq : (oh == oh1) = false := by simpa using hd
    go_enter Try.func31, Try.ntmps31
    go_wp2_with (go_at_call 42; refine (equalL_any _ _ l l _ (HS.out.keep (bel_alloc (bel_alloc (Below.refl _ _) _) _)) (HS1.out.keep (bel_alloc (bel_alloc (Below.refl _ _) _) _))).mono ?_; rintro e w' ⟨rfl, n, rfl⟩)
    go_ret
    exact ⟨ret_bool HE.out.symm, by first | exact bel_alloc (bel_alloc (Below.refl _ _) _) _ | exact bel_drewN (bel_alloc (bel_alloc (Below.refl _ _) _) _) _⟩
  subst hd
  by_cases hd : ot = ot1
  rotate_left
  · have HE : Hid (sameBr ⟨mo, ba, l, op, oh, ot, st, fe, fp, fh, ft, lo⟩ ⟨mo, ba, l, op, oh, ot1, st1, fe1, fp1, fh1, ft1, lo1⟩ = false) := by show _ = _; simp [sameBr, hd]
    have hq : (ot == ot1) = false := by simpa using hd
    go_enter Try.func31, Try.ntmps31
    go_wp2_with (go_at_call 42; refine (equalL_any _ _ l l _ (HS.out.keep (bel_alloc (bel_alloc (Below.refl _ _) _) _)) (HS1.out.keep (bel_alloc (bel_alloc (Below.refl _ _) _) _))).mono ?_; rintro e w' ⟨rfl, n, rfl⟩)
    go_ret
    exact ⟨ret_bool HE.out.symm, by first | exact bel_alloc (bel_alloc (Below.refl _ _) _) _ | exact bel_drewN (bel_alloc (bel_alloc (Below.refl _ _) _) _) _⟩
  subst hd
  by_cases hd : st = st1
  rotate_left
  · have HE : Hid (sameBr ⟨mo, ba, l, op, oh, ot, st, fe, fp, fh, ft, lo⟩ ⟨mo, ba, l, op, oh, ot, st1, fe1, fp1, fh1, ft1, lo1⟩ = false) := by show _ = _; simp [sameBr, hd]
    have hq : (st == st1) = false := by simpa using hd
    go_enter Try.func31, Try.ntmps31
    go_wp2_with (go_at_call 42; refine (equalL_any _ _ l l _ (HS.out.keep (bel_alloc (bel_alloc (Below.refl _ _) _) _)) (HS1.out.keep (bel_alloc (bel_alloc (Below.refl _ _) _) _))).mono ?_; rintro e w' ⟨rfl, n, rfl⟩)
    go_ret
    exact ⟨ret_bool HE.out.symm, by first | exact bel_alloc (bel_alloc (Below.refl _ _) _) _ | exact bel_drewN (bel_alloc (bel_alloc (Below.refl _ _) _) _) _⟩
  subst hd
  by_cases hd : fe = fe1
  rotate_left
  · have HE : Hid (sameBr ⟨mo, ba, l, op, oh, ot, st, fe, fp, fh, ft, lo⟩ ⟨mo, ba, l, op, oh, ot, st, fe1, fp1, fh1, ft1, lo1⟩ = false) := by show _ = _; simp [sameBr, hd]
    have hq : (fe == fe1) = false := by simpa using hd
    go_enter Try.func31, Try.ntmps31
    go_wp2_with (go_at_call 42; refine (equalL_any _ _ l l _ (HS.out.keep (bel_alloc (bel_alloc (Below.refl _ _) _) _)) (HS1.out.keep (bel_alloc (bel_alloc (Below.refl _ _) _) _))).mono ?_; rintro e w' ⟨rfl, n, rfl⟩)
    go_ret
    exact ⟨ret_bool HE.out.symm, by first | exact bel_alloc (bel_alloc (Below.refl _ _) _) _ | exact bel_drewN (bel_alloc (bel_alloc (Below.refl _ _) _) _) _⟩
  subst hd
  by_cases hd : fp = fp1
  rotate_left
  · have HE : Hid (sameBr ⟨mo, ba, l, op, oh, ot, st, fe, fp, fh, ft, lo⟩ ⟨mo, ba, l, op, oh, ot, st, fe, fp1, fh1, ft1, lo1⟩ = false) := by show _ = _; simp [sameBr, hd]
    have hq : (fp == fp1) = false := by simpa using hd
    go_enter Try.func31, Try.ntmps31
    go_wp2_with (go_at_call 42; refine (equalL_any _ _ l l _ (HS.out.keep (bel_alloc (bel_alloc (Below.refl _ _) _) _)) (HS1.out.keep (bel_alloc (bel_alloc (Below.refl _ _) _) _))).mono ?_; rintro e w' ⟨rfl, n, rfl⟩)
    go_ret
    exact ⟨ret_bool HE.out.symm, by first | exact bel_alloc (bel_alloc (Below.refl _ _) _) _ | exact bel_drewN (bel_alloc (bel_alloc (Below.refl _ _) _) _) _⟩
  subst hd
  by_cases hd : fh = fh1
  rotate_left
  · have HE : Hid (sameBr ⟨mo, ba, l, op, oh, ot, st, fe, fp, fh, ft, lo⟩ ⟨mo, ba, l, op, oh, ot, st, fe, fp, fh1, ft1, lo1⟩ = false) := by show _ = _; simp [sameBr, hd]
    have hq : (fh == fh1) = false := by simpa using hd
    go_enter Try.func31, Try.ntmps31
    go_wp2_with (go_at_call 42; refine (equalL_any _ _ l l _ (HS.out.keep (bel_alloc (bel_alloc (Below.refl _ _) _) _)) (HS1.out.keep (bel_alloc (bel_alloc (Below.refl _ _) _) _))).mono ?_; rintro e w' ⟨rfl, n, rfl⟩)
    go_ret
    exact ⟨ret_bool HE.out.symm, by first | exact bel_alloc (bel_alloc (Below.refl _ _) _) _ | exact bel_drewN (bel_alloc (bel_alloc (Below.refl _ _) _) _) _⟩
  subst hd
  by_cases hd : ft = ft1
  rotate_left
  · have HE : Hid (sameBr ⟨mo, ba, l, op, oh, ot, st, fe, fp, fh, ft, lo⟩ ⟨mo, ba, l, op, oh, ot, st, fe, fp, fh, ft1, lo1⟩ = false) := by show _ = _; simp [sameBr, hd]
    have hq : (ft == ft1) = false := by simpa using hd
    go_enter Try.func31, Try.ntmps31
    go_wp2_with (go_at_call 42; refine (equalL_any _ _ l l _ (HS.out.keep (bel_alloc (bel_alloc (Below.refl _ _) _) _)) (HS1.out.keep (bel_alloc (bel_alloc (Below.refl _ _) _) _))).mono ?_; rintro e w' ⟨rfl, n, rfl⟩)
    go_ret
    exact ⟨ret_bool HE.out.symm, by first | exact bel_alloc (bel_alloc (Below.refl _ _) _) _ | exact bel_drewN (bel_alloc (bel_alloc (Below.refl _ _) _) _) _⟩
  subst hd
  by_cases hd : lo = lo1
  rotate_left
  · have HE : Hid (sameBr ⟨mo, ba, l, op, oh, ot, st, fe, fp, fh, ft, lo⟩ ⟨mo, ba, l, op, oh, ot, st, fe, fp, fh, ft, lo1⟩ = false) := by show _ = _; simp [sameBr, hd]
    have hq : (lo == lo1) = false := by simpa using hd
    go_enter Try.func31, Try.ntmps31
    go_wp2_with (go_at_call 42; refine (equalL_any _ _ l l _ (HS.out.keep (bel_alloc (bel_alloc (Below.refl _ _) _) _)) (HS1.out.keep (bel_alloc (bel_alloc (Below.refl _ _) _) _))).mono ?_; rintro e w' ⟨rfl, n, rfl⟩)
    go_ret
    exact ⟨ret_bool HE.out.symm, by first | exact bel_alloc (bel_alloc (Below.refl _ _) _) _ | exact bel_drewN (bel_alloc (bel_alloc (Below.refl _ _) _) _) _⟩
  subst hd
  have HE : Hid (sameBr ⟨mo, ba, l, op, oh, ot, st, fe, fp, fh, ft, lo⟩ ⟨mo, ba, l, op, oh, ot, st, fe, fp, fh, ft, lo⟩ = true) := sameBr_self _
  go_enter Try.func31, Try.ntmps31
  go_wp2_with (go_at_call 42; refine (equalL_any _ _ l l _ (HS.out.keep (bel_alloc (bel_alloc (Below.refl _ _) _) _)) (HS1.out.keep (bel_alloc (bel_alloc (Below.refl _ _) _) _))).mono ?_; rintro e w' ⟨rfl, n, rfl⟩)
  go_ret
  exact ⟨ret_bool HE.out.symm, by first | exact bel_alloc (bel_alloc (Below.refl _ _) _) _ | exact bel_drewN (bel_alloc (bel_alloc (Below.refl _ _) _) _) _⟩
end Go.Proofs.Ytefcdcneenjbgab
/-
  The walk of BridgeShut: while the bridge is off, or bare.
-/
namespace Go.Proofs.Ytefcdcneenjbgab
open Go.RowKit

theorem at8_any (k : Int) (w : World) :
    Calls Try.prog 38 #[.int .i64 k, .int .i64 8] w fun e w' => e = .returned (.int .i64 (k % 8)) ∧ w' = w := by
  have b1 : -8 < k.tmod 8 := Int.lt_tmod_of_pos k (by decide)
  have b2 : k.tmod 8 < 8 := Int.tmod_lt_of_pos k (by decide)
  have HM : Hid (k.tmod 8 = k - 8 * k.tdiv 8) := Int.tmod_def k 8
  by_cases h : k.tmod 8 < 0
  · go_enter Try.func38, Try.ntmps38
    go_wp2
    go_ret
    exact ⟨ret_int (by have := HM.out; omega), rfl⟩
  · go_enter Try.func38, Try.ntmps38
    go_wp2
    go_ret
    exact ⟨ret_int (by have := HM.out; omega), rfl⟩

theorem at_of (k n : Int) (w : World) (hn : n = 8 ∨ n = 64) :
    Calls Try.prog 38 #[.int .i64 k, .int .i64 n] w fun e w' => e = .returned (.int .i64 (k % n)) ∧ w' = w := by
  rcases hn with rfl | rfl
  · exact at8_any k w
  · exact at64_any k w

theorem thE_off (zs : List Int) (ba : Int) (l : List Ln) (op oh ot : Int) (st : Bool) (fe fp fh ft : Int) (lo : Bool) (d p : Int) : thE zs ⟨1, ba, l, op, oh, ot, st, fe, fp, fh, ft, lo⟩ d p = thE zs ⟨0, ba, l, op, oh, ot, st, fe, fp, fh, ft, lo⟩ d p := by
  have : chkB ⟨1, ba, l, op, oh, ot, st, fe, fp, fh, ft, lo⟩ = chkB ⟨0, ba, l, op, oh, ot, st, fe, fp, fh, ft, lo⟩ := by simp [chkB, rngBr]
  rw [thE, thE, bothB, bothB, this]

set_option maxHeartbeats 4000000 in
theorem bridgeShut_walk (v : Value) (zs : List Int) (mo ba op oh ot fe fp fh ft : Int) (st lo : Bool) (vc : Value) (l : List Ln) (dv pg : Int) (wt : Bool) (w : World) (hs : Sl w v zs) (h : Ls w vc l) :
    Calls Try.prog 8 #[.agg #[v], .agg #[.int .i64 mo, .int .i64 ba, vc, .int .i64 op, .int .i64 oh, .int .i64 ot, .bool st, .int .i64 fe, .int .i64 fp, .int .i64 fh, .int .i64 ft, .bool lo], .int .i64 dv, .int .i64 pg, .bool wt] w fun e w' => e = .returned (.bool true) ∧ Below w.heap.size w w' := by
  have HS : Hid (Ls w vc l) := h
  obtain ⟨va, vk, rfl, -⟩ := h.shape
  have HM : Hid (Sl w v zs) := hs
  obtain ⟨ma, mc, rfl⟩ := hs.shape
  clear h hs
  obtain ⟨d, hd⟩ : ∃ d, dv % 8 = d := ⟨_, rfl⟩
  obtain ⟨p, hp⟩ : ∃ p, pg % 64 = p := ⟨_, rfl⟩
  have HD : Hid (dv % 8 = d) := hd
  have HP : Hid (pg % 64 = p) := hp
  clear hd hp
  obtain ⟨E, hE⟩ : ∃ E, thE zs ⟨0, ba, l, op, oh, ot, st, fe, fp, fh, ft, lo⟩ d p = E := ⟨_, rfl⟩
  have HE : Hid (_ = _) := hE
  have HE1 : Hid (thE zs ⟨1, ba, l, op, oh, ot, st, fe, fp, fh, ft, lo⟩ d p = E) := (thE_off ..).trans hE
  clear hE
  have BA : Hid (Below w.heap.size w _) := bel_alloc (bel_alloc (Below.refl w.heap.size w) (.cells #[.slice ma zs.length mc] 39)) (.cells #[.int .i64 0, .int .i64 ba, .slice va l.length vk, .int .i64 op, .int .i64 oh, .int .i64 ot, .bool st, .int .i64 fe, .int .i64 fp, .int .i64 fh, .int .i64 ft, .bool lo] 44)
  by_cases h0 : E = 0
  rotate_left
  · have HR0 : Hid (thR zs ⟨0, ba, l, op, oh, ot, st, fe, fp, fh, ft, lo⟩ d p wt = (B0, 0, 0)) := if_neg (by rw [HE.out]; exact h0)
    have HR1 : Hid (thR zs ⟨1, ba, l, op, oh, ot, st, fe, fp, fh, ft, lo⟩ d p wt = (B0, 0, 0)) := if_neg (by rw [HE1.out]; exact h0)
    have hq : (E != 0) = true := by simpa using h0
    go_enter Try.func8, Try.ntmps8
    go_wp2_with (go_at_call 38; refine (at_of _ _ _ (by decide)).mono ?_; rintro e w' ⟨rfl, rfl⟩; first | rw [HD.out] | rw [HP.out])
    refine (through_at (HM.out.keep BA.out) (HS.out.keep BA.out) HE.out HR0.out).mono ?_
    rintro e w1 ⟨va1, vk1, rfl, -, b1⟩
    have X0 := ((Box.newAt (n := w.heap.size) rfl 39 #[.slice ma zs.length mc]).past _).keep b1
    have X1 := (Box.newAt (n := w.heap.size + 1) (by simp) 44 #[.int .i64 0, .int .i64 ba, .slice va l.length vk, .int .i64 op, .int .i64 oh, .int .i64 ot, .bool st, .int .i64 fe, .int .i64 fp, .int .i64 fh, .int .i64 ft, .bool lo]).keep b1
    have B1 : Hid (Below w.heap.size w w1) := bel_trans BA.out b1
    clear b1 BA
    obtain ⟨m0, -, s0⟩ := X0.one
    obtain ⟨⟨q0, q1, q2, q3, q4, q5, q6, q7, q8, q9, q10, q11⟩, s1⟩ := X1.twelve
    obtain ⟨y0, -⟩ := X1.marks
    go_wp2_with fail
    have B2 : Hid (Below w.heap.size w ((w1.setCell ⟨w.heap.size + 1, 0, none⟩ (.int .i64 1)).alloc (.cells #[.int .i64 0, .int .i64 0, .slice va1 0 vk1, .int .i64 0, .int .i64 0, .int .i64 0, .bool false, .int .i64 0, .int .i64 0, .int .i64 0, .int .i64 0, .bool false] 44))) := bel_alloc (bel_set (p := ⟨w.heap.size + 1, 0, none⟩) (by dsimp only; omega) B1.out _) _
    refine (through_at (HM.out.keep B2.out) (HS.out.keep B2.out) HE1.out HR1.out).mono ?_
    rintro e w2 ⟨va2, vk2, rfl, -, b2⟩
    have B3 : Hid (Below w.heap.size w w2) := bel_trans B2.out b2
    clear b2 B1 B2 m0 s0 q0 q1 q2 q3 q4 q5 q6 q7 q8 q9 q10 q11 s1 y0
    go_wp2_with fail
    refine (crossed_true _).mono ?_
    rintro e w3 ⟨rfl, b3⟩
    have B4 : Hid (Below w.heap.size w w3) := bel_trans (bel_alloc B3.out _) b3
    clear b3 B3
    go_wp2_with fail
    refine (crossed_true _).mono ?_
    rintro e w4 ⟨rfl, b4⟩
    have B5 : Hid (Below w.heap.size w w4) := bel_trans B4.out b4
    clear b4 B4
    go_wp2
    go_ret
    exact ⟨rfl, B5.out⟩
  subst h0
  have HR0 : Hid (thR zs ⟨0, ba, l, op, oh, ot, st, fe, fp, fh, ft, lo⟩ d p wt = (⟨0, ba, l, op, oh, ot, st, fe, fp, fh, ft, lo⟩, 0, 1)) := by show _ = _; rw [thR, if_pos HE.out]; rfl
  have HR1 : Hid (thR zs ⟨1, ba, l, op, oh, ot, st, fe, fp, fh, ft, lo⟩ d p wt = (⟨1, ba, l, op, oh, ot, st, fe, fp, fh, ft, lo⟩, p, 0)) := by show _ = _; rw [thR, if_pos HE1.out]; rfl
  go_enter Try.func8, Try.ntmps8
  go_wp2_with (go_at_call 38; refine (at_of _ _ _ (by decide)).mono ?_; rintro e w' ⟨rfl, rfl⟩; first | rw [HD.out] | rw [HP.out])
  refine (through_at (HM.out.keep BA.out) (HS.out.keep BA.out) HE.out HR0.out).mono ?_
  rintro e w1 ⟨va1, vk1, rfl, hL1, b1⟩
  have X0 := ((Box.newAt (n := w.heap.size) rfl 39 #[.slice ma zs.length mc]).past _).keep b1
  have X1 := (Box.newAt (n := w.heap.size + 1) (by simp) 44 #[.int .i64 0, .int .i64 ba, .slice va l.length vk, .int .i64 op, .int .i64 oh, .int .i64 ot, .bool st, .int .i64 fe, .int .i64 fp, .int .i64 fh, .int .i64 ft, .bool lo]).keep b1
  have B1 : Hid (Below w.heap.size w w1) := bel_trans BA.out b1
  have HL1 : Hid (Ls ((w1.setCell ⟨w.heap.size + 1, 0, none⟩ (.int .i64 1)).alloc (.cells #[.int .i64 0, .int .i64 ba, .slice va1 l.length vk1, .int .i64 op, .int .i64 oh, .int .i64 ot, .bool st, .int .i64 fe, .int .i64 fp, .int .i64 fh, .int .i64 ft, .bool lo] 44)) (.slice va1 l.length vk1) l) := (hL1.putAt (hL1.apart X1) 0 _).alloc _
  have X1' : Box ((w1.setCell ⟨w.heap.size + 1, 0, none⟩ (.int .i64 1)).alloc (.cells #[.int .i64 0, .int .i64 ba, .slice va1 l.length vk1, .int .i64 op, .int .i64 oh, .int .i64 ot, .bool st, .int .i64 fe, .int .i64 fp, .int .i64 fh, .int .i64 ft, .bool lo] 44)) (w.heap.size + 1) 44 #[.int .i64 1, .int .i64 ba, .slice va l.length vk, .int .i64 op, .int .i64 oh, .int .i64 ot, .bool st, .int .i64 fe, .int .i64 fp, .int .i64 fh, .int .i64 ft, .bool lo] := (Box.set X1 0 (.int .i64 1)).past _
  have X2' : Box ((w1.setCell ⟨w.heap.size + 1, 0, none⟩ (.int .i64 1)).alloc (.cells #[.int .i64 0, .int .i64 ba, .slice va1 l.length vk1, .int .i64 op, .int .i64 oh, .int .i64 ot, .bool st, .int .i64 fe, .int .i64 fp, .int .i64 fh, .int .i64 ft, .bool lo] 44)) w1.heap.size 44 #[.int .i64 0, .int .i64 ba, .slice va1 l.length vk1, .int .i64 op, .int .i64 oh, .int .i64 ot, .bool st, .int .i64 fe, .int .i64 fp, .int .i64 fh, .int .i64 ft, .bool lo] := Box.newAt (by simp) _ _
  have B2 : Hid (Below w.heap.size w ((w1.setCell ⟨w.heap.size + 1, 0, none⟩ (.int .i64 1)).alloc (.cells #[.int .i64 0, .int .i64 ba, .slice va1 l.length vk1, .int .i64 op, .int .i64 oh, .int .i64 ot, .bool st, .int .i64 fe, .int .i64 fp, .int .i64 fh, .int .i64 ft, .bool lo] 44))) := bel_alloc (bel_set (p := ⟨w.heap.size + 1, 0, none⟩) (by dsimp only; omega) B1.out _) _
  clear b1 BA hL1 B1
  obtain ⟨m0, -, s0⟩ := X0.one
  obtain ⟨⟨q0, q1, q2, q3, q4, q5, q6, q7, q8, q9, q10, q11⟩, s1⟩ := X1.twelve
  obtain ⟨y0, -⟩ := X1.marks
  go_wp2_with fail
  clear m0 s0 q0 q1 q2 q3 q4 q5 q6 q7 q8 q9 q10 q11 s1 y0
  generalize ((w1.setCell ⟨w.heap.size + 1, 0, none⟩ (.int .i64 1)).alloc (.cells #[.int .i64 0, .int .i64 ba, .slice va1 l.length vk1, .int .i64 op, .int .i64 oh, .int .i64 ot, .bool st, .int .i64 fe, .int .i64 fp, .int .i64 fh, .int .i64 ft, .bool lo] 44)) = W2 at *
  generalize w1.heap.size = N at *
  refine (through_at (HM.out.keep B2.out) (HS.out.keep B2.out) HE1.out HR1.out).mono ?_
  rintro e w2 ⟨va2, vk2, rfl, hL2, b2⟩
  have X1 := (X1'.keep b2)
  have X2 := (X2'.keep b2)
  have HL1 : Hid (Ls _ (.slice va1 l.length vk1) l) := (HL1.out.keep b2)
  have B3 : Hid (Below w.heap.size w w2) := bel_trans B2.out b2
  clear b2 B2 X1' X2'
  go_wp2_with fail
  refine (crossed_true _).mono ?_
  rintro e w3 ⟨rfl, b3⟩
  have X1 := (X1.past _).keep b3
  have X2 := (X2.past _).keep b3
  have X3 := (Box.newAt (w := w2) rfl 44 #[.int .i64 1, .int .i64 ba, .slice va2 l.length vk2, .int .i64 op, .int .i64 oh, .int .i64 ot, .bool st, .int .i64 fe, .int .i64 fp, .int .i64 fh, .int .i64 ft, .bool lo]).keep b3
  have HL1 : Hid (Ls _ (.slice va1 l.length vk1) l) := (HL1.out.alloc _).keep b3
  have HL2 : Hid (Ls _ (.slice va2 l.length vk2) l) := (hL2.alloc _).keep b3
  have B4 : Hid (Below w.heap.size w w3) := bel_trans (bel_alloc B3.out _) b3
  have HSS : Hid (Ls w3 (.slice va l.length vk) l) := HS.out.keep B4.out
  clear b3 B3 hL2
  generalize w2.heap.size = O at *
  obtain ⟨⟨q0, q1, q2, q3, q4, q5, q6, q7, q8, q9, q10, q11⟩, s1⟩ := X1.twelve
  obtain ⟨⟨u0, u1, u2, u3, u4, u5, u6, u7, u8, u9, u10, u11⟩, s3⟩ := X3.twelve
  go_wp2_with fail
  refine (bSame_any _ _ _ _ _ _ _ _ _ _ _ _ l _ _ _ _ _ _ _ _ _ _ _ _ l _ HL2.out HSS.out).mono ?_
  rintro e w4 ⟨rfl, b4⟩
  rw [sameBr_self]
  clear q0 q1 q2 q3 q4 q5 q6 q7 q8 q9 q10 q11 s1 u0 u1 u2 u3 u4 u5 u6 u7 u8 u9 u10 u11 s3
  have X1 := X1.keep b4
  have X2 := X2.keep b4
  have B5 : Hid (Below w.heap.size w w4) := bel_trans B4.out b4
  have HL1 : Hid (Ls _ (.slice va1 l.length vk1) l) := HL1.out.keep b4
  have HSS : Hid (Ls _ (.slice va l.length vk) l) := HSS.out.keep b4
  clear b4 B4 HL2
  obtain ⟨⟨q0, q1, q2, q3, q4, q5, q6, q7, q8, q9, q10, q11⟩, s1⟩ := X1.twelve
  obtain ⟨⟨u0, u1, u2, u3, u4, u5, u6, u7, u8, u9, u10, u11⟩, s3⟩ := X2.twelve
  go_wp2_with fail
  refine (equalL_any _ _ l l _ HL1.out HSS.out).mono ?_
  rintro e w5 ⟨rfl, n, rfl⟩
  rw [decide_eq_true (rfl : l = l)]
  go_wp2
  go_ret
  exact ⟨rfl, bel_drewN B5.out _⟩
end Go.Proofs.Ytefcdcneenjbgab
/-
  The bridge, as data alone: what Tell, Obey answer; faults in their ring; orders one by one.
-/
namespace Go.Proofs.Ytefcdcneenjbgab
open Go.RowKit

/-- What Tell answers: the error, the words, the bridge. -/
def tlE (zs : List Int) (b : Br) (c d p : Int) : Int := if bothB zs b = 0 then fE c d p else bothB zs b
def fullB (b : Br) : Bool := b.lost || decide (lenR b.fh b.ft = 7)
def tlM (zs : List Int) (b : Br) (c d p : Int) (x : Bool) : List Int :=
  if tlE zs b c d p = 0 then (if fullB b = true then zs else zs.set (b.fp * 8 + b.ft).toNat (fW c d p x)) else []
def tlB (zs : List Int) (b : Br) (c d p : Int) : Br :=
  if tlE zs b c d p = 0 then (if fullB b = true then { b with lost := true } else { b with ft := (b.ft + 1) % 8 }) else B0

/-- What Obey answers: the error, the bridge. -/
def obE (zs : List Int) (b : Br) : Int := if bothB zs b = 0 then (if b.stop = true then 6 else if b.oh = b.ot then 6 else 0) else bothB zs b
def ordW (zs : List Int) (b : Br) : Int := nth zs (b.op * 8 + b.oh).toNat
def obB (zs : List Int) (b : Br) : Br :=
  if obE zs b = 0 then
    (if roE (ordW zs b) = 0 then { b with oh := (b.oh + 1) % 8, cache := drC b.cache (roO (ordW zs b)).1 (roO (ordW zs b)).2.1 (roO (ordW zs b)).2.2, fen := if (roO (ordW zs b)).1 = 0 then (b.fen + 1) % 1000 else b.fen }
    else { b with stop := true })
  else B0

theorem tlE_ok {zs : List Int} {b : Br} {c d p : Int} (h : tlE zs b c d p = 0) : chk zs = 0 ∧ chkB b = 0 ∧ fE c d p = 0 := by
  unfold tlE at h
  by_cases hb : bothB zs b = 0
  · rw [if_pos hb] at h
    exact ⟨(bothB_ok hb).1, (bothB_ok hb).2, h⟩
  · rw [if_neg hb] at h; exact absurd h hb
theorem fW_word {c d p : Int} (x : Bool) (h : fE c d p = 0) : wordB (fW c d p x) = true := by
  have := (rfE_ok (f_back (x := x) h).1).1
  simp [wordB]; omega
theorem tl_push {zs : List Int} {b : Br} {c d p : Int} (x : Bool) (h : tlE zs b c d p = 0) : psE zs b.fp b.fh b.ft (fW c d p x) = if lenR b.fh b.ft = 7 then 1 else 0 := by
  obtain ⟨h1, h2, h3⟩ := tlE_ok h
  obtain ⟨_, _, _, _, _, h6⟩ := chkB_ok h2
  rw [psE, if_pos (bothR_mk h1 h6), if_pos (fW_word x h3)]
theorem tl_good {zs : List Int} {b : Br} {c d p : Int} (x : Bool) (h : tlE zs b c d p = 0) : chk (tlM zs b c d p x) = 0 ∧ chkB (tlB zs b c d p) = 0 ∧ (tlB zs b c d p).lost = fullB b := by
  obtain ⟨h1, h2, h3⟩ := tlE_ok h
  obtain ⟨g1, g2, g3, g4, g5, g6⟩ := chkB_ok h2
  rw [tlM, if_pos h, tlB, if_pos h]
  by_cases hf : fullB b = true
  · rw [if_pos hf, if_pos hf]
    exact ⟨h1, chkB_mk g1 g2 g3 g4 g5 g6, hf.symm⟩
  · rw [if_neg hf, if_neg hf]
    obtain ⟨r1, r2, r3⟩ := chkR_ok g6
    have hl : b.lost = false := by
      simp only [fullB, Bool.or_eq_true, not_or] at hf
      simpa using hf.1
    refine ⟨chk_set h1 (fW_word x h3), chkB_mk g1 g2 g3 g4 g5 (chkR_mk r1 r2 ?_), ?_⟩
    · simp [stepR]; omega
    · have : fullB b = false := by simpa using hf
      rw [this]; exact hl

theorem obE_ok {zs : List Int} {b : Br} (h : obE zs b = 0) : chk zs = 0 ∧ chkB b = 0 ∧ b.stop = false ∧ ¬ b.oh = b.ot := by
  unfold obE at h
  by_cases hb : bothB zs b = 0
  · rw [if_pos hb] at h
    by_cases hs : b.stop = true
    · rw [if_pos hs] at h; exact absurd h (by decide)
    · rw [if_neg hs] at h
      by_cases he : b.oh = b.ot
      · rw [if_pos he] at h; exact absurd h (by decide)
      · exact ⟨(bothB_ok hb).1, (bothB_ok hb).2, by simpa using hs, he⟩
  · rw [if_neg hb] at h; exact absurd h hb
theorem obE_late {zs : List Int} {b : Br} (h1 : chk zs = 0) (h2 : chkB b = 0) (h : ¬ obE zs b = 0) : obE zs b = 6 ∧ (b.stop = true ∨ b.oh = b.ot) := by
  unfold obE at h ⊢
  rw [if_pos (bothB_mk h1 h2)] at h ⊢
  by_cases hs : b.stop = true
  · rw [if_pos hs]; exact ⟨rfl, .inl hs⟩
  · rw [if_neg hs] at h ⊢
    by_cases he : b.oh = b.ot
    · rw [if_pos he]; exact ⟨rfl, .inr he⟩
    · rw [if_neg he] at h; exact absurd rfl h
theorem ob_pop {zs : List Int} {b : Br} (h : obE zs b = 0) : ppE zs b.op b.oh b.ot = 0 ∧ ppV zs b.op b.oh b.ot = ordW zs b ∧ ppR zs b.op b.oh b.ot = (b.op, (b.oh + 1) % 8, b.ot) := by
  obtain ⟨h1, h2, _, h4⟩ := obE_ok h
  obtain ⟨_, _, _, _, g5, _⟩ := chkB_ok h2
  have e : ppE zs b.op b.oh b.ot = 0 := by rw [ppE, if_pos (bothR_mk h1 g5), if_neg h4]
  exact ⟨e, by rw [ppV, if_pos e]; rfl, by rw [ppR, if_pos e]⟩
/-- A bad order stops all, and nothing else. -/
theorem ob_bad {zs : List Int} {b : Br} (h : obE zs b = 0) (hr : ¬ roE (ordW zs b) = 0) : obB zs b = { b with stop := true } ∧ chkB (obB zs b) = 0 := by
  obtain ⟨_, h2, _, _⟩ := obE_ok h
  obtain ⟨g1, g2, g3, g4, g5, g6⟩ := chkB_ok h2
  have e : obB zs b = { b with stop := true } := by rw [obB, if_pos h, if_neg hr]
  rw [e]
  exact ⟨rfl, chkB_mk g1 g2 g3 g4 g5 g6⟩
/-- A right one is obeyed. -/
theorem ob_right {zs : List Int} {b : Br} {k d p : Int} (h : obE zs b = 0) (hr : roE (ordW zs b) = 0) (ho : roO (ordW zs b) = (k, d, p)) :
    obB zs b = { b with oh := (b.oh + 1) % 8, cache := drC b.cache k d p, fen := if k = 0 then (b.fen + 1) % 1000 else b.fen } ∧ chkB (obB zs b) = 0 ∧ drE b.cache k = 0 ∧ (0 ≤ k ∧ k ≤ 3) ∧ lenR ((b.oh + 1) % 8) b.ot = lenR b.oh b.ot - 1 := by
  obtain ⟨_, h2, _, h4⟩ := obE_ok h
  obtain ⟨g1, g2, g3, g4, g5, g6⟩ := chkB_ok h2
  obtain ⟨r1, r2, r3⟩ := chkR_ok g5
  have hk : 0 ≤ k ∧ k ≤ 3 := by
    have := (oE_ok (o_read hr ho).1).1
    omega
  have hd : drE b.cache k = 0 := by rw [drE, if_pos g4, if_pos hk]
  have e : obB zs b = { b with oh := (b.oh + 1) % 8, cache := drC b.cache k d p, fen := if k = 0 then (b.fen + 1) % 1000 else b.fen } := by
    rw [obB, if_pos h, if_pos hr, ho]
  refine ⟨e, ?_, hd, hk, ?_⟩
  · rw [e]
    refine chkB_mk g1 g2 ?_ (drop_good hd) (chkR_mk r1 ?_ r3) g6
    · show 0 ≤ (if k = 0 then (b.fen + 1) % 1000 else b.fen) ∧ (if k = 0 then (b.fen + 1) % 1000 else b.fen) ≤ 999
      split <;> omega
    · simp [stepR]; omega
  · have a := stepR_in r2
    have c := stepR_in r3
    unfold lenR; omega
theorem ob_fence (n : Int) : ¬ (n + 1) % 1000 = n := by omega
/-- What is left of the lines: nothing new; behind a DropAll nothing, behind a Fence all. -/
theorem left_in {l : List Ln} {k d p : Int} {x : Ln} (h : x ∈ drC l k d p) : x ∈ l ∧ ¬ k = 1 := by
  unfold drC at h
  by_cases he : drE l k = 0
  · rw [if_pos he] at h
    obtain ⟨h1, h2⟩ := List.mem_filter.1 h
    refine ⟨h1, fun e => ?_⟩
    subst e
    simp [goesB] at h2
  · rw [if_neg he] at h; exact absurd h (by simp)
theorem left_all {l : List Ln} {d p : Int} (h : chkC l = 0) : drC l 0 d p = l := by
  have he : drE l 0 = 0 := by rw [drE, if_pos h, if_pos (by omega)]
  rw [drC, if_pos he, List.filter_eq_self]
  intro x _
  simp [goesB]
end Go.Proofs.Ytefcdcneenjbgab
/-
  Package word: what isWord, isDev, isPage, isOrder answer; none turns memory that was there.
-/
namespace Go.Proofs.Ytefcdcneenjbgab
open Go.RowKit

theorem between_yes {lo hi z : Int} (h : lo ≤ z ∧ z ≤ hi) : betweenB lo hi z = true := decide_eq_true h
theorem between_no {lo hi z : Int} (h : ¬ (lo ≤ z ∧ z ≤ hi)) : betweenB lo hi z = false := decide_eq_false h
theorem of_between {lo hi z : Int} (h : betweenB lo hi z = true) : lo ≤ z ∧ z ≤ hi := of_decide_eq_true h

theorem oIsWord_any (z : Int) (w : World) : Calls Try.prog 57 #[.int .i64 z] w fun e w' => e = .returned (.bool (betweenB 0 65535 z)) ∧ w' = w := by
  by_cases h1 : 0 ≤ z
  · by_cases h2 : z ≤ 65535
    · rw [between_yes ⟨h1, h2⟩]
      go_enter Try.func57, Try.ntmps57
      go_wp2
      go_ret
      exact ⟨rfl, rfl⟩
    · rw [between_no fun h => h2 h.2]
      go_enter Try.func57, Try.ntmps57
      go_wp2
      go_ret
      exact ⟨rfl, rfl⟩
  · rw [between_no fun h => h1 h.1]
    go_enter Try.func57, Try.ntmps57
    go_wp2
    go_ret
    exact ⟨rfl, rfl⟩
theorem oIsDev_any (z : Int) (w : World) : Calls Try.prog 54 #[.int .i64 z] w fun e w' => e = .returned (.bool (betweenB 0 7 z)) ∧ w' = w := by
  by_cases h1 : 0 ≤ z
  · by_cases h2 : z < 8
    · rw [between_yes ⟨h1, by omega⟩]
      go_enter Try.func54, Try.ntmps54
      go_wp2
      go_ret
      exact ⟨rfl, rfl⟩
    · rw [between_no fun h => h2 (by omega)]
      go_enter Try.func54, Try.ntmps54
      go_wp2
      go_ret
      exact ⟨rfl, rfl⟩
  · rw [between_no fun h => h1 h.1]
    go_enter Try.func54, Try.ntmps54
    go_wp2
    go_ret
    exact ⟨rfl, rfl⟩
theorem oIsPage_any (z : Int) (w : World) : Calls Try.prog 55 #[.int .i64 z] w fun e w' => e = .returned (.bool (betweenB 0 63 z)) ∧ w' = w := by
  by_cases h1 : 0 ≤ z
  · by_cases h2 : z < 64
    · rw [between_yes ⟨h1, by omega⟩]
      go_enter Try.func55, Try.ntmps55
      go_wp2
      go_ret
      exact ⟨rfl, rfl⟩
    · rw [between_no fun h => h2 (by omega)]
      go_enter Try.func55, Try.ntmps55
      go_wp2
      go_ret
      exact ⟨rfl, rfl⟩
  · rw [between_no fun h => h1 h.1]
    go_enter Try.func55, Try.ntmps55
    go_wp2
    go_ret
    exact ⟨rfl, rfl⟩

/-- Has an order nothing that its kind doesn't speak of? -/
def forO (k d p : Int) : Bool := if k = 3 then true else if k = 2 then decide (p = 0) else decide (d = 0) && decide (p = 0)

theorem isOrder_any (k d p : Int) (w : World) :
    Calls Try.prog 56 #[.agg #[.int .i64 k, .int .i64 d, .int .i64 p]] w fun e w' => e = .returned (.bool (forO k d p)) ∧ ∃ o, w' = w.alloc o := by
  by_cases h3 : k = 3
  · subst h3
    go_enter Try.func56, Try.ntmps56
    go_wp2
    go_ret
    exact ⟨rfl, _, rfl⟩
  have n3 : (k == 3) = false := by simpa using h3
  by_cases h2 : k = 2
  · subst h2
    by_cases hp : p = 0
    · subst hp
      go_enter Try.func56, Try.ntmps56
      go_wp2
      go_ret
      exact ⟨rfl, _, rfl⟩
    · have np : (p == 0) = false := by simpa using hp
      have HF : Hid (forO 2 d p = false) := by simp [forO, hp, Hid]
      clear hp
      go_enter Try.func56, Try.ntmps56
      go_wp2
      go_ret
      exact ⟨ret_bool HF.out.symm, _, rfl⟩
  have n2 : (k == 2) = false := by simpa using h2
  by_cases hd : d = 0
  · subst hd
    by_cases hp : p = 0
    · subst hp
      have HF : Hid (forO k 0 0 = true) := by simp [forO, h3, h2, Hid]
      clear h3 h2
      go_enter Try.func56, Try.ntmps56
      go_wp2
      go_ret
      exact ⟨ret_bool HF.out.symm, _, rfl⟩
    · have np : (p == 0) = false := by simpa using hp
      have HF : Hid (forO k 0 p = false) := by simp [forO, h3, h2, hp, Hid]
      clear h3 h2 hp
      go_enter Try.func56, Try.ntmps56
      go_wp2
      go_ret
      exact ⟨ret_bool HF.out.symm, _, rfl⟩
  · have nd : (d == 0) = false := by simpa using hd
    have HF : Hid (forO k d p = false) := by simp [forO, h3, h2, hd, Hid]
    clear h3 h2 hd
    go_enter Try.func56, Try.ntmps56
    go_wp2
    go_ret
    exact ⟨ret_bool HF.out.symm, _, rfl⟩
end Go.Proofs.Ytefcdcneenjbgab
