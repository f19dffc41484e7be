/-
  Laid together: EqualT, RefAsk, SameB, CheckBR.
-/
import Derived.Test.YtefcdcneenjbgabT16
/-
  slices.Equal on two slices of touches answers whether they read as one list, whatever they are; it only reads.
-/
namespace Go.Proofs.Ytefcdcneenjbgab
open Go.RowKit

theorem touches_ext {xs ys : List Tc} (hl : xs.length = ys.length) (h : ∀ i, i < xs.length → tth xs i = tth ys i) : xs = ys := by
  apply List.ext_getElem hl
  intro i h1 h2
  have := h i h1
  rwa [tth_get h1, tth_get h2] at this
theorem touches_ne {xs ys : List Tc} {i : Nat} (h : ¬ tth xs i = tth ys i) : ¬ xs = ys := fun e => h (by rw [e])
/-- Where two touches part first. -/
theorem touch_diff {a b c : Int} {d : Bool} {e : Int} {a' b' c' : Int} {d' : Bool} {e' : Int} (h : ¬ (a, b, c, d, e) = (a', b', c', d', e')) :
    ¬ a = a' ∨ (a = a' ∧ ¬ b = b') ∨ (a = a' ∧ b = b' ∧ ¬ c = c') ∨ (a = a' ∧ b = b' ∧ c = c' ∧ ¬ d = d') ∨ (a = a' ∧ b = b' ∧ c = c' ∧ d = d' ∧ ¬ e = e') := by
  simp only [Prod.mk.injEq] at h
  by_cases h1 : a = a'
  · by_cases h2 : b = b'
    · by_cases h3 : c = c'
      · by_cases h4 : d = d'
        · by_cases h5 : e = e'
          · exact absurd ⟨h1, h2, h3, h4, h5⟩ h
          · exact .inr (.inr (.inr (.inr ⟨h1, h2, h3, h4, h5⟩)))
        · exact .inr (.inr (.inr (.inl ⟨h1, h2, h3, h4⟩)))
      · exact .inr (.inr (.inl ⟨h1, h2, h3⟩))
    · exact .inr (.inl ⟨h1, h2⟩)
  · exact .inl h1

set_option maxHeartbeats 1000000 in
theorem equalT_any (v1 v2 : Value) (xs ys : List Tc) (w : World) (h1 : Ts w v1 xs) (h2 : Ts w v2 ys) :
    Calls Try.prog 93 #[v1, v2] w fun e w' => e = .returned (.bool (decide (xs = ys))) ∧ ∃ n, w' = w.drewN n := by
  obtain ⟨a1, c1, rfl, n1, l1, h1⟩ := h1
  obtain ⟨a2, c2, rfl, n2, l2, h2⟩ := h2
  unfold maxLen at l1 l2
  by_cases hl : xs.length = ys.length
  · have hne : ((xs.length : Int) != (ys.length : Int)) = false := by simp [hl]
    rcases h1 with rfl | ⟨b1, o1, rfl, hb1, hc1⟩
    · obtain rfl : ys = [] := List.eq_nil_of_length_eq_zero hl.symm
      go_enter Try.func93, Try.ntmps93
      go_wp2
      go_loopw [5, 13] (fun _ i w' => i = .int .i64 0 ∧ w' = w) (fun _ i _ => 0)
      case atStart => exact ⟨rfl, rfl⟩
      case round =>
        obtain ⟨rfl, rfl⟩ := hrel
        go_wp2
        go_ret
        exact ⟨rfl, 0, rfl⟩
    · rcases h2 with rfl | ⟨b2, o2, rfl, hb2, hc2⟩
      · obtain rfl : xs = [] := List.eq_nil_of_length_eq_zero hl
        go_enter Try.func93, Try.ntmps93
        go_wp2
        go_loopw [5, 13] (fun _ i w' => i = .int .i64 0 ∧ w' = w) (fun _ i _ => 0)
        case atStart => exact ⟨rfl, rfl⟩
        case round =>
          obtain ⟨rfl, rfl⟩ := hrel
          go_wp2
          go_ret
          exact ⟨rfl, 0, rfl⟩
      have Hl : Hid (xs.length = ys.length) := hl
      have hle : (xs.length : Int) ≤ ys.length := by omega
      have H1 := hc1
      have H2 := hc2
      clear hl hc1 hc2
      have HC1 : Hid _ := H1
      have HC2 : Hid _ := H2
      clear H1 H2
      go_enter Try.func93, Try.ntmps93
      go_wp2
      go_loopw [5, 13] (fun _ i w' => ∃ k : Nat, k ≤ xs.length ∧ i = .int .i64 k ∧ (∀ j, j < k → tth xs j = tth ys j) ∧ ∃ n, w' = w.drewN n) (fun _ i _ => xs.length - (intOf i).toNat)
      case atStart => exact ⟨0, Nat.zero_le _, rfl, fun j hj => absurd hj (Nat.not_lt_zero _), 0, rfl⟩
      case round =>
        obtain ⟨k, hk, rfl, hpre, n, rfl⟩ := hrel
        have HP : Hid (∀ j, j < k → tth xs j = tth ys j) := hpre
        clear hpre
        by_cases hlt : k < xs.length
        · obtain ⟨g0, g1, g2, g3, g4⟩ := HC1.out k hlt
          obtain ⟨f0, f1, f2, f3, f4⟩ := HC2.out k (by have := Hl.out; omega)
          have hlt1 : (k : Int) < xs.length := by omega
          have hlt2 : (k : Int) < ys.length := by omega
          obtain ⟨y, hy⟩ : ∃ y, y = tth xs k := ⟨_, rfl⟩
          obtain ⟨z, hz⟩ : ∃ z, z = tth ys k := ⟨_, rfl⟩
          have HY : Hid (y = tth xs k) := hy
          have HZ : Hid (z = tth ys k) := hz
          rw [← hy] at g0 g1 g2 g3 g4
          rw [← hz] at f0 f1 f2 f3 f4
          clear hy hz
          obtain ⟨d1, p1, a1, r1, x1⟩ := y
          obtain ⟨d2, p2, a2, r2, x2⟩ := z
          simp only at g0 g1 g2 g3 g4 f0 f1 f2 f3 f4
          by_cases hq : (d1, p1, a1, r1, x1) = ((d2, p2, a2, r2, x2) : Tc)
          · have HQ : Hid (tth xs k = tth ys k) := by show _ = _; rw [← HY.out, ← HZ.out]; exact hq
            simp only [Prod.mk.injEq] at hq
            obtain ⟨rfl, rfl, rfl, rfl, rfl⟩ := hq
            go_wp2
            go_quiet (fail)
            go_wp2
            exact ⟨⟨k + 1, by omega, by go_num, upto_next HP.out HQ.out, _, rfl⟩, by simp [intOf]; omega⟩
          · have HN : Hid (decide (xs = ys) = false) := decide_eq_false (touches_ne (i := k) (by rw [← HY.out, ← HZ.out]; exact hq))
            rcases touch_diff hq with e1 | ⟨rfl, e1⟩ | ⟨rfl, rfl, e1⟩ | ⟨rfl, rfl, rfl, e1⟩ | ⟨rfl, rfl, rfl, rfl, e1⟩
            all_goals
              clear hq
              go_wp2
              go_quiet (fail)
              go_wp2
              go_ret
              exact ⟨ret_bool HN.out.symm, n + nq, World.drewN_drewN _ _ _⟩
        · have HD : Hid (decide (xs = ys) = true) := decide_eq_true (touches_ext Hl.out fun i hi => HP.out i (by omega))
          go_wp2
          go_ret
          exact ⟨ret_bool HD.out.symm, _, rfl⟩
  · have hne : ((xs.length : Int) != (ys.length : Int)) = true := by simp; omega
    have hd : decide (xs = ys) = false := by simp; intro e; exact hl (by rw [e])
    rw [hd]
    go_enter Try.func93, Try.ntmps93
    go_wp2
    go_ret
    exact ⟨rfl, 0, rfl⟩
end Go.Proofs.Ytefcdcneenjbgab
/-
  The reference's CheckAsk; SameTold of two that are alike.
-/
namespace Go.Proofs.Ytefcdcneenjbgab
open Go.RowKit

set_option maxHeartbeats 2000000 in
theorem checkAsk_any (d a n : Int) (x : Bool) (v : Value) (ds : List Int) (w : World) (h : Sl w v ds) :
    Calls Try.prog 48 #[.agg #[.int .i64 d, .int .i64 a, .int .i64 n, .bool x, v]] w fun e w' => e = .returned (.int .i64 (ckA d a n x ds)) ∧ Below w.heap.size w w' := by
  have HD : Hid (Sl w v ds) := h
  obtain ⟨da, dc, rfl, hl, h⟩ := h
  unfold maxLen at hl
  clear h
  by_cases hn : 1 ≤ n ∧ n ≤ 20
  rotate_left
  · have HE : Hid (ckA d a n x ds = 1) := ckA_many hn
    have hb : betweenB 1 20 n = false := by simp [betweenB]; omega
    clear hn
    go_enter Try.func48, Try.ntmps48
    go_wp2_with (go_at_call 58; refine (in_any _ _ _ _).mono ?_; rintro e w' ⟨rfl, rfl⟩)
    go_ret
    exact ⟨ret_int HE.out.symm, bel_alloc (Below.refl _ _) _⟩
  have HN : Hid (1 ≤ n ∧ n ≤ 20) := hn
  have hb : betweenB 1 20 n = true := by simp [betweenB]; omega
  obtain ⟨n1, n2⟩ := hn
  by_cases hw : (0 ≤ d ∧ d ≤ 7) ∧ hasW a n = true
  rotate_left
  · have HE : Hid (ckA d a n x ds = 4) := ckA_who HN.out hw
    by_cases h1 : 0 ≤ d ∧ d ≤ 7
    · have h2 : betweenB 0 7 d = true := by simp [betweenB]; omega
      have h3 : betweenB 0 (512 - n) a = false := by
        cases hq : betweenB 0 (512 - n) a
        · rfl
        · exact absurd ⟨h1, by simpa [hasW, betweenB] using hq⟩ hw
      clear hw h1
      go_enter Try.func48, Try.ntmps48
      go_wp2_with (go_at_call 58; refine (in_any _ _ _ _).mono ?_; rintro e w' ⟨rfl, rfl⟩)
      go_ret
      exact ⟨ret_int HE.out.symm, bel_alloc (Below.refl _ _) _⟩
    · have h2 : betweenB 0 7 d = false := by simp [betweenB]; omega
      clear hw h1
      go_enter Try.func48, Try.ntmps48
      go_wp2_with (go_at_call 58; refine (in_any _ _ _ _).mono ?_; rintro e w' ⟨rfl, rfl⟩)
      go_ret
      exact ⟨ret_int HE.out.symm, bel_alloc (Below.refl _ _) _⟩
  have HW : Hid ((0 ≤ d ∧ d ≤ 7) ∧ hasW a n = true) := hw
  have h2 : betweenB 0 7 d = true := by have := hw.1; simp [betweenB]; omega
  have h3 : betweenB 0 (512 - n) a = true := by simpa [hasW, betweenB] using hw.2
  clear hw
  have K : Blk (w.alloc (.cells #[.int .i64 d, .int .i64 a, .int .i64 n, .bool x, .slice da ds.length dc] 79)) w.heap.size #[.int .i64 d, .int .i64 a, .int .i64 n, .bool x, .slice da ds.length dc] := Blk.new w _ 79 (0, 0)
  have B1 : Hid (Below w.heap.size w (w.alloc (.cells #[.int .i64 d, .int .i64 a, .int .i64 n, .bool x, .slice da ds.length dc] 79))) := bel_alloc (Below.refl _ _) _
  have HS : Hid (Sl (w.alloc (.cells #[.int .i64 d, .int .i64 a, .int .i64 n, .bool x, .slice da ds.length dc] 79)) (.slice da ds.length dc) ds) := HD.out.keep B1.out
  by_cases hln : (ds.length : Int) = needA x n
  rotate_left
  · have HE : Hid (ckA d a n x ds = 3) := ckA_form HN.out HW.out hln
    have hq : ((ds.length : Int) != needA x n) = true := by simpa using hln
    clear hln K
    cases x
    all_goals
      simp only [needA, if_true, Bool.false_eq_true, if_false] at hq
      go_enter Try.func48, Try.ntmps48
      go_wp2_with (go_at_call 58; refine (in_any _ _ _ _).mono ?_; rintro e w' ⟨rfl, rfl⟩)
      go_ret
      exact ⟨ret_int HE.out.symm, B1.out⟩
  have HE : Hid (ckA d a n x ds = if ds.all wordB = true then 0 else 2) := ckA_last HN.out HW.out hln
  have hl20 : ds.length ≤ 20 := by have := needA_in (x := x) HN.out; omega
  have hq : ((ds.length : Int) != needA x n) = false := by simpa using hln
  clear hln
  obtain ⟨a', cap', he, -, HS'⟩ := HS.out
  simp only [Value.slice.injEq] at he
  obtain ⟨rfl, -, rfl⟩ := he
  have HS2 : Hid _ := HS'
  clear HS' HS HD
  cases x
  all_goals
    simp only [needA, if_true, Bool.false_eq_true, if_false] at hq
    go_enter Try.func48, Try.ntmps48
    go_wp2_with (go_at_call 58; refine (in_any _ _ _ _).mono ?_; rintro e w' ⟨rfl, rfl⟩)
    clear K
    generalize (w.alloc (.cells #[.int .i64 d, .int .i64 a, .int .i64 n, .bool _, .slice da ds.length dc] 79)) = W at *
    go_loop [35] (fun i => ∃ k : Nat, k ≤ ds.length ∧ i = .int .i64 k ∧ ∀ j, j < k → wordB (nth ds j) = true) (fun i => ds.length - (intOf i).toNat)
    case atStart => exact ⟨0, Nat.zero_le _, rfl, fun j hj => absurd hj (Nat.not_lt_zero _)⟩
    case round =>
      obtain ⟨k, hk, rfl, hpre⟩ := hrel
      have HP : Hid (∀ j, j < k → wordB (nth ds j) = true) := hpre
      clear hpre
      by_cases hlt : k < ds.length
      · have hlt1 : (k : Int) < ds.length := by omega
        rcases HS2.out with h0 | ⟨b, o, rfl, hb', hc⟩
        · exact absurd hlt (by rw [h0]; simp)
        have g := hc k hlt
        clear hc
        by_cases hq2 : wordB (nth ds k) = true
        · have hbw : betweenB 0 65535 (nth ds k) = true := hq2
          go_wp2_with (go_at_call 58; refine (in_any _ _ _ _).mono ?_; rintro e w' ⟨rfl, rfl⟩)
          refine ⟨⟨k + 1, by omega, by go_num, fun j hj => ?_⟩, by simp [intOf]; omega⟩
          by_cases e : j = k
          · rw [e]; exact hq2
          · exact HP.out j (by omega)
        · have hq' : wordB (nth ds k) = false := by simpa using hq2
          have hbw : betweenB 0 65535 (nth ds k) = false := hq'
          have HX : Hid (_ = (2 : Int)) := HE.out.trans (if_neg (all_not hlt hq'))
          clear hq2
          go_wp2_with (go_at_call 58; refine (in_any _ _ _ _).mono ?_; rintro e w' ⟨rfl, rfl⟩)
          go_ret
          exact ⟨ret_int HX.out.symm, B1.out⟩
      · have HX : Hid (_ = (0 : Int)) := HE.out.trans (if_pos (all_yes fun j hj => HP.out j (by omega)))
        have hge : ¬ (k : Int) < ds.length := by omega
        go_wp2
        go_ret
        exact ⟨ret_int HX.out.symm, B1.out⟩

set_option maxHeartbeats 2000000 in
theorem sameTold_eq (dn : Bool) (v1 v2 : Value) (dat : List Int) (f : Int) (u1 u2 : Value) (tch : List Tc) (w : World) (h1 : Sl w v1 dat) (h2 : Sl w v2 dat) (k1 : Ts w u1 tch) (k2 : Ts w u2 tch) :
    Calls Try.prog 51 #[.agg #[.bool dn, v1, .int .i64 f, u1], .agg #[.bool dn, v2, .int .i64 f, u2]] w fun e w' => e = .returned (.bool true) ∧ Below w.heap.size w w' := by
  have H1 : Hid (Sl w v1 dat) := h1
  have H2 : Hid (Sl w v2 dat) := h2
  have K1 : Hid (Ts w u1 tch) := k1
  have K2 : Hid (Ts w u2 tch) := k2
  obtain ⟨a1, c1, rfl⟩ := h1.shape
  obtain ⟨a2, c2, rfl⟩ := h2.shape
  obtain ⟨b1, e1, rfl, -⟩ := k1
  obtain ⟨b2, e2, rfl, -⟩ := k2
  clear h1 h2
  have B0 : Hid (Below w.heap.size w ((w.alloc (.cells #[.bool dn, .slice a1 dat.length c1, .int .i64 f, .slice b1 tch.length e1] 82)).alloc (.cells #[.bool dn, .slice a2 dat.length c2, .int .i64 f, .slice b2 tch.length e2] 82))) := bel_alloc (bel_alloc (Below.refl _ _) _) _
  have X0 := (Box.newAt (n := w.heap.size) rfl 82 #[.bool dn, .slice a1 dat.length c1, .int .i64 f, .slice b1 tch.length e1]).past (.cells #[.bool dn, .slice a2 dat.length c2, .int .i64 f, .slice b2 tch.length e2] 82)
  have X1 := Box.newAt (w := w.alloc (.cells #[.bool dn, .slice a1 dat.length c1, .int .i64 f, .slice b1 tch.length e1] 82)) (n := w.heap.size + 1) (by simp) 82 #[.bool dn, .slice a2 dat.length c2, .int .i64 f, .slice b2 tch.length e2]
  have hdd : (dn == dn) = true := by simp
  go_enter Try.func51, Try.ntmps51
  go_wp2_with fail
  refine (equal_any _ _ dat dat _ (H1.out.keep B0.out) (H2.out.keep B0.out)).mono ?_
  rintro e w1 ⟨rfl, nq, rfl⟩
  rw [decide_eq_true (rfl : dat = dat)]
  obtain ⟨t0, t1, t2, t3, -, -, -, -, s0⟩ := (X0.drewN nq).four
  obtain ⟨u0, u1, u2, u3, -, -, -, -, s1⟩ := (X1.drewN nq).four
  have T1 : Hid (Ts (((w.alloc (.cells #[.bool dn, .slice a1 dat.length c1, .int .i64 f, .slice b1 tch.length e1] 82)).alloc (.cells #[.bool dn, .slice a2 dat.length c2, .int .i64 f, .slice b2 tch.length e2] 82)).drewN nq) _ tch) := (K1.out.keep B0.out : Ts _ _ tch)
  have T2 : Hid (Ts (((w.alloc (.cells #[.bool dn, .slice a1 dat.length c1, .int .i64 f, .slice b1 tch.length e1] 82)).alloc (.cells #[.bool dn, .slice a2 dat.length c2, .int .i64 f, .slice b2 tch.length e2] 82)).drewN nq) _ tch) := (K2.out.keep B0.out : Ts _ _ tch)
  have B1 : Hid (Below w.heap.size w (((w.alloc (.cells #[.bool dn, .slice a1 dat.length c1, .int .i64 f, .slice b1 tch.length e1] 82)).alloc (.cells #[.bool dn, .slice a2 dat.length c2, .int .i64 f, .slice b2 tch.length e2] 82)).drewN nq)) := bel_drewN B0.out nq
  clear X0 X1
  generalize (((w.alloc (.cells #[.bool dn, .slice a1 dat.length c1, .int .i64 f, .slice b1 tch.length e1] 82)).alloc (.cells #[.bool dn, .slice a2 dat.length c2, .int .i64 f, .slice b2 tch.length e2] 82)).drewN nq) = W at *
  go_wp2_with fail
  refine (equalT_any _ _ tch tch _ T1.out T2.out).mono ?_
  rintro e w2 ⟨rfl, n2, rfl⟩
  rw [decide_eq_true (rfl : tch = tch)]
  go_wp2
  go_ret
  exact ⟨rfl, bel_drewN B1.out _⟩
end Go.Proofs.Ytefcdcneenjbgab
/-
  bridge.Same and drawbridgeref.SameBridge: are two bridges alike? Nothing that was there turns.
-/
namespace Go.Proofs.Ytefcdcneenjbgab
open Go.RowKit

/-- Are they alike? -/
def sameBr (a b : Br) : Bool :=
  decide (a.mode = b.mode) && (decide (a.base = b.base) && (decide (a.cache = b.cache) && (decide (a.op = b.op) && (decide (a.oh = b.oh) && (decide (a.ot = b.ot) && (decide (a.stop = b.stop) && (decide (a.fen = b.fen) && (decide (a.fp = b.fp) && (decide (a.fh = b.fh) && (decide (a.ft = b.ft) && decide (a.lost = b.lost)))))))))))
theorem sameBr_self (b : Br) : sameBr b b = true := by simp [sameBr]
theorem sameBr_eq {a b : Br} (h : sameBr a b = true) : a = b := by
  simp only [sameBr, Bool.and_eq_true, decide_eq_true_eq] at h
  obtain ⟨h0, h1, h2, h3, h4, h5, h6, h7, h8, h9, h10, h11⟩ := h
  cases a; cases b
  simp_all
theorem sameBr_ne {a b : Br} (h : ¬ a = b) : sameBr a b = false := by
  cases hs : sameBr a b
  · rfl
  · exact absurd (sameBr_eq hs) h

set_option maxHeartbeats 4000000 in
theorem bSame_any (mo ba op oh ot fe fp fh ft : Int) (st lo : Bool) (vc : Value) (l : List Ln) (mo1 ba1 op1 oh1 ot1 fe1 fp1 fh1 ft1 : Int) (st1 lo1 : Bool) (vc1 : Value) (l1 : List Ln) (w : World) (h : Ls w vc l) (h1 : Ls w vc1 l1) :
    Calls Try.prog 30 #[.agg #[.int .i64 mo, .int .i64 ba, vc, .int .i64 op, .int .i64 oh, .int .i64 ot, .bool st, .int .i64 fe, .int .i64 fp, .int .i64 fh, .int .i64 ft, .bool lo], .agg #[.int .i64 mo1, .int .i64 ba1, vc1, .int .i64 op1, .int .i64 oh1, .int .i64 ot1, .bool st1, .int .i64 fe1, .int .i64 fp1, .int .i64 fh1, .int .i64 ft1, .bool lo1]] w fun e w' => e = .returned (.bool (sameBr ⟨mo, ba, l, op, oh, ot, st, fe, fp, fh, ft, lo⟩ ⟨mo1, ba1, l1, op1, oh1, ot1, st1, fe1, fp1, fh1, ft1, lo1⟩)) ∧ Below w.heap.size w w' := by
  have HS : Hid (Ls w vc l) := h
  have HS1 : Hid (Ls w vc1 l1) := h1
  obtain ⟨va, vk, rfl, -⟩ := h.shape
  obtain ⟨va1, vk1, rfl, -⟩ := h1.shape
  clear h h1
  by_cases hd : mo = mo1
  rotate_left
  · have HE : Hid (sameBr ⟨mo, ba, l, op, oh, ot, st, fe, fp, fh, ft, lo⟩ ⟨mo1, ba1, l1, op1, oh1, ot1, st1, fe1, fp1, fh1, ft1, lo1⟩ = false) := by show _ = _; simp [sameBr, hd]
    have hq : (mo == mo1) = false := by simpa using hd
    go_enter Try.func30, Try.ntmps30
    go_wp2_with fail
    go_ret
    exact ⟨ret_bool HE.out.symm, by first | exact bel_alloc (bel_alloc (Below.refl _ _) _) _ | exact bel_drewN (bel_alloc (bel_alloc (Below.refl _ _) _) _) _⟩
  subst hd
  by_cases hd : ba = ba1
  rotate_left
  · have HE : Hid (sameBr ⟨mo, ba, l, op, oh, ot, st, fe, fp, fh, ft, lo⟩ ⟨mo, ba1, l1, op1, oh1, ot1, st1, fe1, fp1, fh1, ft1, lo1⟩ = false) := by show _ = _; simp [sameBr, hd]
    have hq : (ba == ba1) = false := by simpa using hd
    go_enter Try.func30, Try.ntmps30
    go_wp2_with fail
    go_ret
    exact ⟨ret_bool HE.out.symm, by first | exact bel_alloc (bel_alloc (Below.refl _ _) _) _ | exact bel_drewN (bel_alloc (bel_alloc (Below.refl _ _) _) _) _⟩
  subst hd
  by_cases hd : l = l1
  rotate_left
  · have HE : Hid (sameBr ⟨mo, ba, l, op, oh, ot, st, fe, fp, fh, ft, lo⟩ ⟨mo, ba, l1, op1, oh1, ot1, st1, fe1, fp1, fh1, ft1, lo1⟩ = false) := by show _ = _; simp [sameBr, hd]
    have hq : decide (l = l1) = false := by simpa using hd
    go_enter Try.func30, Try.ntmps30
    go_wp2_with (go_at_call 42; refine (equalL_any _ _ l l1 _ (HS.out.keep (bel_alloc (bel_alloc (Below.refl _ _) _) _)) (HS1.out.keep (bel_alloc (bel_alloc (Below.refl _ _) _) _))).mono ?_; rintro e w' ⟨rfl, n, rfl⟩)
    go_ret
    exact ⟨ret_bool HE.out.symm, by first | exact bel_alloc (bel_alloc (Below.refl _ _) _) _ | exact bel_drewN (bel_alloc (bel_alloc (Below.refl _ _) _) _) _⟩
  subst hd
  by_cases hd : op = op1
  rotate_left
  · have HE : Hid (sameBr ⟨mo, ba, l, op, oh, ot, st, fe, fp, fh, ft, lo⟩ ⟨mo, ba, l, op1, oh1, ot1, st1, fe1, fp1, fh1, ft1, lo1⟩ = false) := by show _ = _; simp [sameBr, hd]
    have hq : (op == op1) = false := by simpa using hd
    go_enter Try.func30, Try.ntmps30
    go_wp2_with (go_at_call 42; refine (equalL_any _ _ l l _ (HS.out.keep (bel_alloc (bel_alloc (Below.refl _ _) _) _)) (HS1.out.keep (bel_alloc (bel_alloc (Below.refl _ _) _) _))).mono ?_; rintro e w' ⟨rfl, n, rfl⟩)
    go_ret
    exact ⟨ret_bool HE.out.symm, by first | exact bel_alloc (bel_alloc (Below.refl _ _) _) _ | exact bel_drewN (bel_alloc (bel_alloc (Below.refl _ _) _) _) _⟩
  subst hd
  by_cases hd : oh = oh1
  rotate_left
  · have HE : Hid (sameBr ⟨mo, ba, l, op, oh, ot, st, fe, fp, fh, ft, lo⟩ ⟨mo, ba, l, op, oh1, ot1, st1, fe1, fp1, fh1, ft1, lo1⟩ = false) := by show _ = _; simp [sameBr, hd]
    have hq : (oh == oh1) = false := by simpa using hd
    go_enter Try.func30, Try.ntmps30
    go_wp2_with (go_at_call 42; refine (equalL_any _ _ l l _ (HS.out.keep (bel_alloc (bel_alloc (Below.refl _ _) _) _)) (HS1.out.keep (bel_alloc (bel_alloc (Below.refl _ _) _) _))).mono ?_; rintro e w' ⟨rfl, n, rfl⟩)
    go_ret
    exact ⟨ret_bool HE.out.symm, by first | exact bel_alloc (bel_alloc (Below.refl _ _) _) _ | exact bel_drewN (bel_alloc (bel_alloc (Below.refl _ _) _) _) _⟩
  subst hd
  by_cases hd : ot = ot1
  rotate_left
  · have HE : Hid (sameBr ⟨mo, ba, l, op, oh, ot, st, fe, fp, fh, ft, lo⟩ ⟨mo, ba, l, op, oh, ot1, st1, fe1, fp1, fh1, ft1, lo1⟩ = false) := by show _ = _; simp [sameBr, hd]
    have hq : (ot == ot1) = false := by simpa using hd
    go_enter Try.func30, Try.ntmps30
    go_wp2_with (go_at_call 42; refine (equalL_any _ _ l l _ (HS.out.keep (bel_alloc (bel_alloc (Below.refl _ _) _) _)) (HS1.out.keep (bel_alloc (bel_alloc (Below.refl _ _) _) _))).mono ?_; rintro e w' ⟨rfl, n, rfl⟩)
    go_ret
    exact ⟨ret_bool HE.out.symm, by first | exact bel_alloc (bel_alloc (Below.refl _ _) _) _ | exact bel_drewN (bel_alloc (bel_alloc (Below.refl _ _) _) _) _⟩
  subst hd
  by_cases hd : st = st1
  rotate_left
  · have HE : Hid (sameBr ⟨mo, ba, l, op, oh, ot, st, fe, fp, fh, ft, lo⟩ ⟨mo, ba, l, op, oh, ot, st1, fe1, fp1, fh1, ft1, lo1⟩ = false) := by show _ = _; simp [sameBr, hd]
    have hq : (st == st1) = false := by simpa using hd
    go_enter Try.func30, Try.ntmps30
    go_wp2_with (go_at_call 42; refine (equalL_any _ _ l l _ (HS.out.keep (bel_alloc (bel_alloc (Below.refl _ _) _) _)) (HS1.out.keep (bel_alloc (bel_alloc (Below.refl _ _) _) _))).mono ?_; rintro e w' ⟨rfl, n, rfl⟩)
    go_ret
    exact ⟨ret_bool HE.out.symm, by first | exact bel_alloc (bel_alloc (Below.refl _ _) _) _ | exact bel_drewN (bel_alloc (bel_alloc (Below.refl _ _) _) _) _⟩
  subst hd
  by_cases hd : fe = fe1
  rotate_left
  · have HE : Hid (sameBr ⟨mo, ba, l, op, oh, ot, st, fe, fp, fh, ft, lo⟩ ⟨mo, ba, l, op, oh, ot, st, fe1, fp1, fh1, ft1, lo1⟩ = false) := by show _ = _; simp [sameBr, hd]
    have hq : (fe == fe1) = false := by simpa using hd
    go_enter Try.func30, Try.ntmps30
    go_wp2_with (go_at_call 42; refine (equalL_any _ _ l l _ (HS.out.keep (bel_alloc (bel_alloc (Below.refl _ _) _) _)) (HS1.out.keep (bel_alloc (bel_alloc (Below.refl _ _) _) _))).mono ?_; rintro e w' ⟨rfl, n, rfl⟩)
    go_ret
    exact ⟨ret_bool HE.out.symm, by first | exact bel_alloc (bel_alloc (Below.refl _ _) _) _ | exact bel_drewN (bel_alloc (bel_alloc (Below.refl _ _) _) _) _⟩
  subst hd
  by_cases hd : fp = fp1
  rotate_left
  · have HE : Hid (sameBr ⟨mo, ba, l, op, oh, ot, st, fe, fp, fh, ft, lo⟩ ⟨mo, ba, l, op, oh, ot, st, fe, fp1, fh1, ft1, lo1⟩ = false) := by show _ = _; simp [sameBr, hd]
    have hq : (fp == fp1) = false := by simpa using hd
    go_enter Try.func30, Try.ntmps30
    go_wp2_with (go_at_call 42; refine (equalL_any _ _ l l _ (HS.out.keep (bel_alloc (bel_alloc (Below.refl _ _) _) _)) (HS1.out.keep (bel_alloc (bel_alloc (Below.refl _ _) _) _))).mono ?_; rintro e w' ⟨rfl, n, rfl⟩)
    go_ret
    exact ⟨ret_bool HE.out.symm, by first | exact bel_alloc (bel_alloc (Below.refl _ _) _) _ | exact bel_drewN (bel_alloc (bel_alloc (Below.refl _ _) _) _) _⟩
  subst hd
  by_cases hd : fh = fh1
  rotate_left
  · have HE : Hid (sameBr ⟨mo, ba, l, op, oh, ot, st, fe, fp, fh, ft, lo⟩ ⟨mo, ba, l, op, oh, ot, st, fe, fp, fh1, ft1, lo1⟩ = false) := by show _ = _; simp [sameBr, hd]
    have hq : (fh == fh1) = false := by simpa using hd
    go_enter Try.func30, Try.ntmps30
    go_wp2_with (go_at_call 42; refine (equalL_any _ _ l l _ (HS.out.keep (bel_alloc (bel_alloc (Below.refl _ _) _) _)) (HS1.out.keep (bel_alloc (bel_alloc (Below.refl _ _) _) _))).mono ?_; rintro e w' ⟨rfl, n, rfl⟩)
    go_ret
    exact ⟨ret_bool HE.out.symm, by first | exact bel_alloc (bel_alloc (Below.refl _ _) _) _ | exact bel_drewN (bel_alloc (bel_alloc (Below.refl _ _) _) _) _⟩
  subst hd
  by_cases hd : ft = ft1
  rotate_left
  · have HE : Hid (sameBr ⟨mo, ba, l, op, oh, ot, st, fe, fp, fh, ft, lo⟩ ⟨mo, ba, l, op, oh, ot, st, fe, fp, fh, ft1, lo1⟩ = false) := by show _ = _; simp [sameBr, hd]
    have hq : (ft == ft1) = false := by simpa using hd
    go_enter Try.func30, Try.ntmps30
    go_wp2_with (go_at_call 42; refine (equalL_any _ _ l l _ (HS.out.keep (bel_alloc (bel_alloc (Below.refl _ _) _) _)) (HS1.out.keep (bel_alloc (bel_alloc (Below.refl _ _) _) _))).mono ?_; rintro e w' ⟨rfl, n, rfl⟩)
    go_ret
    exact ⟨ret_bool HE.out.symm, by first | exact bel_alloc (bel_alloc (Below.refl _ _) _) _ | exact bel_drewN (bel_alloc (bel_alloc (Below.refl _ _) _) _) _⟩
  subst hd
  by_cases hd : lo = lo1
  rotate_left
  · have HE : Hid (sameBr ⟨mo, ba, l, op, oh, ot, st, fe, fp, fh, ft, lo⟩ ⟨mo, ba, l, op, oh, ot, st, fe, fp, fh, ft, lo1⟩ = false) := by show _ = _; simp [sameBr, hd]
    have hq : (lo == lo1) = false := by simpa using hd
    go_enter Try.func30, Try.ntmps30
    go_wp2_with (go_at_call 42; refine (equalL_any _ _ l l _ (HS.out.keep (bel_alloc (bel_alloc (Below.refl _ _) _) _)) (HS1.out.keep (bel_alloc (bel_alloc (Below.refl _ _) _) _))).mono ?_; rintro e w' ⟨rfl, n, rfl⟩)
    go_ret
    exact ⟨ret_bool HE.out.symm, by first | exact bel_alloc (bel_alloc (Below.refl _ _) _) _ | exact bel_drewN (bel_alloc (bel_alloc (Below.refl _ _) _) _) _⟩
  subst hd
  have HE : Hid (sameBr ⟨mo, ba, l, op, oh, ot, st, fe, fp, fh, ft, lo⟩ ⟨mo, ba, l, op, oh, ot, st, fe, fp, fh, ft, lo⟩ = true) := sameBr_self _
  go_enter Try.func30, Try.ntmps30
  go_wp2_with (go_at_call 42; refine (equalL_any _ _ l l _ (HS.out.keep (bel_alloc (bel_alloc (Below.refl _ _) _) _)) (HS1.out.keep (bel_alloc (bel_alloc (Below.refl _ _) _) _))).mono ?_; rintro e w' ⟨rfl, n, rfl⟩)
  go_ret
  exact ⟨ret_bool HE.out.symm, by first | exact bel_alloc (bel_alloc (Below.refl _ _) _) _ | exact bel_drewN (bel_alloc (bel_alloc (Below.refl _ _) _) _) _⟩

set_option maxHeartbeats 4000000 in
theorem sameBridge_any (mo ba op oh ot fe fp fh ft : Int) (st lo : Bool) (vc : Value) (l : List Ln) (mo1 ba1 op1 oh1 ot1 fe1 fp1 fh1 ft1 : Int) (st1 lo1 : Bool) (vc1 : Value) (l1 : List Ln) (w : World) (h : Ls w vc l) (h1 : Ls w vc1 l1) :
    Calls Try.prog 31 #[.agg #[.int .i64 mo, .int .i64 ba, vc, .int .i64 op, .int .i64 oh, .int .i64 ot, .bool st, .int .i64 fe, .int .i64 fp, .int .i64 fh, .int .i64 ft, .bool lo], .agg #[.int .i64 mo1, .int .i64 ba1, vc1, .int .i64 op1, .int .i64 oh1, .int .i64 ot1, .bool st1, .int .i64 fe1, .int .i64 fp1, .int .i64 fh1, .int .i64 ft1, .bool lo1]] w fun e w' => e = .returned (.bool (sameBr ⟨mo, ba, l, op, oh, ot, st, fe, fp, fh, ft, lo⟩ ⟨mo1, ba1, l1, op1, oh1, ot1, st1, fe1, fp1, fh1, ft1, lo1⟩)) ∧ Below w.heap.size w w' := by
  have HS : Hid (Ls w vc l) := h
  have HS1 : Hid (Ls w vc1 l1) := h1
  obtain ⟨va, vk, rfl, -⟩ := h.shape
  obtain ⟨va1, vk1, rfl, -⟩ := h1.shape
  clear h h1
  by_cases hd : mo = mo1
  rotate_left
  · have HE : Hid (sameBr ⟨mo, ba, l, op, oh, ot, st, fe, fp, fh, ft, lo⟩ ⟨mo1, ba1, l1, op1, oh1, ot1, st1, fe1, fp1, fh1, ft1, lo1⟩ = false) := by show _ = _; simp [sameBr, hd]
    have hq : (mo == mo1) = false := by simpa using hd
    go_enter Try.func31, Try.ntmps31
    go_wp2_with fail
    go_ret
    exact ⟨ret_bool HE.out.symm, by first | exact bel_alloc (bel_alloc (Below.refl _ _) _) _ | exact bel_drewN (bel_alloc (bel_alloc (Below.refl _ _) _) _) _⟩
  subst hd
  by_cases hd : ba = ba1
  rotate_left
  · have HE : Hid (sameBr ⟨mo, ba, l, op, oh, ot, st, fe, fp, fh, ft, lo⟩ ⟨mo, ba1, l1, op1, oh1, ot1, st1, fe1, fp1, fh1, ft1, lo1⟩ = false) := by show _ = _; simp [sameBr, hd]
    have hq : (ba == ba1) = false := by simpa using hd
    go_enter Try.func31, Try.ntmps31
    go_wp2_with fail
    go_ret
    exact ⟨ret_bool HE.out.symm, by first | exact bel_alloc (bel_alloc (Below.refl _ _) _) _ | exact bel_drewN (bel_alloc (bel_alloc (Below.refl _ _) _) _) _⟩
  subst hd
  by_cases hd : l = l1
  rotate_left
  · have HE : Hid (sameBr ⟨mo, ba, l, op, oh, ot, st, fe, fp, fh, ft, lo⟩ ⟨mo, ba, l1, op1, oh1, ot1, st1, fe1, fp1, fh1, ft1, lo1⟩ = false) := by show _ = _; simp [sameBr, hd]
    have hq : decide (l = l1) = false := by simpa using hd
    go_enter Try.func31, Try.ntmps31
    go_wp2_with (go_at_call 42; refine (equalL_any _ _ l l1 _ (HS.out.keep (bel_alloc (bel_alloc (Below.refl _ _) _) _)) (HS1.out.keep (bel_alloc (bel_alloc (Below.refl _ _) _) _))).mono ?_; rintro e w' ⟨rfl, n, rfl⟩)
    go_ret
    exact ⟨ret_bool HE.out.symm, by first | exact bel_alloc (bel_alloc (Below.refl _ _) _) _ | exact bel_drewN (bel_alloc (bel_alloc (Below.refl _ _) _) _) _⟩
  subst hd
  by_cases hd : op = op1
  rotate_left
  · have HE : Hid (sameBr ⟨mo, ba, l, op, oh, ot, st, fe, fp, fh, ft, lo⟩ ⟨mo, ba, l, op1, oh1, ot1, st1, fe1, fp1, fh1, ft1, lo1⟩ = false) := by show _ = _; simp [sameBr, hd]
    have hq : (op == op1) = false := by simpa using hd
    go_enter Try.func31, Try.ntmps31
    go_wp2_with (go_at_call 42; refine (equalL_any _ _ l l _ (HS.out.keep (bel_alloc (bel_alloc (Below.refl _ _) _) _)) (HS1.out.keep (bel_alloc (bel_alloc (Below.refl _ _) _) _))).mono ?_; rintro e w' ⟨rfl, n, rfl⟩)
    go_ret
    exact ⟨ret_bool HE.out.symm, by first | exact bel_alloc (bel_alloc (Below.refl _ _) _) _ | exact bel_drewN (bel_alloc (bel_alloc (Below.refl _ _) _) _) _⟩
  subst hd
  by_cases hd : oh = oh1
  rotate_left
  · have HE : Hid (sameBr ⟨mo, ba, l, op, oh, ot, st, fe, fp, fh, ft, lo⟩ ⟨mo, ba, l, op, oh1, ot1, st1, fe1, fp1, fh1, ft1, lo1⟩ = false) := by show _ = _; simp [sameBr, hd]
    have hq : (oh == oh1) = false := by simpa using hd
    go_enter Try.func31, Try.ntmps31
    go_wp2_with (go_at_call 42; refine (equalL_any _ _ l l _ (HS.out.keep (bel_alloc (bel_alloc (Below.refl _ _) _) _)) (HS1.out.keep (bel_alloc (bel_alloc (Below.refl _ _) _) _))).mono ?_; rintro e w' ⟨rfl, n, rfl⟩)
    go_ret
    exact ⟨ret_bool HE.out.symm, by first | exact bel_alloc (bel_alloc (Below.refl _ _) _) _ | exact bel_drewN (bel_alloc (bel_alloc (Below.refl _ _) _) _) _⟩
  subst hd
  by_cases hd : ot = ot1
  rotate_left
  · have HE : Hid (sameBr ⟨mo, ba, l, op, oh, ot, st, fe, fp, fh, ft, lo⟩ ⟨mo, ba, l, op, oh, ot1, st1, fe1, fp1, fh1, ft1, lo1⟩ = false) := by show _ = _; simp [sameBr, hd]
    have hq : (ot == ot1) = false := by simpa using hd
    go_enter Try.func31, Try.ntmps31
    go_wp2_with (go_at_call 42; refine (equalL_any _ _ l l _ (HS.out.keep (bel_alloc (bel_alloc (Below.refl _ _) _) _)) (HS1.out.keep (bel_alloc (bel_alloc (Below.refl _ _) _) _))).mono ?_; rintro e w' ⟨rfl, n, rfl⟩)
    go_ret
    exact ⟨ret_bool HE.out.symm, by first | exact bel_alloc (bel_alloc (Below.refl _ _) _) _ | exact bel_drewN (bel_alloc (bel_alloc (Below.refl _ _) _) _) _⟩
  subst hd
  by_cases hd : st = st1
  rotate_left
  · have HE : Hid (sameBr ⟨mo, ba, l, op, oh, ot, st, fe, fp, fh, ft, lo⟩ ⟨mo, ba, l, op, oh, ot, st1, fe1, fp1, fh1, ft1, lo1⟩ = false) := by show _ = _; simp [sameBr, hd]
    have hq : (st == st1) = false := by simpa using hd
    go_enter Try.func31, Try.ntmps31
    go_wp2_with (go_at_call 42; refine (equalL_any _ _ l l _ (HS.out.keep (bel_alloc (bel_alloc (Below.refl _ _) _) _)) (HS1.out.keep (bel_alloc (bel_alloc (Below.refl _ _) _) _))).mono ?_; rintro e w' ⟨rfl, n, rfl⟩)
    go_ret
    exact ⟨ret_bool HE.out.symm, by first | exact bel_alloc (bel_alloc (Below.refl _ _) _) _ | exact bel_drewN (bel_alloc (bel_alloc (Below.refl _ _) _) _) _⟩
  subst hd
  by_cases hd : fe = fe1
  rotate_left
  · have HE : Hid (sameBr ⟨mo, ba, l, op, oh, ot, st, fe, fp, fh, ft, lo⟩ ⟨mo, ba, l, op, oh, ot, st, fe1, fp1, fh1, ft1, lo1⟩ = false) := by show _ = _; simp [sameBr, hd]
    have hq : (fe == fe1) = false := by simpa using hd
    go_enter Try.func31, Try.ntmps31
    go_wp2_with (go_at_call 42; refine (equalL_any _ _ l l _ (HS.out.keep (bel_alloc (bel_alloc (Below.refl _ _) _) _)) (HS1.out.keep (bel_alloc (bel_alloc (Below.refl _ _) _) _))).mono ?_; rintro e w' ⟨rfl, n, rfl⟩)
    go_ret
    exact ⟨ret_bool HE.out.symm, by first | exact bel_alloc (bel_alloc (Below.refl _ _) _) _ | exact bel_drewN (bel_alloc (bel_alloc (Below.refl _ _) _) _) _⟩
  subst hd
  by_cases hd : fp = fp1
  rotate_left
  · have HE : Hid (sameBr ⟨mo, ba, l, op, oh, ot, st, fe, fp, fh, ft, lo⟩ ⟨mo, ba, l, op, oh, ot, st, fe, fp1, fh1, ft1, lo1⟩ = false) := by show _ = _; simp [sameBr, hd]
    have hq : (fp == fp1) = false := by simpa using hd
    go_enter Try.func31, Try.ntmps31
    go_wp2_with (go_at_call 42; refine (equalL_any _ _ l l _ (HS.out.keep (bel_alloc (bel_alloc (Below.refl _ _) _) _)) (HS1.out.keep (bel_alloc (bel_alloc (Below.refl _ _) _) _))).mono ?_; rintro e w' ⟨rfl, n, rfl⟩)
    go_ret
    exact ⟨ret_bool HE.out.symm, by first | exact bel_alloc (bel_alloc (Below.refl _ _) _) _ | exact bel_drewN (bel_alloc (bel_alloc (Below.refl _ _) _) _) _⟩
  subst hd
  by_cases hd : fh = fh1
  rotate_left
  · have HE : Hid (sameBr ⟨mo, ba, l, op, oh, ot, st, fe, fp, fh, ft, lo⟩ ⟨mo, ba, l, op, oh, ot, st, fe, fp, fh1, ft1, lo1⟩ = false) := by show _ = _; simp [sameBr, hd]
    have hq : (fh == fh1) = false := by simpa using hd
    go_enter Try.func31, Try.ntmps31
    go_wp2_with (go_at_call 42; refine (equalL_any _ _ l l _ (HS.out.keep (bel_alloc (bel_alloc (Below.refl _ _) _) _)) (HS1.out.keep (bel_alloc (bel_alloc (Below.refl _ _) _) _))).mono ?_; rintro e w' ⟨rfl, n, rfl⟩)
    go_ret
    exact ⟨ret_bool HE.out.symm, by first | exact bel_alloc (bel_alloc (Below.refl _ _) _) _ | exact bel_drewN (bel_alloc (bel_alloc (Below.refl _ _) _) _) _⟩
  subst hd
  by_cases hd : ft = ft1
  rotate_left
  · have HE : Hid (sameBr ⟨mo, ba, l, op, oh, ot, st, fe, fp, fh, ft, lo⟩ ⟨mo, ba, l, op, oh, ot, st, fe, fp, fh, ft1, lo1⟩ = false) := by show _ = _; simp [sameBr, hd]
    have hq : (ft == ft1) = false := by simpa using hd
    go_enter Try.func31, Try.ntmps31
    go_wp2_with (go_at_call 42; refine (equalL_any _ _ l l _ (HS.out.keep (bel_alloc (bel_alloc (Below.refl _ _) _) _)) (HS1.out.keep (bel_alloc (bel_alloc (Below.refl _ _) _) _))).mono ?_; rintro e w' ⟨rfl, n, rfl⟩)
    go_ret
    exact ⟨ret_bool HE.out.symm, by first | exact bel_alloc (bel_alloc (Below.refl _ _) _) _ | exact bel_drewN (bel_alloc (bel_alloc (Below.refl _ _) _) _) _⟩
  subst hd
  by_cases hd : lo = lo1
  rotate_left
  · have HE : Hid (sameBr ⟨mo, ba, l, op, oh, ot, st, fe, fp, fh, ft, lo⟩ ⟨mo, ba, l, op, oh, ot, st, fe, fp, fh, ft, lo1⟩ = false) := by show _ = _; simp [sameBr, hd]
    have hq : (lo == lo1) = false := by simpa using hd
    go_enter Try.func31, Try.ntmps31
    go_wp2_with (go_at_call 42; refine (equalL_any _ _ l l _ (HS.out.keep (bel_alloc (bel_alloc (Below.refl _ _) _) _)) (HS1.out.keep (bel_alloc (bel_alloc (Below.refl _ _) _) _))).mono ?_; rintro e w' ⟨rfl, n, rfl⟩)
    go_ret
    exact ⟨ret_bool HE.out.symm, by first | exact bel_alloc (bel_alloc (Below.refl _ _) _) _ | exact bel_drewN (bel_alloc (bel_alloc (Below.refl _ _) _) _) _⟩
  subst hd
  have HE : Hid (sameBr ⟨mo, ba, l, op, oh, ot, st, fe, fp, fh, ft, lo⟩ ⟨mo, ba, l, op, oh, ot, st, fe, fp, fh, ft, lo⟩ = true) := sameBr_self _
  go_enter Try.func31, Try.ntmps31
  go_wp2_with (go_at_call 42; refine (equalL_any _ _ l l _ (HS.out.keep (bel_alloc (bel_alloc (Below.refl _ _) _) _)) (HS1.out.keep (bel_alloc (bel_alloc (Below.refl _ _) _) _))).mono ?_; rintro e w' ⟨rfl, n, rfl⟩)
  go_ret
  exact ⟨ret_bool HE.out.symm, by first | exact bel_alloc (bel_alloc (Below.refl _ _) _) _ | exact bel_drewN (bel_alloc (bel_alloc (Below.refl _ _) _) _) _⟩
end Go.Proofs.Ytefcdcneenjbgab
/-
  drawbridgeref's CheckBridge: what it answers; nothing that was there turns.
-/
namespace Go.Proofs.Ytefcdcneenjbgab
open Go.RowKit

theorem rngBr_waysR {b : Br} : (rngBr b = true ∧ betweenB 0 2 b.mode = true ∧ betweenB 0 63 b.base = true ∧ betweenB 0 999 b.fen = true) ∨
    (rngBr b = false ∧ (betweenB 0 2 b.mode = false ∨ (betweenB 0 2 b.mode = true ∧ betweenB 0 63 b.base = false) ∨ (betweenB 0 2 b.mode = true ∧ betweenB 0 63 b.base = true ∧ betweenB 0 999 b.fen = false))) := by
  have e : rngBr b = (betweenB 0 2 b.mode && betweenB 0 63 b.base && betweenB 0 999 b.fen) := rfl
  rw [e]
  cases betweenB 0 2 b.mode <;> cases betweenB 0 63 b.base <;> cases betweenB 0 999 b.fen <;> simp

set_option maxHeartbeats 2000000 in
theorem checkBridge_any (mo ba op oh ot fe fp fh ft : Int) (st lo : Bool) (vc : Value) (l : List Ln) (w : World) (h : Ls w vc l) :
    Calls Try.prog 27 #[.agg #[.int .i64 mo, .int .i64 ba, vc, .int .i64 op, .int .i64 oh, .int .i64 ot, .bool st, .int .i64 fe, .int .i64 fp, .int .i64 fh, .int .i64 ft, .bool lo]] w fun e w' => e = .returned (.int .i64 (chkB ⟨mo, ba, l, op, oh, ot, st, fe, fp, fh, ft, lo⟩)) ∧ Below w.heap.size w w' := by
  have HS : Hid (Ls w vc l) := h
  obtain ⟨va, vk, rfl, -⟩ := h.shape
  clear h
  rcases rngBr_waysR (b := ⟨mo, ba, l, op, oh, ot, st, fe, fp, fh, ft, lo⟩) with ⟨hr, h1, h2, h3⟩ | ⟨hr, hw⟩
  rotate_left
  · have HE : Hid (chkB ⟨mo, ba, l, op, oh, ot, st, fe, fp, fh, ft, lo⟩ = 2) := by show _ = _; rw [chkB, hr]; rfl
    clear hr
    dsimp only at hw
    rcases hw with h1 | ⟨h1, h2⟩ | ⟨h1, h2, h3⟩
    all_goals
      go_enter Try.func27, Try.ntmps27
      go_wp2_with (go_at_call 58; refine (in_any _ _ _ _).mono ?_; rintro e w' ⟨rfl, rfl⟩)
      go_ret
      exact ⟨ret_int HE.out.symm, bel_alloc (Below.refl _ _) _⟩
  dsimp only at h1 h2 h3
  have HR : Hid (rngBr ⟨mo, ba, l, op, oh, ot, st, fe, fp, fh, ft, lo⟩ = true) := hr
  clear hr
  go_enter Try.func27, Try.ntmps27
  go_wp2_with (go_at_call 58; refine (in_any _ _ _ _).mono ?_; rintro e w' ⟨rfl, rfl⟩)
  refine (checkCache_any _ l _ (HS.out.alloc _)).mono ?_
  rintro e w1 ⟨rfl, b1⟩
  have X0 := (Box.newAt (n := w.heap.size) rfl 44 #[.int .i64 mo, .int .i64 ba, .slice va l.length vk, .int .i64 op, .int .i64 oh, .int .i64 ot, .bool st, .int .i64 fe, .int .i64 fp, .int .i64 fh, .int .i64 ft, .bool lo]).keep b1
  have B1 : Hid (Below w.heap.size w w1) := bel_trans (bel_alloc (Below.refl _ _) _) b1
  clear b1
  obtain ⟨⟨q0, q1, q2, q3, q4, q5, q6, q7, q8, q9, q10, q11⟩, s0⟩ := X0.twelve
  by_cases hc : chkC l = 0
  rotate_left
  · have HE : Hid (chkB ⟨mo, ba, l, op, oh, ot, st, fe, fp, fh, ft, lo⟩ = chkC l) := by show _ = _; rw [chkB, if_pos HR.out, if_neg hc]
    have hq : (chkC l == 0) = false := by simpa using hc
    go_wp2
    go_ret
    exact ⟨ret_int HE.out.symm, B1.out⟩
  rw [hc]
  go_wp2_with fail
  refine (checkRing_any _ _ _ _).mono ?_
  rintro e w2 ⟨rfl, rfl⟩
  by_cases hk : chkR op oh ot = 0
  rotate_left
  · have HE : Hid (chkB ⟨mo, ba, l, op, oh, ot, st, fe, fp, fh, ft, lo⟩ = chkR op oh ot) := by show _ = _; rw [chkB, if_pos HR.out, if_pos hc, if_neg hk]
    have hq : (chkR op oh ot == 0) = false := by simpa using hk
    go_wp2
    go_ret
    exact ⟨ret_int HE.out.symm, bel_alloc B1.out _⟩
  have HE : Hid (chkB ⟨mo, ba, l, op, oh, ot, st, fe, fp, fh, ft, lo⟩ = chkR fp fh ft) := by show _ = _; rw [chkB, if_pos HR.out, if_pos hc, if_pos hk]
  rw [hk]
  go_wp2_with fail
  refine (checkRing_any _ _ _ _).mono ?_
  rintro e w2 ⟨rfl, rfl⟩
  go_wp2
  go_ret
  exact ⟨ret_int HE.out.symm, bel_alloc (bel_alloc B1.out _) _⟩
end Go.Proofs.Ytefcdcneenjbgab
