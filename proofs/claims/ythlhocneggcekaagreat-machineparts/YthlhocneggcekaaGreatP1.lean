/-
  Laid together: Equal, Mem2, HartMath, DmaMath, Hps, HpsCut, EqualL, SameB, MachR, HCheck, MCheck, ToldL, EqualT, RefAsk, PartsB.
-/
import Derived.Test.YthlhocneggcekaaGreatB1
import Derived.Test.YthlhocneggcekaaGreatB2
import Derived.Test.YthlhocneggcekaaGreatB3
import Derived.Test.YthlhocneggcekaaGreatB4
import Derived.Test.YthlhocneggcekaaGreatB5
import Derived.Test.YthlhocneggcekaaGreatB6
import Derived.Test.YthlhocneggcekaaGreatB7
import Derived.Test.YthlhocneggcekaaGreatB8
import Derived.Test.YthlhocneggcekaaGreatB9
import Derived.Test.YthlhocneggcekaaGreatB10
import Derived.Test.YthlhocneggcekaaGreatB11
import Derived.Test.YthlhocneggcekaaGreatB12
import Derived.Test.YthlhocneggcekaaGreatB13
import Derived.Test.YthlhocneggcekaaGreatB14
import Derived.Test.YthlhocneggcekaaGreatB15
import Derived.Test.YthlhocneggcekaaGreatB16
import Derived.Test.YthlhocneggcekaaGreatB17
import Derived.Test.YthlhocneggcekaaGreatB18
import Derived.Test.YthlhocneggcekaaGreatB19
import Derived.Test.YthlhocneggcekaaGreatB20
import Derived.Test.YthlhocneggcekaaGreatB21
import Derived.Test.YthlhocneggcekaaGreatB22
import Derived.Test.YthlhocneggcekaaGreatB23
import Derived.Test.YthlhocneggcekaaGreatB24
import Derived.Test.YthlhocneggcekaaGreatB25
import Derived.Test.YthlhocneggcekaaGreatB26
import Derived.Test.YthlhocneggcekaaGreatB27
import Derived.Test.YthlhocneggcekaaGreatB28
import Derived.Test.YthlhocneggcekaaGreatB29
import Derived.Test.YthlhocneggcekaaGreatB30
import Derived.Test.YthlhocneggcekaaGreatB31
import Derived.Test.YthlhocneggcekaaGreatB32
import Derived.Test.YthlhocneggcekaaGreatB33
import Derived.Test.YthlhocneggcekaaGreatB34
import Derived.Test.YthlhocneggcekaaGreatB35
import Derived.Test.YthlhocneggcekaaGreatB36
import Derived.Test.YthlhocneggcekaaGreatB37
import Derived.Test.YthlhocneggcekaaGreatB38
import Derived.Test.YthlhocneggcekaaGreatB39
import Derived.Test.YthlhocneggcekaaGreatB40
import Derived.Test.YthlhocneggcekaaGreatB41
import Derived.Test.YthlhocneggcekaaGreatB42
import Derived.Test.YthlhocneggcekaaGreatB43
import Derived.Test.YthlhocneggcekaaGreatB44
namespace Go.Proofs.YthlhocneggcekaaGreat
open Go.RowKit
set_option maxHeartbeats 1000000 in
theorem equal_any (v1 v2 : Value) (xs ys : List Int) (w : World) (h1 : Sl w v1 xs) (h2 : Sl w v2 ys) :
    Calls Tryz.prog 44 #[v1, v2] w fun e w' => e = .returned (.bool (decide (xs = ys))) ∧ ∃ n, w' = w.drewN n := by
  obtain ⟨a1, c1, rfl, l1, h1⟩ := h1
  obtain ⟨a2, c2, rfl, l2, h2⟩ := h2
  unfold maxLen at l1 l2
  by_cases hl : xs.length = ys.length
  · have hne : ((xs.length : Int) != (ys.length : Int)) = false := by simp [hl]
    rcases h1 with rfl | ⟨b1, o1, rfl, hb1, hc1⟩
    · obtain rfl : ys = [] := List.eq_nil_of_length_eq_zero hl.symm
      go_enter Tryz.func44, Tryz.ntmps44
      go_wp2
      go_loopw [5, 13] (fun _ i w' => i = J 0 ∧ w' = w) (fun _ i _ => 0)
      case atStart => exact ⟨rfl, rfl⟩
      case round =>
        obtain ⟨rfl, rfl⟩ := hrel
        go_wp2
        go_ret
        exact ⟨rfl, 0, rfl⟩
    · rcases h2 with rfl | ⟨b2, o2, rfl, hb2, hc2⟩
      · obtain rfl : xs = [] := List.eq_nil_of_length_eq_zero hl
        go_enter Tryz.func44, Tryz.ntmps44
        go_wp2
        go_loopw [5, 13] (fun _ i w' => i = J 0 ∧ w' = w) (fun _ i _ => 0)
        case atStart => exact ⟨rfl, rfl⟩
        case round =>
          obtain ⟨rfl, rfl⟩ := hrel
          go_wp2
          go_ret
          exact ⟨rfl, 0, rfl⟩
      have Hl : Hid (xs.length = ys.length) := hl
      have hle : (xs.length : Int) ≤ ys.length := by omega
      have H1 := hc1
      have H2 := hc2
      clear hl hc1 hc2
      have HC1 : Hid _ := H1
      have HC2 : Hid _ := H2
      clear H1 H2
      go_enter Tryz.func44, Tryz.ntmps44
      go_wp2
      go_loopw [5, 13] (fun _ i w' => ∃ k : Nat, k ≤ xs.length ∧ i = J k ∧ (∀ j, j < k → nth xs j = nth ys j) ∧ ∃ n, w' = w.drewN n) (fun _ i _ => xs.length - (intOf i).toNat)
      case atStart => exact ⟨0, Nat.zero_le _, rfl, fun j hj => absurd hj (Nat.not_lt_zero _), 0, rfl⟩
      case round =>
        obtain ⟨k, hk, rfl, hpre, n, rfl⟩ := hrel
        have HP : Hid (∀ j, j < k → nth xs j = nth ys j) := hpre
        clear hpre
        by_cases hlt : k < xs.length
        · have g1 := HC1.out k hlt
          have g2 := HC2.out k (by have := Hl.out; omega)
          have hlt1 : (k : Int) < xs.length := by omega
          have hlt2 : (k : Int) < ys.length := by omega
          by_cases hq : nth xs k = nth ys k
          · have hb : (nth xs k != nth ys k) = false := by simp [hq]
            have HQ : Hid (nth xs k = nth ys k) := hq
            clear hq
            go_wp2
            go_quiet (fail)
            go_wp2
            refine ⟨⟨k + 1, by omega, by go_num, fun j hj => ?_, _, rfl⟩, by simp [intOf]; omega⟩
            by_cases e : j = k
            · rw [e]; exact HQ.out
            · exact HP.out j (by omega)
          · have hb : (nth xs k != nth ys k) = true := by simp [hq]
            have HN : Hid (decide (xs = ys) = false) := by simpa [Hid] using ne_of_getD hq
            clear hq
            go_wp2
            go_quiet (fail)
            go_wp2
            go_ret
            exact ⟨ret_bool HN.out.symm, n + nq, World.drewN_drewN _ _ _⟩
        · have HD : Hid (decide (xs = ys) = true) := equal_done Hl.out hlt HP.out
          go_wp2
          go_ret
          exact ⟨ret_bool HD.out.symm, _, rfl⟩
  · have hne : ((xs.length : Int) != (ys.length : Int)) = true := by simp; omega
    have hd : decide (xs = ys) = false := by simp; intro e; exact hl (by rw [e])
    rw [hd]
    go_enter Tryz.func44, Tryz.ntmps44
    go_wp2
    go_ret
    exact ⟨rfl, 0, rfl⟩
theorem same_any (v1 v2 : Value) (xs ys : List Int) (w : World) (h1 : Sl w v1 xs) (h2 : Sl w v2 ys) :
    Calls Tryz.prog 21 #[.agg #[v1], .agg #[v2]] w fun e w' => e = .returned (.bool (decide (xs = ys))) ∧ Below w.heap.size w w' := by
  have bel : ∀ o1 o2, Below w.heap.size w ((w.alloc o1).alloc o2) := fun o1 o2 => bel_alloc (bel_alloc (Below.refl _ _) _) _
  go_enter Tryz.func21, Tryz.ntmps21
  go_wp2_with fail
  refine (equal_any _ _ xs ys _ ?_ ?_).mono ?_
  · exact h1.keep (bel _ _)
  · exact h2.keep (bel _ _)
  rintro e w1 ⟨rfl, n, rfl⟩
  go_wp2
  go_ret
  exact ⟨rfl, bel_drewN (bel _ _) _⟩
def sameH (a b : Ht) : Bool := decide (a.pc = b.pc) && decide (a.done = b.done) && decide (a.r = b.r)
theorem tth_get {l : List Tc} {i : Nat} (h : i < l.length) : tth l i = l[i] := by simp [tth, h]
theorem Hps.keep {w w' : World} {v : Value} {l : List Hp} (h : Hps w v l) (hb : Below w.heap.size w w') : Hps w' v l := by
  obtain ⟨a, cap, rfl, hl, hm, h⟩ := h
  refine ⟨a, cap, rfl, hl, hm, h.imp id ?_⟩
  rintro ⟨b, o, rfl, hbl, hc⟩
  exact ⟨b, o, rfl, Nat.lt_of_lt_of_le hbl hb.size, fun i hi => (hc i hi).keep hb hbl⟩
theorem hpth_take {l : List Hp} {i k : Nat} (h : i < k) : hpth (l.take k) i = hpth l i := by simp [hpth, h]
theorem hpth_drop {l : List Hp} {i k : Nat} : hpth (l.drop k) i = hpth l (k + i) := by simp [hpth]
theorem Hps.take {w : World} {a : Option Addr} {n cap : Nat} {l : List Hp} (h : Hps w (.slice a n cap) l) {k : Nat} (hk : k ≤ l.length) : Hps w (.slice a k cap) (l.take k) := by
  obtain ⟨a', c', e', h1, h2, q⟩ := h
  simp only [Value.slice.injEq] at e'
  obtain ⟨rfl, rfl, rfl⟩ := e'
  refine ⟨a, cap, by rw [List.length_take, Nat.min_eq_left hk], by rw [List.length_take]; omega, h2, ?_⟩
  rcases q with q | ⟨b, o, q, q2, q3⟩
  · exact .inl (by rw [q]; simp)
  · refine .inr ⟨b, o, q, q2, fun i hi => ?_⟩
    rw [List.length_take] at hi
    rw [hpth_take (by omega)]
    exact q3 i (by omega)
theorem Hps.drop {w : World} {b o n cap : Nat} {l : List Hp} (h : Hps w (.slice (some ⟨b, o, none⟩) n cap) l) {k : Nat} (hk : k ≤ l.length) : Hps w (.slice (some ⟨b, o + k * 7, none⟩) (l.length - k) (cap - k)) (l.drop k) := by
  obtain ⟨a', c', e', h1, h2, q⟩ := h
  simp only [Value.slice.injEq] at e'
  obtain ⟨rfl, rfl, rfl⟩ := e'
  refine ⟨_, _, by rw [List.length_drop], by rw [List.length_drop]; omega, by omega, ?_⟩
  rcases q with q | ⟨b', o', q, q2, q3⟩
  · exact .inl (by rw [q]; simp)
  · simp only [Option.some.injEq, Addr.mk.injEq] at q
    obtain ⟨rfl, rfl, -⟩ := q
    refine .inr ⟨b, _, rfl, q2, fun i hi => ?_⟩
    rw [List.length_drop] at hi
    rw [hpth_drop, show o + k * 7 + i * 7 = o + (k + i) * 7 by omega]
    exact q3 _ (by omega)
theorem Hps.nilOf {w : World} {a : Option Addr} {k cap : Nat} {l : List Hp} (h : l.length = 0) (hk : k = 0) (hc : cap ≤ maxLen) : Hps w (.slice a k cap) l := by
  obtain rfl : l = [] := List.eq_nil_of_length_eq_zero h
  subst hk
  exact Hps.nil w a cap hc
theorem lines_ext {xs ys : List Ln} (hl : xs.length = ys.length) (h : ∀ i, i < xs.length → lth xs i = lth ys i) : xs = ys := by
  apply List.ext_getElem hl
  intro i h1 h2
  have := h i h1
  rwa [lth_get h1, lth_get h2] at this
theorem lines_ne {xs ys : List Ln} {i : Nat} (h : ¬ lth xs i = lth ys i) : ¬ xs = ys := fun e => h (by rw [e])
theorem line_diff {a b c : Int} {d e : Bool} {a' b' c' : Int} {d' e' : Bool} (h : ¬ (a, b, c, d, e) = (a', b', c', d', e')) :
    ¬ a = a' ∨ (a = a' ∧ ¬ b = b') ∨ (a = a' ∧ b = b' ∧ ¬ c = c') ∨ (a = a' ∧ b = b' ∧ c = c' ∧ ¬ d = d') ∨ (a = a' ∧ b = b' ∧ c = c' ∧ d = d' ∧ ¬ e = e') := by
  simp only [Prod.mk.injEq] at h
  by_cases h1 : a = a'
  · by_cases h2 : b = b'
    · by_cases h3 : c = c'
      · by_cases h4 : d = d'
        · by_cases h5 : e = e'
          · exact absurd ⟨h1, h2, h3, h4, h5⟩ h
          · exact .inr (.inr (.inr (.inr ⟨h1, h2, h3, h4, h5⟩)))
        · exact .inr (.inr (.inr (.inl ⟨h1, h2, h3, h4⟩)))
      · exact .inr (.inr (.inl ⟨h1, h2, h3⟩))
    · exact .inr (.inl ⟨h1, h2⟩)
  · exact .inl h1
set_option maxHeartbeats 1000000 in
theorem equalL_any (v1 v2 : Value) (xs ys : List Ln) (w : World) (h1 : Ls w v1 xs) (h2 : Ls w v2 ys) :
    Calls Tryz.prog 20 #[v1, v2] w fun e w' => e = .returned (.bool (decide (xs = ys))) ∧ ∃ n, w' = w.drewN n := by
  obtain ⟨a1, c1, rfl, n1, l1, h1⟩ := h1
  obtain ⟨a2, c2, rfl, n2, l2, h2⟩ := h2
  unfold maxLen at l1 l2
  by_cases hl : xs.length = ys.length
  · have hne : ((xs.length : Int) != (ys.length : Int)) = false := by simp [hl]
    rcases h1 with rfl | ⟨b1, o1, rfl, hb1, hc1⟩
    · obtain rfl : ys = [] := List.eq_nil_of_length_eq_zero hl.symm
      go_enter Tryz.func20, Tryz.ntmps20
      go_wp2
      go_loopw [5, 13] (fun _ i w' => i = J 0 ∧ w' = w) (fun _ i _ => 0)
      case atStart => exact ⟨rfl, rfl⟩
      case round =>
        obtain ⟨rfl, rfl⟩ := hrel
        go_wp2
        go_ret
        exact ⟨rfl, 0, rfl⟩
    · rcases h2 with rfl | ⟨b2, o2, rfl, hb2, hc2⟩
      · obtain rfl : xs = [] := List.eq_nil_of_length_eq_zero hl
        go_enter Tryz.func20, Tryz.ntmps20
        go_wp2
        go_loopw [5, 13] (fun _ i w' => i = J 0 ∧ w' = w) (fun _ i _ => 0)
        case atStart => exact ⟨rfl, rfl⟩
        case round =>
          obtain ⟨rfl, rfl⟩ := hrel
          go_wp2
          go_ret
          exact ⟨rfl, 0, rfl⟩
      have Hl : Hid (xs.length = ys.length) := hl
      have hle : (xs.length : Int) ≤ ys.length := by omega
      have H1 := hc1
      have H2 := hc2
      clear hl hc1 hc2
      have HC1 : Hid _ := H1
      have HC2 : Hid _ := H2
      clear H1 H2
      go_enter Tryz.func20, Tryz.ntmps20
      go_wp2
      go_loopw [5, 13] (fun _ i w' => ∃ k : Nat, k ≤ xs.length ∧ i = J k ∧ (∀ j, j < k → lth xs j = lth ys j) ∧ ∃ n, w' = w.drewN n) (fun _ i _ => xs.length - (intOf i).toNat)
      case atStart => exact ⟨0, Nat.zero_le _, rfl, fun j hj => absurd hj (Nat.not_lt_zero _), 0, rfl⟩
      case round =>
        obtain ⟨k, hk, rfl, hpre, n, rfl⟩ := hrel
        have HP : Hid (∀ j, j < k → lth xs j = lth ys j) := hpre
        clear hpre
        by_cases hlt : k < xs.length
        · obtain ⟨g0, g1, g2, g3, g4⟩ := HC1.out k hlt
          obtain ⟨f0, f1, f2, f3, f4⟩ := HC2.out k (by have := Hl.out; omega)
          have hlt1 : (k : Int) < xs.length := by omega
          have hlt2 : (k : Int) < ys.length := by omega
          obtain ⟨y, hy⟩ : ∃ y, y = lth xs k := ⟨_, rfl⟩
          obtain ⟨z, hz⟩ : ∃ z, z = lth ys k := ⟨_, rfl⟩
          have HY : Hid (y = lth xs k) := hy
          have HZ : Hid (z = lth ys k) := hz
          rw [← hy] at g0 g1 g2 g3 g4
          rw [← hz] at f0 f1 f2 f3 f4
          clear hy hz
          obtain ⟨d1, p1, a1, r1, x1⟩ := y
          obtain ⟨d2, p2, a2, r2, x2⟩ := z
          simp only at g0 g1 g2 g3 g4 f0 f1 f2 f3 f4
          by_cases hq : (d1, p1, a1, r1, x1) = ((d2, p2, a2, r2, x2) : Ln)
          · have HQ : Hid (lth xs k = lth ys k) := by show _ = _; rw [← HY.out, ← HZ.out]; exact hq
            simp only [Prod.mk.injEq] at hq
            obtain ⟨rfl, rfl, rfl, rfl, rfl⟩ := hq
            go_wp2
            go_quiet (fail)
            go_wp2
            exact ⟨⟨k + 1, by omega, by go_num, upto_next HP.out HQ.out, _, rfl⟩, by simp [intOf]; omega⟩
          · have HN : Hid (decide (xs = ys) = false) := decide_eq_false (lines_ne (i := k) (by rw [← HY.out, ← HZ.out]; exact hq))
            rcases line_diff hq with e1 | ⟨rfl, e1⟩ | ⟨rfl, rfl, e1⟩ | ⟨rfl, rfl, rfl, e1⟩ | ⟨rfl, rfl, rfl, rfl, e1⟩
            all_goals
              clear hq
              go_wp2
              go_quiet (fail)
              go_wp2
              go_ret
              exact ⟨ret_bool HN.out.symm, n + nq, World.drewN_drewN _ _ _⟩
        · have HD : Hid (decide (xs = ys) = true) := decide_eq_true (lines_ext Hl.out fun i hi => HP.out i (by omega))
          go_wp2
          go_ret
          exact ⟨ret_bool HD.out.symm, _, rfl⟩
  · have hne : ((xs.length : Int) != (ys.length : Int)) = true := by simp; omega
    have hd : decide (xs = ys) = false := by simp; intro e; exact hl (by rw [e])
    rw [hd]
    go_enter Tryz.func20, Tryz.ntmps20
    go_wp2
    go_ret
    exact ⟨rfl, 0, rfl⟩
def sameBr (a b : Br) : Bool :=
  decide (a.mode = b.mode) && (decide (a.base = b.base) && (decide (a.cache = b.cache) && (decide (a.op = b.op) && (decide (a.oh = b.oh) && (decide (a.ot = b.ot) && (decide (a.stop = b.stop) && (decide (a.fen = b.fen) && (decide (a.fp = b.fp) && (decide (a.fh = b.fh) && (decide (a.ft = b.ft) && decide (a.lost = b.lost)))))))))))
theorem sameBr_self (b : Br) : sameBr b b = true := by simp [sameBr]
set_option maxHeartbeats 4000000 in
theorem bSame_any (mo ba op oh ot fe fp fh ft : Int) (st lo : Bool) (vc : Value) (l : List Ln) (mo1 ba1 op1 oh1 ot1 fe1 fp1 fh1 ft1 : Int) (st1 lo1 : Bool) (vc1 : Value) (l1 : List Ln) (w : World) (h : Ls w vc l) (h1 : Ls w vc1 l1) :
    Calls Tryz.prog 22 #[.agg #[J mo, J ba, vc, J op, J oh, J ot, .bool st, J fe, J fp, J fh, J ft, .bool lo], .agg #[J mo1, J ba1, vc1, J op1, J oh1, J ot1, .bool st1, J fe1, J fp1, J fh1, J ft1, .bool lo1]] w fun e w' => e = .returned (.bool (sameBr ⟨mo, ba, l, op, oh, ot, st, fe, fp, fh, ft, lo⟩ ⟨mo1, ba1, l1, op1, oh1, ot1, st1, fe1, fp1, fh1, ft1, lo1⟩)) ∧ Below w.heap.size w w' := by
  have HS : Hid (Ls w vc l) := h
  have HS1 : Hid (Ls w vc1 l1) := h1
  obtain ⟨va, vk, rfl, -⟩ := h.shape
  obtain ⟨va1, vk1, rfl, -⟩ := h1.shape
  clear h h1
  by_cases hd : mo = mo1
  rotate_left
  · have HE : Hid (sameBr ⟨mo, ba, l, op, oh, ot, st, fe, fp, fh, ft, lo⟩ ⟨mo1, ba1, l1, op1, oh1, ot1, st1, fe1, fp1, fh1, ft1, lo1⟩ = false) := by show _ = _; simp [sameBr, hd]
    have hq : (mo == mo1) = false := by simpa using hd
    go_enter Tryz.func22, Tryz.ntmps22
    go_wp2_with fail
    go_ret
    exact ⟨ret_bool HE.out.symm, by first | exact bel_alloc (bel_alloc (Below.refl _ _) _) _ | exact bel_drewN (bel_alloc (bel_alloc (Below.refl _ _) _) _) _⟩
  subst hd
  by_cases hd : ba = ba1
  rotate_left
  · have HE : Hid (sameBr ⟨mo, ba, l, op, oh, ot, st, fe, fp, fh, ft, lo⟩ ⟨mo, ba1, l1, op1, oh1, ot1, st1, fe1, fp1, fh1, ft1, lo1⟩ = false) := by show _ = _; simp [sameBr, hd]
    have hq : (ba == ba1) = false := by simpa using hd
    go_enter Tryz.func22, Tryz.ntmps22
    go_wp2_with fail
    go_ret
    exact ⟨ret_bool HE.out.symm, by first | exact bel_alloc (bel_alloc (Below.refl _ _) _) _ | exact bel_drewN (bel_alloc (bel_alloc (Below.refl _ _) _) _) _⟩
  subst hd
  by_cases hd : l = l1
  rotate_left
  · have HE : Hid (sameBr ⟨mo, ba, l, op, oh, ot, st, fe, fp, fh, ft, lo⟩ ⟨mo, ba, l1, op1, oh1, ot1, st1, fe1, fp1, fh1, ft1, lo1⟩ = false) := by show _ = _; simp [sameBr, hd]
    have hq : decide (l = l1) = false := by simpa using hd
    go_enter Tryz.func22, Tryz.ntmps22
    go_wp2_with (go_at_call 20; refine (equalL_any _ _ l l1 _ (HS.out.keep (bel_alloc (bel_alloc (Below.refl _ _) _) _)) (HS1.out.keep (bel_alloc (bel_alloc (Below.refl _ _) _) _))).mono ?_; rintro e w' ⟨rfl, n, rfl⟩)
    go_ret
    exact ⟨ret_bool HE.out.symm, by first | exact bel_alloc (bel_alloc (Below.refl _ _) _) _ | exact bel_drewN (bel_alloc (bel_alloc (Below.refl _ _) _) _) _⟩
  subst hd
  by_cases hd : op = op1
  rotate_left
  · have HE : Hid (sameBr ⟨mo, ba, l, op, oh, ot, st, fe, fp, fh, ft, lo⟩ ⟨mo, ba, l, op1, oh1, ot1, st1, fe1, fp1, fh1, ft1, lo1⟩ = false) := by show _ = _; simp [sameBr, hd]
    have hq : (op == op1) = false := by simpa using hd
    go_enter Tryz.func22, Tryz.ntmps22
    go_wp2_with (go_at_call 20; refine (equalL_any _ _ l l _ (HS.out.keep (bel_alloc (bel_alloc (Below.refl _ _) _) _)) (HS1.out.keep (bel_alloc (bel_alloc (Below.refl _ _) _) _))).mono ?_; rintro e w' ⟨rfl, n, rfl⟩)
    go_ret
    exact ⟨ret_bool HE.out.symm, by first | exact bel_alloc (bel_alloc (Below.refl _ _) _) _ | exact bel_drewN (bel_alloc (bel_alloc (Below.refl _ _) _) _) _⟩
  subst hd
  by_cases hd : oh = oh1
  rotate_left
  · have HE : Hid (sameBr ⟨mo, ba, l, op, oh, ot, st, fe, fp, fh, ft, lo⟩ ⟨mo, ba, l, op, oh1, ot1, st1, fe1, fp1, fh1, ft1, lo1⟩ = false) := by show _ = _; simp [sameBr, hd]
    have hq : (oh == oh1) = false := by simpa using hd
    go_enter Tryz.func22, Tryz.ntmps22
    go_wp2_with (go_at_call 20; refine (equalL_any _ _ l l _ (HS.out.keep (bel_alloc (bel_alloc (Below.refl _ _) _) _)) (HS1.out.keep (bel_alloc (bel_alloc (Below.refl _ _) _) _))).mono ?_; rintro e w' ⟨rfl, n, rfl⟩)
    go_ret
    exact ⟨ret_bool HE.out.symm, by first | exact bel_alloc (bel_alloc (Below.refl _ _) _) _ | exact bel_drewN (bel_alloc (bel_alloc (Below.refl _ _) _) _) _⟩
  subst hd
  by_cases hd : ot = ot1
  rotate_left
  · have HE : Hid (sameBr ⟨mo, ba, l, op, oh, ot, st, fe, fp, fh, ft, lo⟩ ⟨mo, ba, l, op, oh, ot1, st1, fe1, fp1, fh1, ft1, lo1⟩ = false) := by show _ = _; simp [sameBr, hd]
    have hq : (ot == ot1) = false := by simpa using hd
    go_enter Tryz.func22, Tryz.ntmps22
    go_wp2_with (go_at_call 20; refine (equalL_any _ _ l l _ (HS.out.keep (bel_alloc (bel_alloc (Below.refl _ _) _) _)) (HS1.out.keep (bel_alloc (bel_alloc (Below.refl _ _) _) _))).mono ?_; rintro e w' ⟨rfl, n, rfl⟩)
    go_ret
    exact ⟨ret_bool HE.out.symm, by first | exact bel_alloc (bel_alloc (Below.refl _ _) _) _ | exact bel_drewN (bel_alloc (bel_alloc (Below.refl _ _) _) _) _⟩
  subst hd
  by_cases hd : st = st1
  rotate_left
  · have HE : Hid (sameBr ⟨mo, ba, l, op, oh, ot, st, fe, fp, fh, ft, lo⟩ ⟨mo, ba, l, op, oh, ot, st1, fe1, fp1, fh1, ft1, lo1⟩ = false) := by show _ = _; simp [sameBr, hd]
    have hq : (st == st1) = false := by simpa using hd
    go_enter Tryz.func22, Tryz.ntmps22
    go_wp2_with (go_at_call 20; refine (equalL_any _ _ l l _ (HS.out.keep (bel_alloc (bel_alloc (Below.refl _ _) _) _)) (HS1.out.keep (bel_alloc (bel_alloc (Below.refl _ _) _) _))).mono ?_; rintro e w' ⟨rfl, n, rfl⟩)
    go_ret
    exact ⟨ret_bool HE.out.symm, by first | exact bel_alloc (bel_alloc (Below.refl _ _) _) _ | exact bel_drewN (bel_alloc (bel_alloc (Below.refl _ _) _) _) _⟩
  subst hd
  by_cases hd : fe = fe1
  rotate_left
  · have HE : Hid (sameBr ⟨mo, ba, l, op, oh, ot, st, fe, fp, fh, ft, lo⟩ ⟨mo, ba, l, op, oh, ot, st, fe1, fp1, fh1, ft1, lo1⟩ = false) := by show _ = _; simp [sameBr, hd]
    have hq : (fe == fe1) = false := by simpa using hd
    go_enter Tryz.func22, Tryz.ntmps22
    go_wp2_with (go_at_call 20; refine (equalL_any _ _ l l _ (HS.out.keep (bel_alloc (bel_alloc (Below.refl _ _) _) _)) (HS1.out.keep (bel_alloc (bel_alloc (Below.refl _ _) _) _))).mono ?_; rintro e w' ⟨rfl, n, rfl⟩)
    go_ret
    exact ⟨ret_bool HE.out.symm, by first | exact bel_alloc (bel_alloc (Below.refl _ _) _) _ | exact bel_drewN (bel_alloc (bel_alloc (Below.refl _ _) _) _) _⟩
  subst hd
  by_cases hd : fp = fp1
  rotate_left
  · have HE : Hid (sameBr ⟨mo, ba, l, op, oh, ot, st, fe, fp, fh, ft, lo⟩ ⟨mo, ba, l, op, oh, ot, st, fe, fp1, fh1, ft1, lo1⟩ = false) := by show _ = _; simp [sameBr, hd]
    have hq : (fp == fp1) = false := by simpa using hd
    go_enter Tryz.func22, Tryz.ntmps22
    go_wp2_with (go_at_call 20; refine (equalL_any _ _ l l _ (HS.out.keep (bel_alloc (bel_alloc (Below.refl _ _) _) _)) (HS1.out.keep (bel_alloc (bel_alloc (Below.refl _ _) _) _))).mono ?_; rintro e w' ⟨rfl, n, rfl⟩)
    go_ret
    exact ⟨ret_bool HE.out.symm, by first | exact bel_alloc (bel_alloc (Below.refl _ _) _) _ | exact bel_drewN (bel_alloc (bel_alloc (Below.refl _ _) _) _) _⟩
  subst hd
  by_cases hd : fh = fh1
  rotate_left
  · have HE : Hid (sameBr ⟨mo, ba, l, op, oh, ot, st, fe, fp, fh, ft, lo⟩ ⟨mo, ba, l, op, oh, ot, st, fe, fp, fh1, ft1, lo1⟩ = false) := by show _ = _; simp [sameBr, hd]
    have hq : (fh == fh1) = false := by simpa using hd
    go_enter Tryz.func22, Tryz.ntmps22
    go_wp2_with (go_at_call 20; refine (equalL_any _ _ l l _ (HS.out.keep (bel_alloc (bel_alloc (Below.refl _ _) _) _)) (HS1.out.keep (bel_alloc (bel_alloc (Below.refl _ _) _) _))).mono ?_; rintro e w' ⟨rfl, n, rfl⟩)
    go_ret
    exact ⟨ret_bool HE.out.symm, by first | exact bel_alloc (bel_alloc (Below.refl _ _) _) _ | exact bel_drewN (bel_alloc (bel_alloc (Below.refl _ _) _) _) _⟩
  subst hd
  by_cases hd : ft = ft1
  rotate_left
  · have HE : Hid (sameBr ⟨mo, ba, l, op, oh, ot, st, fe, fp, fh, ft, lo⟩ ⟨mo, ba, l, op, oh, ot, st, fe, fp, fh, ft1, lo1⟩ = false) := by show _ = _; simp [sameBr, hd]
    have hq : (ft == ft1) = false := by simpa using hd
    go_enter Tryz.func22, Tryz.ntmps22
    go_wp2_with (go_at_call 20; refine (equalL_any _ _ l l _ (HS.out.keep (bel_alloc (bel_alloc (Below.refl _ _) _) _)) (HS1.out.keep (bel_alloc (bel_alloc (Below.refl _ _) _) _))).mono ?_; rintro e w' ⟨rfl, n, rfl⟩)
    go_ret
    exact ⟨ret_bool HE.out.symm, by first | exact bel_alloc (bel_alloc (Below.refl _ _) _) _ | exact bel_drewN (bel_alloc (bel_alloc (Below.refl _ _) _) _) _⟩
  subst hd
  by_cases hd : lo = lo1
  rotate_left
  · have HE : Hid (sameBr ⟨mo, ba, l, op, oh, ot, st, fe, fp, fh, ft, lo⟩ ⟨mo, ba, l, op, oh, ot, st, fe, fp, fh, ft, lo1⟩ = false) := by show _ = _; simp [sameBr, hd]
    have hq : (lo == lo1) = false := by simpa using hd
    go_enter Tryz.func22, Tryz.ntmps22
    go_wp2_with (go_at_call 20; refine (equalL_any _ _ l l _ (HS.out.keep (bel_alloc (bel_alloc (Below.refl _ _) _) _)) (HS1.out.keep (bel_alloc (bel_alloc (Below.refl _ _) _) _))).mono ?_; rintro e w' ⟨rfl, n, rfl⟩)
    go_ret
    exact ⟨ret_bool HE.out.symm, by first | exact bel_alloc (bel_alloc (Below.refl _ _) _) _ | exact bel_drewN (bel_alloc (bel_alloc (Below.refl _ _) _) _) _⟩
  subst hd
  have HE : Hid (sameBr ⟨mo, ba, l, op, oh, ot, st, fe, fp, fh, ft, lo⟩ ⟨mo, ba, l, op, oh, ot, st, fe, fp, fh, ft, lo⟩ = true) := sameBr_self _
  go_enter Tryz.func22, Tryz.ntmps22
  go_wp2_with (go_at_call 20; refine (equalL_any _ _ l l _ (HS.out.keep (bel_alloc (bel_alloc (Below.refl _ _) _) _)) (HS1.out.keep (bel_alloc (bel_alloc (Below.refl _ _) _) _))).mono ?_; rintro e w' ⟨rfl, n, rfl⟩)
  go_ret
  exact ⟨ret_bool HE.out.symm, by first | exact bel_alloc (bel_alloc (Below.refl _ _) _) _ | exact bel_drewN (bel_alloc (bel_alloc (Below.refl _ _) _) _) _⟩
def sameM (a b : Mc) : Bool := decide (a.zs = b.zs) && sameH a.h b.h && sameBr a.b b.b
theorem sameM_self (m : Mc) : sameM m m = true := by simp [sameM, sameH, sameBr_self]
set_option maxHeartbeats 1000000 in
theorem hSame_any (p : Int) (v : Value) (r : List Int) (d : Bool) (p1 : Int) (v1 : Value) (r1 : List Int) (d1 : Bool) (w : World) (h : Sl w v r) (h1 : Sl w v1 r1) :
    Calls Tryz.prog 19 #[.agg #[J p, v, .bool d], .agg #[J p1, v1, .bool d1]] w fun e w' => e = .returned (.bool (sameH ⟨p, r, d⟩ ⟨p1, r1, d1⟩)) ∧ Below w.heap.size w w' := by
  have ho : sameH ⟨p, r, d⟩ ⟨p1, r1, d1⟩ = (decide (p = p1) && decide (d = d1) && decide (r = r1)) := rfl
  rw [ho]
  clear ho
  have H1 : Hid (Sl w v r) := h
  have H2 : Hid (Sl w v1 r1) := h1
  obtain ⟨a, c, rfl, -⟩ := h
  obtain ⟨a1, c1, rfl, -⟩ := h1
  by_cases e1 : p = p1
  rotate_left
  · have q1 : (p == p1) = false := by simpa using e1
    have d1 : Hid (decide (p = p1) = false) := decide_eq_false e1
    clear e1
    go_enter Tryz.func19, Tryz.ntmps19
    go_wp2
    go_ret
    exact ⟨ret_bool (by rw [d1.out]; rfl), bel_alloc (bel_alloc (Below.refl _ _) _) _⟩
  subst e1
  have B2 : ∀ A B : Obj, Below w.heap.size w ((w.alloc A).alloc B) := fun A B => bel_alloc (bel_alloc (Below.refl _ _) A) B
  obtain ⟨rr, hrr⟩ : ∃ rr, decide (r = r1) = rr := ⟨_, rfl⟩
  have HR : Hid (decide (r = r1) = rr) := hrr
  clear hrr
  go_enter Tryz.func19, Tryz.ntmps19
  go_wp2_with fail
  refine (equal_any _ _ r r1 _ (H1.out.keep (B2 _ _)) (H2.out.keep (B2 _ _))).mono ?_
  rintro e w1 ⟨rfl, n, rfl⟩
  rw [HR.out]
  cases rr
  · go_wp2
    go_ret
    exact ⟨ret_bool (by rw [HR.out]; simp), bel_drewN (bel_alloc (bel_alloc (Below.refl _ _) _) _) _⟩
  · go_wp2
    go_ret
    exact ⟨ret_bool (by rw [HR.out]; cases d <;> cases d1 <;> rfl), bel_drewN (bel_alloc (bel_alloc (Below.refl _ _) _) _) _⟩
set_option maxRecDepth 10000 in
set_option maxHeartbeats 4000000 in
theorem mSame_any (v : Value) (zs : List Int) (p : Int) (u : Value) (r : List Int) (d : Bool) (mo ba op oh ot fe fp fh ft : Int) (st lo : Bool) (vc : Value) (l : List Ln) (v1 : Value) (zs1 : List Int) (p1 : Int) (u1 : Value) (r1 : List Int) (d1 : Bool) (mo1 ba1 op1 oh1 ot1 fe1 fp1 fh1 ft1 : Int) (st1 lo1 : Bool) (vc1 : Value) (l1 : List Ln) (w : World) (hs : Sl w v zs) (hr : Sl w u r) (h : Ls w vc l) (hs1 : Sl w v1 zs1) (hr1 : Sl w u1 r1) (h1 : Ls w vc1 l1) :
    Calls Tryz.prog 15 #[.agg #[v, J p, u, .bool d, J mo, J ba, vc, J op, J oh, J ot, .bool st, J fe, J fp, J fh, J ft, .bool lo], .agg #[v1, J p1, u1, .bool d1, J mo1, J ba1, vc1, J op1, J oh1, J ot1, .bool st1, J fe1, J fp1, J fh1, J ft1, .bool lo1]] w fun e w' => e = .returned (.bool (sameM ⟨zs, ⟨p, r, d⟩, ⟨mo, ba, l, op, oh, ot, st, fe, fp, fh, ft, lo⟩⟩ ⟨zs1, ⟨p1, r1, d1⟩, ⟨mo1, ba1, l1, op1, oh1, ot1, st1, fe1, fp1, fh1, ft1, lo1⟩⟩)) ∧ Below w.heap.size w w' := by
  have HM : Hid (Sl w v zs) := hs
  have HR : Hid (Sl w u r) := hr
  have HL : Hid (Ls w vc l) := h
  have HM1 : Hid (Sl w v1 zs1) := hs1
  have HR1 : Hid (Sl w u1 r1) := hr1
  have HL1 : Hid (Ls w vc1 l1) := h1
  obtain ⟨a1, n1, c1, rfl⟩ : ∃ a k c, v = .slice a k c := let ⟨a, c, e, _⟩ := hs; ⟨a, _, c, e⟩
  obtain ⟨a2, n2, c2, rfl⟩ : ∃ a k c, u = .slice a k c := let ⟨a, c, e, _⟩ := hr; ⟨a, _, c, e⟩
  obtain ⟨ca, cc, rfl, -⟩ := h.shape
  obtain ⟨a3, n3, c3, rfl⟩ : ∃ a k c, v1 = .slice a k c := let ⟨a, c, e, _⟩ := hs1; ⟨a, _, c, e⟩
  obtain ⟨a4, n4, c4, rfl⟩ : ∃ a k c, u1 = .slice a k c := let ⟨a, c, e, _⟩ := hr1; ⟨a, _, c, e⟩
  obtain ⟨cb, cd, rfl, -⟩ := h1.shape
  obtain ⟨ck, hck⟩ : ∃ ck, ck = l.length := ⟨_, rfl⟩
  obtain ⟨cj, hcj⟩ : ∃ cj, cj = l1.length := ⟨_, rfl⟩
  rw [← hck] at HL ⊢
  rw [← hcj] at HL1 ⊢
  clear hs hr h hs1 hr1 h1 hck hcj
  obtain ⟨t1, ht1⟩ : ∃ t1, decide (zs = zs1) = t1 := ⟨_, rfl⟩
  obtain ⟨t2, ht2⟩ : ∃ t2, sameH ⟨p, r, d⟩ ⟨p1, r1, d1⟩ = t2 := ⟨_, rfl⟩
  obtain ⟨t3, ht3⟩ : ∃ t3, sameBr ⟨mo, ba, l, op, oh, ot, st, fe, fp, fh, ft, lo⟩ ⟨mo1, ba1, l1, op1, oh1, ot1, st1, fe1, fp1, fh1, ft1, lo1⟩ = t3 := ⟨_, rfl⟩
  have H1 : Hid (decide (zs = zs1) = t1) := ht1
  have H2 : Hid (sameH ⟨p, r, d⟩ ⟨p1, r1, d1⟩ = t2) := ht2
  have H3 : Hid (sameBr ⟨mo, ba, l, op, oh, ot, st, fe, fp, fh, ft, lo⟩ ⟨mo1, ba1, l1, op1, oh1, ot1, st1, fe1, fp1, fh1, ft1, lo1⟩ = t3) := ht3
  have HT : Hid (sameM ⟨zs, ⟨p, r, d⟩, ⟨mo, ba, l, op, oh, ot, st, fe, fp, fh, ft, lo⟩⟩ ⟨zs1, ⟨p1, r1, d1⟩, ⟨mo1, ba1, l1, op1, oh1, ot1, st1, fe1, fp1, fh1, ft1, lo1⟩⟩ = (t1 && t2 && t3)) := by show (decide (zs = zs1) && sameH _ _ && sameBr _ _) = _; rw [ht1, ht2, ht3]
  clear ht1 ht2 ht3
  have X0 := (Box.newAt (w := w) (n := w.heap.size) rfl 33 #[.slice a1 n1 c1, J p, .slice a2 n2 c2, .bool d, J mo, J ba, .slice ca ck cc, J op, J oh, J ot, .bool st, J fe, J fp, J fh, J ft, .bool lo]).past (.cells #[.slice a3 n3 c3, J p1, .slice a4 n4 c4, .bool d1, J mo1, J ba1, .slice cb cj cd, J op1, J oh1, J ot1, .bool st1, J fe1, J fp1, J fh1, J ft1, .bool lo1] 33)
  have X1 := Box.newAt (w := w.alloc (.cells #[.slice a1 n1 c1, J p, .slice a2 n2 c2, .bool d, J mo, J ba, .slice ca ck cc, J op, J oh, J ot, .bool st, J fe, J fp, J fh, J ft, .bool lo] 33)) (n := w.heap.size + 1) (by simp) 33 #[.slice a3 n3 c3, J p1, .slice a4 n4 c4, .bool d1, J mo1, J ba1, .slice cb cj cd, J op1, J oh1, J ot1, .bool st1, J fe1, J fp1, J fh1, J ft1, .bool lo1]
  have BW : Hid (Below w.heap.size w _) := bel_alloc (bel_alloc (Below.refl w.heap.size w) (.cells #[.slice a1 n1 c1, J p, .slice a2 n2 c2, .bool d, J mo, J ba, .slice ca ck cc, J op, J oh, J ot, .bool st, J fe, J fp, J fh, J ft, .bool lo] 33)) (.cells #[.slice a3 n3 c3, J p1, .slice a4 n4 c4, .bool d1, J mo1, J ba1, .slice cb cj cd, J op1, J oh1, J ot1, .bool st1, J fe1, J fp1, J fh1, J ft1, .bool lo1] 33)
  go_enter Tryz.func15, Tryz.ntmps15
  go_upto_region 1 with fail
  generalize ((w.alloc (.cells #[.slice a1 n1 c1, J p, .slice a2 n2 c2, .bool d, J mo, J ba, .slice ca ck cc, J op, J oh, J ot, .bool st, J fe, J fp, J fh, J ft, .bool lo] 33)).alloc (.cells #[.slice a3 n3 c3, J p1, .slice a4 n4 c4, .bool d1, J mo1, J ba1, .slice cb cj cd, J op1, J oh1, J ot1, .bool st1, J fe1, J fp1, J fh1, J ft1, .bool lo1] 33)) = W at *
  obtain ⟨⟨q0, q1, q2, q3⟩, ⟨g0, g1, g2, g3, g4, g5, g6, g7, g8, g9, g10, g11⟩, s0⟩ := X0.sixteen
  obtain ⟨⟨y0, y1, y2, y3⟩, ⟨j0, j1, j2, j3, j4, j5, j6, j7, j8, j9, j10, j11⟩, s1⟩ := X1.sixteen
  go_wp2_with fail
  refine (same_any _ _ zs zs1 _ (HM.out.keep BW.out) (HM1.out.keep BW.out)).mono ?_
  rintro e W1 ⟨rfl, k1⟩
  rw [H1.out]
  have X0 := X0.keep k1
  have X1 := X1.keep k1
  have B1 : Hid (Below w.heap.size w W1) := bel_trans BW.out k1
  clear q0 q1 q2 q3 g0 g1 g2 g3 g4 g5 g6 g7 g8 g9 g10 g11 s0
  clear y0 y1 y2 y3 j0 j1 j2 j3 j4 j5 j6 j7 j8 j9 j10 j11 s1 BW k1
  obtain ⟨⟨q0, q1, q2, q3⟩, ⟨g0, g1, g2, g3, g4, g5, g6, g7, g8, g9, g10, g11⟩, s0⟩ := X0.sixteen
  obtain ⟨⟨y0, y1, y2, y3⟩, ⟨j0, j1, j2, j3, j4, j5, j6, j7, j8, j9, j10, j11⟩, s1⟩ := X1.sixteen
  cases t1
  · go_wp2_with fail
    go_ret
    exact ⟨ret_bool (by rw [HT.out]; rfl), B1.out⟩
  go_wp2_with fail
  refine (hSame_any p _ r d p1 _ r1 d1 _ (HR.out.keep B1.out) (HR1.out.keep B1.out)).mono ?_
  rintro e w2 ⟨rfl, k2⟩
  rw [H2.out]
  have X0 := X0.keep k2
  have X1 := X1.keep k2
  have B2 : Hid (Below w.heap.size w w2) := bel_trans B1.out k2
  clear q0 q1 q2 q3 g0 g1 g2 g3 g4 g5 g6 g7 g8 g9 g10 g11 s0
  clear y0 y1 y2 y3 j0 j1 j2 j3 j4 j5 j6 j7 j8 j9 j10 j11 s1 B1 k2
  obtain ⟨⟨q0, q1, q2, q3⟩, ⟨g0, g1, g2, g3, g4, g5, g6, g7, g8, g9, g10, g11⟩, s0⟩ := X0.sixteen
  obtain ⟨⟨y0, y1, y2, y3⟩, ⟨j0, j1, j2, j3, j4, j5, j6, j7, j8, j9, j10, j11⟩, s1⟩ := X1.sixteen
  cases t2
  · go_wp2_with fail
    go_ret
    exact ⟨ret_bool (by rw [HT.out]; rfl), B2.out⟩
  go_wp2_with fail
  refine (bSame_any mo ba op oh ot fe fp fh ft st lo _ l mo1 ba1 op1 oh1 ot1 fe1 fp1 fh1 ft1 st1 lo1 _ l1 _ (HL.out.keep B2.out) (HL1.out.keep B2.out)).mono ?_
  rintro e w3 ⟨rfl, k3⟩
  rw [H3.out]
  go_wp2_with fail
  go_ret
  exact ⟨ret_bool (by rw [HT.out]; simp), bel_trans B2.out k3⟩
theorem mSame_row {m k : Mc} {cs ck : Array Value} {w : World} (hm : IsM w m cs) (hk : IsM w k ck) : Calls Tryz.prog 15 #[.agg cs, .agg ck] w fun e w' => e = .returned (.bool (sameM m k)) ∧ Below w.heap.size w w' := by
  obtain ⟨zs, ⟨p, r, d⟩, ⟨mo, ba, l, op, oh, ot, st, fe, fp, fh, ft, lo⟩⟩ := m
  obtain ⟨zs1, ⟨p1, r1, d1⟩, ⟨mo1, ba1, l1, op1, oh1, ot1, st1, fe1, fp1, fh1, ft1, lo1⟩⟩ := k
  obtain ⟨a1, n1, c1, a2, n2, c2, a3, n3, c3, rfl, h1, h2, h3⟩ := hm
  obtain ⟨b1, k1, e1, b2, k2, e2, b3, k3, e3, rfl, g1, g2, g3⟩ := hk
  exact mSame_any _ zs p _ r d mo ba op oh ot fe fp fh ft st lo _ l _ zs1 p1 _ r1 d1 mo1 ba1 op1 oh1 ot1 fe1 fp1 fh1 ft1 st1 lo1 _ l1 w h1 h2 h3 g1 g2 g3
theorem AtQ.keep {w w' : World} {b o : Nat} {x : Tq} (h : AtQ w b o x) (hb : Below w.heap.size w w') (hl : b < w.heap.size) : AtQ w' b o x := by
  obtain ⟨c, _⟩ := bcell hb
  unfold AtQ
  rw [c _ _ hl, c _ _ hl, c _ _ hl, c _ _ hl]
  exact h
theorem Qs.keep {w w' : World} {v : Value} {l : List Tq} (h : Qs w v l) (hb : Below w.heap.size w w') : Qs w' v l := by
  obtain ⟨a, cap, rfl, hl, hm, h⟩ := h
  refine ⟨a, cap, rfl, hl, hm, ?_⟩
  rcases h with h | ⟨b, o, rfl, hlt, hc⟩
  · exact .inl h
  · exact .inr ⟨b, o, rfl, Nat.lt_of_lt_of_le hlt hb.size, fun i hi => (hc i hi).keep hb hlt⟩
theorem flatQ_of {l : List Tq} {j : Nat} {u : Value} (h : (l.flatMap cellsQ)[j]? = some u) : ∃ i r, i < l.length ∧ r < 4 ∧ j = i * 4 + r ∧ (cellsQ (qth l i))[r]? = some u := by
  have hj : j < l.length * 4 := by
    rw [← flatQ_len]
    rcases Nat.lt_or_ge j (l.flatMap cellsQ).length with k | k
    · exact k
    · rw [List.getElem?_eq_none k] at h; cases h
  refine ⟨j / 4, j % 4, by omega, by omega, by omega, ?_⟩
  rw [← flatQ_at l (j / 4) (j % 4) (by omega) (by omega), ← h]
  congr 1; omega
theorem flatQ_one (l : List Tq) : ∀ u ∈ l.flatMap cellsQ, u.oneCell' = true := by
  intro u hu
  obtain ⟨x, _, hx⟩ := List.mem_flatMap.1 hu
  simp only [cellsQ, List.mem_cons, List.not_mem_nil, or_false] at hx
  rcases hx with rfl | rfl | rfl | rfl <;> rfl
theorem atQ_cell {w : World} {b o : Nat} {x : Tq} (h : AtQ w b o x) {r : Nat} {u : Value} (hr : r < 4) (hu : (cellsQ x)[r]? = some u) : w.cell? ⟨b, o + r, none⟩ = some u := by
  obtain ⟨h0, h1, h2, h3⟩ := h
  match r, hr with
  | 0, _ => simp [cellsQ] at hu; subst hu; exact h0
  | 1, _ => simp [cellsQ] at hu; subst hu; exact h1
  | 2, _ => simp [cellsQ] at hu; subst hu; exact h2
  | 3, _ => simp [cellsQ] at hu; subst hu; exact h3
def OwnQ (w : World) (base : Nat) (v : Value) (l : List Tq) : Prop := w.ownsRow base 40 4 v l.length (l.flatMap cellsQ)
theorem OwnQ.nothing (w : World) (base : Nat) : OwnQ w base (.slice none 0 0) [] := World.ownsRow_nil w base _ _
theorem OwnQ.ls {w : World} {base : Nat} {v : Value} {l : List Tq} (h : OwnQ w base v l) : Qs w v l := by
  have h' := h
  rcases h.2 with ⟨rfl, h0⟩ | ⟨g, cap, cur, rfl, hb, hg, hnc, hcm, hcs, htake⟩
  · obtain rfl : l = [] := List.eq_nil_of_length_eq_zero h0
    exact Qs.nothing w
  · refine ⟨_, cap, rfl, hnc, hcm, .inr ⟨g, 0, rfl, ?_, fun i hi => ?_⟩⟩
    · exact (h.lt g rfl).2
    · have hc : ∀ r, r < 4 → w.cell? ⟨g, 0 + i * 4 + r, none⟩ = (cellsQ (qth l i))[r]? := fun r hr => by
        rw [Nat.zero_add]
        have := h.cellAt (i * 4 + r) (by omega)
        rw [this, flatQ_at l i r hi hr]
      exact ⟨hc 0 (by omega), hc 1 (by omega), hc 2 (by omega), hc 3 (by omega)⟩
theorem OwnQ.base {w : World} {base : Nat} {v : Value} {l : List Tq} (h : OwnQ w base v l) : ∀ k, v.ownBlock = some k → base ≤ k := fun k hk => (World.ownsRow.lt h k hk).1
theorem run_append_Q (w : World) (ty : TypeId) (base : Nat) (v x : Value) (l1 l2 : List Tq) (hown : OwnQ w base v l1) (hx : Qs w x l2) (hn : l1.length + l2.length ≤ 1000) (hbase : base ≤ w.heap.size) (hne : (∃ c m n, v = .slice (some c) m n) ∨ l2 ≠ []) :
    ∃ g cap w', (Builtin.append_ #[57, 57] ty #[v, x]).run Tryz.prog w = .ok (.slice (some ⟨g, 0, none⟩) (l1 ++ l2).length cap) w' ∧ OwnQ w' base (.slice (some ⟨g, 0, none⟩) (l1 ++ l2).length cap) (l1 ++ l2) ∧ w.grownBy w' v.ownBlock ∧ (v.ownBlock = some g ∨ g = w.heap.size) := by
  obtain ⟨i, hi, hz, hsz, hby⟩ := infoTold
  obtain ⟨a, cap, rfl, hl, hm, h⟩ := hx
  rcases h with rfl | ⟨b, o, rfl, hb, hc⟩
  · rcases hown.2 with ⟨rfl, h0⟩ | ⟨g, c, cur, rfl, hbg, hg, hnc, hcm, hcs, htake⟩
    · rcases hne with ⟨_, _, _, hne⟩ | hne
      · simp at hne
      · exact absurd rfl hne
    · refine ⟨g, c, w, ?_, ?_, ⟨rfl, rfl, rfl, Nat.le_refl _, fun _ _ _ => rfl⟩, .inl rfl⟩
      · cases a <;>
        simp [Builtin.append_, run_underlying Tryz.underlying57, sizeOf, typeInfo, hi, Builtin.lenOf, Builtin.firstCells, loadCells, loadCellsFrom, hnc, storeCells]
      · simpa using hown
  · by_cases h0 : l2 = []
    · subst h0
      rcases hown.2 with ⟨rfl, h0⟩ | ⟨g, c, cur, rfl, hbg, hg, hnc, hcm, hcs, htake⟩
      · rcases hne with ⟨_, _, _, hne⟩ | hne
        · simp at hne
        · exact absurd rfl hne
      · refine ⟨g, c, w, ?_, ?_, ⟨rfl, rfl, rfl, Nat.le_refl _, fun _ _ _ => rfl⟩, .inl rfl⟩
        · simp [Builtin.append_, run_underlying Tryz.underlying57, sizeOf, typeInfo, hi, Builtin.lenOf, Builtin.firstCells, loadCells, loadCellsFrom, hnc, storeCells]
        · simpa using hown
    · have hpos : 0 < l2.length := List.length_pos_iff.2 h0
      obtain ⟨g, c, w', hr, ho, hgr, hat, _⟩ := run_append_lies (P := Tryz.prog) w 57 ty base 40 i _ 4 64 Tryz.underlying57 hi hz hsz hby rfl (by omega) v l1.length (l1.flatMap cellsQ) hown ⟨b, o, none⟩ l2.length cap (l2.flatMap cellsQ) (flatQ_len l2)
        (fun j u hu => by
          obtain ⟨i', r, h1, h2, rfl, h4⟩ := flatQ_of hu
          rw [add_off, ← Nat.add_assoc]
          exact atQ_cell (hc i' h1) h2 h4)
        (flatQ_one l2) hpos (by unfold maxLen; omega) (by omega) hbase w.heap.size rfl
      refine ⟨g, c, w', ?_, ?_, hgr, hat⟩
      · rw [List.length_append]; exact hr
      · unfold OwnQ; rw [List.length_append, List.flatMap_append]; exact ho
theorem wp_append_Q {w : World} {o : Oper} {a : Act} {K : Act → World → Prop} {Q : Exit → Act → World → Prop} (s x : Operand)
    (ho : o.op = .call { callee := .builtin .append, args := #[s, x], argTypes := #[57, 57] })
    (base : Nat) (v u : Value) (l1 l2 : List Tq) (hs : a.eval s = v) (hu : a.eval x = u) (hown : OwnQ w base v l1) (hx : Qs w u l2) (hn : l1.length + l2.length ≤ 1000) (hbase : base ≤ w.heap.size) (hne : (∃ c m n, v = .slice (some c) m n) ∨ l2 ≠ [])
    (h : ∀ g cap w', OwnQ w' base (.slice (some ⟨g, 0, none⟩) (l1 ++ l2).length cap) (l1 ++ l2) → w.grownBy w' v.ownBlock → Below base w w' → (v.ownBlock = some g ∨ g = w.heap.size) → K (a.put o.dst (.slice (some ⟨g, 0, none⟩) (l1 ++ l2).length cap)) w') : o.wp Tryz.prog a w K Q := by
  obtain ⟨g, cap, w', hr, h2, h3, h4⟩ := run_append_Q w o.type base v u l1 l2 hown hx hn hbase hne
  unfold Oper.wp execOp
  simp only [ho, resolve, invoke, builtin, Sem.run_bind, Sem.run_pure, Result.andThen_ok, List.map_toArray, List.map_cons, List.map_nil, hs, hu, hr]
  exact h g cap w' h2 h3 ((Below.refl base w).grown h3 hbase hown.base) h4
theorem wpList_append_Q {w : World} {ops : Array Oper} {rest : List Oper} {o : Oper} {a : Act} {Q : Exit → Act → World → Prop} (hgd : o.guard = none) (s x : Operand)
    (ho : o.op = .call { callee := .builtin .append, args := #[s, x], argTypes := #[57, 57] })
    (base : Nat) (v u : Value) (l1 l2 : List Tq) (hs : a.eval s = v) (hu : a.eval x = u) (hown : OwnQ w base v l1) (hx : Qs w u l2) (hn : l1.length + l2.length ≤ 1000) (hbase : base ≤ w.heap.size) (hne : (∃ c m n, v = .slice (some c) m n) ∨ l2 ≠ [])
    (h : ∀ g cap w', OwnQ w' base (.slice (some ⟨g, 0, none⟩) (l1 ++ l2).length cap) (l1 ++ l2) → w.grownBy w' v.ownBlock → Below base w w' → (v.ownBlock = some g ∨ g = w.heap.size) → wpList Tryz.prog ops Q rest (a.put o.dst (.slice (some ⟨g, 0, none⟩) (l1 ++ l2).length cap)) w') :
    wpList Tryz.prog ops Q (o :: rest) a w :=
  wpList_plain hgd fun _ hK => wp_append_Q s x ho base v u l1 l2 hs hu hown hx hn hbase hne fun g cap w' h2 h3 hb h4 => hK _ _ (h g cap w' h2 h3 hb h4)
theorem Means.keep {w w' : World} {base : Nat} {x : List Tq} {t : List To} (h : Means w base x t) (hb : Below w.heap.size w w') : Means w' base x t := ⟨h.1, fun i hi => (h.2 i hi).keep hb⟩
theorem Means.mono {w : World} {a b : Nat} {x : List Tq} {t : List To} (h : Means w b x t) (k : a ≤ b) : Means w a x t := ⟨h.1, fun i hi => (h.2 i hi).mono k⟩
theorem Means.append {w : World} {base : Nat} {x y : List Tq} {t u : List To} (h : Means w base x t) (k : Means w base y u) : Means w base (x ++ y) (t ++ u) := by
  refine ⟨by rw [List.length_append, List.length_append, h.1, k.1], fun i hi => ?_⟩
  rw [List.length_append] at hi
  by_cases hl : i < x.length
  · have e1 : qth (x ++ y) i = qth x i := by unfold qth; rw [List.getElem?_append_left hl]
    have e2 : toth (t ++ u) i = toth t i := by unfold toth; rw [List.getElem?_append_left (by rw [← h.1]; exact hl)]
    rw [e1, e2]; exact h.2 i hl
  · have e1 : qth (x ++ y) i = qth y (i - x.length) := by unfold qth; rw [List.getElem?_append_right (by omega)]
    have e2 : toth (t ++ u) i = toth u (i - x.length) := by unfold toth; rw [List.getElem?_append_right (by rw [← h.1]; omega), h.1]
    rw [e1, e2]; exact k.2 _ (by omega)
theorem touches_ext {xs ys : List Tc} (hl : xs.length = ys.length) (h : ∀ i, i < xs.length → tth xs i = tth ys i) : xs = ys := by
  apply List.ext_getElem hl
  intro i h1 h2
  have := h i h1
  rwa [tth_get h1, tth_get h2] at this
theorem touches_ne {xs ys : List Tc} {i : Nat} (h : ¬ tth xs i = tth ys i) : ¬ xs = ys := fun e => h (by rw [e])
theorem touch_diff {a b c : Int} {d : Bool} {e : Int} {a' b' c' : Int} {d' : Bool} {e' : Int} (h : ¬ (a, b, c, d, e) = (a', b', c', d', e')) :
    ¬ a = a' ∨ (a = a' ∧ ¬ b = b') ∨ (a = a' ∧ b = b' ∧ ¬ c = c') ∨ (a = a' ∧ b = b' ∧ c = c' ∧ ¬ d = d') ∨ (a = a' ∧ b = b' ∧ c = c' ∧ d = d' ∧ ¬ e = e') := by
  simp only [Prod.mk.injEq] at h
  by_cases h1 : a = a'
  · by_cases h2 : b = b'
    · by_cases h3 : c = c'
      · by_cases h4 : d = d'
        · by_cases h5 : e = e'
          · exact absurd ⟨h1, h2, h3, h4, h5⟩ h
          · exact .inr (.inr (.inr (.inr ⟨h1, h2, h3, h4, h5⟩)))
        · exact .inr (.inr (.inr (.inl ⟨h1, h2, h3, h4⟩)))
      · exact .inr (.inr (.inl ⟨h1, h2, h3⟩))
    · exact .inr (.inl ⟨h1, h2⟩)
  · exact .inl h1
set_option maxHeartbeats 1000000 in
theorem equalT_any (v1 v2 : Value) (xs ys : List Tc) (w : World) (h1 : Ts w v1 xs) (h2 : Ts w v2 ys) :
    Calls Tryz.prog 47 #[v1, v2] w fun e w' => e = .returned (.bool (decide (xs = ys))) ∧ ∃ n, w' = w.drewN n := by
  obtain ⟨a1, c1, rfl, n1, l1, h1⟩ := h1
  obtain ⟨a2, c2, rfl, n2, l2, h2⟩ := h2
  unfold maxLen at l1 l2
  by_cases hl : xs.length = ys.length
  · have hne : ((xs.length : Int) != (ys.length : Int)) = false := by simp [hl]
    rcases h1 with rfl | ⟨b1, o1, rfl, hb1, hc1⟩
    · obtain rfl : ys = [] := List.eq_nil_of_length_eq_zero hl.symm
      go_enter Tryz.func47, Tryz.ntmps47
      go_wp2
      go_loopw [5, 13] (fun _ i w' => i = J 0 ∧ w' = w) (fun _ i _ => 0)
      case atStart => exact ⟨rfl, rfl⟩
      case round =>
        obtain ⟨rfl, rfl⟩ := hrel
        go_wp2
        go_ret
        exact ⟨rfl, 0, rfl⟩
    · rcases h2 with rfl | ⟨b2, o2, rfl, hb2, hc2⟩
      · obtain rfl : xs = [] := List.eq_nil_of_length_eq_zero hl
        go_enter Tryz.func47, Tryz.ntmps47
        go_wp2
        go_loopw [5, 13] (fun _ i w' => i = J 0 ∧ w' = w) (fun _ i _ => 0)
        case atStart => exact ⟨rfl, rfl⟩
        case round =>
          obtain ⟨rfl, rfl⟩ := hrel
          go_wp2
          go_ret
          exact ⟨rfl, 0, rfl⟩
      have Hl : Hid (xs.length = ys.length) := hl
      have hle : (xs.length : Int) ≤ ys.length := by omega
      have H1 := hc1
      have H2 := hc2
      clear hl hc1 hc2
      have HC1 : Hid _ := H1
      have HC2 : Hid _ := H2
      clear H1 H2
      go_enter Tryz.func47, Tryz.ntmps47
      go_wp2
      go_loopw [5, 13] (fun _ i w' => ∃ k : Nat, k ≤ xs.length ∧ i = J k ∧ (∀ j, j < k → tth xs j = tth ys j) ∧ ∃ n, w' = w.drewN n) (fun _ i _ => xs.length - (intOf i).toNat)
      case atStart => exact ⟨0, Nat.zero_le _, rfl, fun j hj => absurd hj (Nat.not_lt_zero _), 0, rfl⟩
      case round =>
        obtain ⟨k, hk, rfl, hpre, n, rfl⟩ := hrel
        have HP : Hid (∀ j, j < k → tth xs j = tth ys j) := hpre
        clear hpre
        by_cases hlt : k < xs.length
        · obtain ⟨g0, g1, g2, g3, g4⟩ := HC1.out k hlt
          obtain ⟨f0, f1, f2, f3, f4⟩ := HC2.out k (by have := Hl.out; omega)
          have hlt1 : (k : Int) < xs.length := by omega
          have hlt2 : (k : Int) < ys.length := by omega
          obtain ⟨y, hy⟩ : ∃ y, y = tth xs k := ⟨_, rfl⟩
          obtain ⟨z, hz⟩ : ∃ z, z = tth ys k := ⟨_, rfl⟩
          have HY : Hid (y = tth xs k) := hy
          have HZ : Hid (z = tth ys k) := hz
          rw [← hy] at g0 g1 g2 g3 g4
          rw [← hz] at f0 f1 f2 f3 f4
          clear hy hz
          obtain ⟨d1, p1, a1, r1, x1⟩ := y
          obtain ⟨d2, p2, a2, r2, x2⟩ := z
          simp only at g0 g1 g2 g3 g4 f0 f1 f2 f3 f4
          by_cases hq : (d1, p1, a1, r1, x1) = ((d2, p2, a2, r2, x2) : Tc)
          · have HQ : Hid (tth xs k = tth ys k) := by show _ = _; rw [← HY.out, ← HZ.out]; exact hq
            simp only [Prod.mk.injEq] at hq
            obtain ⟨rfl, rfl, rfl, rfl, rfl⟩ := hq
            go_wp2
            go_quiet (fail)
            go_wp2
            exact ⟨⟨k + 1, by omega, by go_num, upto_next HP.out HQ.out, _, rfl⟩, by simp [intOf]; omega⟩
          · have HN : Hid (decide (xs = ys) = false) := decide_eq_false (touches_ne (i := k) (by rw [← HY.out, ← HZ.out]; exact hq))
            rcases touch_diff hq with e1 | ⟨rfl, e1⟩ | ⟨rfl, rfl, e1⟩ | ⟨rfl, rfl, rfl, e1⟩ | ⟨rfl, rfl, rfl, rfl, e1⟩
            all_goals
              clear hq
              go_wp2
              go_quiet (fail)
              go_wp2
              go_ret
              exact ⟨ret_bool HN.out.symm, n + nq, World.drewN_drewN _ _ _⟩
        · have HD : Hid (decide (xs = ys) = true) := decide_eq_true (touches_ext Hl.out fun i hi => HP.out i (by omega))
          go_wp2
          go_ret
          exact ⟨ret_bool HD.out.symm, _, rfl⟩
  · have hne : ((xs.length : Int) != (ys.length : Int)) = true := by simp; omega
    have hd : decide (xs = ys) = false := by simp; intro e; exact hl (by rw [e])
    rw [hd]
    go_enter Tryz.func47, Tryz.ntmps47
    go_wp2
    go_ret
    exact ⟨rfl, 0, rfl⟩
set_option maxHeartbeats 2000000 in
theorem sameTold_eq (dn : Bool) (v1 v2 : Value) (dat : List Int) (f : Int) (u1 u2 : Value) (tch : List Tc) (w : World) (h1 : Sl w v1 dat) (h2 : Sl w v2 dat) (k1 : Ts w u1 tch) (k2 : Ts w u2 tch) :
    Calls Tryz.prog 17 #[.agg #[.bool dn, v1, J f, u1], .agg #[.bool dn, v2, J f, u2]] w fun e w' => e = .returned (.bool true) ∧ Below w.heap.size w w' := by
  have H1 : Hid (Sl w v1 dat) := h1
  have H2 : Hid (Sl w v2 dat) := h2
  have K1 : Hid (Ts w u1 tch) := k1
  have K2 : Hid (Ts w u2 tch) := k2
  obtain ⟨a1, c1, rfl⟩ := h1.shape
  obtain ⟨a2, c2, rfl⟩ := h2.shape
  obtain ⟨b1, e1, rfl, -⟩ := k1
  obtain ⟨b2, e2, rfl, -⟩ := k2
  clear h1 h2
  have B0 : Hid (Below w.heap.size w ((w.alloc (.cells #[.bool dn, .slice a1 dat.length c1, J f, .slice b1 tch.length e1] 40)).alloc (.cells #[.bool dn, .slice a2 dat.length c2, J f, .slice b2 tch.length e2] 40))) := bel_alloc (bel_alloc (Below.refl _ _) _) _
  have X0 := (Box.newAt (n := w.heap.size) rfl 40 #[.bool dn, .slice a1 dat.length c1, J f, .slice b1 tch.length e1]).past (.cells #[.bool dn, .slice a2 dat.length c2, J f, .slice b2 tch.length e2] 40)
  have X1 := Box.newAt (w := w.alloc (.cells #[.bool dn, .slice a1 dat.length c1, J f, .slice b1 tch.length e1] 40)) (n := w.heap.size + 1) (by simp) 40 #[.bool dn, .slice a2 dat.length c2, J f, .slice b2 tch.length e2]
  have hdd : (dn == dn) = true := by simp
  go_enter Tryz.func17, Tryz.ntmps17
  go_wp2_with fail
  refine (equal_any _ _ dat dat _ (H1.out.keep B0.out) (H2.out.keep B0.out)).mono ?_
  rintro e w1 ⟨rfl, nq, rfl⟩
  rw [decide_eq_true (rfl : dat = dat)]
  obtain ⟨t0, t1, t2, t3, -, -, -, -, s0⟩ := (X0.drewN nq).four
  obtain ⟨u0, u1, u2, u3, -, -, -, -, s1⟩ := (X1.drewN nq).four
  have T1 : Hid (Ts (((w.alloc (.cells #[.bool dn, .slice a1 dat.length c1, J f, .slice b1 tch.length e1] 40)).alloc (.cells #[.bool dn, .slice a2 dat.length c2, J f, .slice b2 tch.length e2] 40)).drewN nq) _ tch) := (K1.out.keep B0.out : Ts _ _ tch)
  have T2 : Hid (Ts (((w.alloc (.cells #[.bool dn, .slice a1 dat.length c1, J f, .slice b1 tch.length e1] 40)).alloc (.cells #[.bool dn, .slice a2 dat.length c2, J f, .slice b2 tch.length e2] 40)).drewN nq) _ tch) := (K2.out.keep B0.out : Ts _ _ tch)
  have B1 : Hid (Below w.heap.size w (((w.alloc (.cells #[.bool dn, .slice a1 dat.length c1, J f, .slice b1 tch.length e1] 40)).alloc (.cells #[.bool dn, .slice a2 dat.length c2, J f, .slice b2 tch.length e2] 40)).drewN nq)) := bel_drewN B0.out nq
  clear X0 X1
  generalize (((w.alloc (.cells #[.bool dn, .slice a1 dat.length c1, J f, .slice b1 tch.length e1] 40)).alloc (.cells #[.bool dn, .slice a2 dat.length c2, J f, .slice b2 tch.length e2] 40)).drewN nq) = W at *
  go_wp2_with fail
  refine (equalT_any _ _ tch tch _ T1.out T2.out).mono ?_
  rintro e w2 ⟨rfl, n2, rfl⟩
  rw [decide_eq_true (rfl : tch = tch)]
  go_wp2
  go_ret
  exact ⟨rfl, bel_drewN B1.out _⟩
theorem hps_room {w : World} {a : Option Addr} {n cap : Nat} {l : List Hp} (h : Hps w (.slice a n cap) l) : l.length ≤ cap ∧ cap ≤ maxLen ∧ (l = [] ∨ ∃ b o, a = some ⟨b, o, none⟩) := by
  obtain ⟨a', c', e', h1, h2, q⟩ := h
  simp only [Value.slice.injEq] at e'
  obtain ⟨rfl, -, rfl⟩ := e'
  refine ⟨h1, h2, ?_⟩
  rcases q with q | ⟨b, o, q, -⟩
  · exact .inl q
  · exact .inr ⟨b, o, q⟩
theorem info7 : (sizeOf (Tryz.prog.elem 56)).run Tryz.prog = fun w => .ok 7 w := by kernel_rfl
theorem undH : Tryz.prog.underlying 56 = some (.slice (Tryz.prog.elem 56)) := by kernel_rfl
theorem cut_to {w : World} {a : Option Addr} {cap : Nat} {l : List Hp} (h : Hps w (.slice a l.length cap) l) {k : Nat} (hk : k ≤ l.length) :
    ∃ a', (∀ w', (Instr.sliceAt 56 (.slice a l.length cap) none (some (J k)) none).run Tryz.prog w' = .ok (.slice a' k cap) w') ∧ Hps w (.slice a' k cap) (l.take k) := by
  obtain ⟨h1, h2, h3⟩ := hps_room h
  refine ⟨if cap = 0 then a else a.map (·.add (0 * 7)), fun w' => ?_, ?_⟩
  · rw [run_sliceAt_slice _ _ _ _ _ _ undH, run_slice_h _ _ _ _ _ undH _ _ (by omega) (by omega), info7]
    simp [Result.andThen, sliced]
  · rcases h3 with rfl | ⟨b, o, rfl⟩
    · simp only [List.take_nil]
      obtain rfl : k = 0 := by simpa using hk
      exact Hps.nil _ _ _ h2
    · have e : (if cap = 0 then some (⟨b, o, none⟩ : Addr) else (some (⟨b, o, none⟩ : Addr)).map (·.add (0 * 7))) = some ⟨b, o, none⟩ := by split <;> simp [Addr.add]
      rw [e]
      exact h.take hk
theorem cut_from {w : World} {a : Option Addr} {cap : Nat} {l : List Hp} (h : Hps w (.slice a l.length cap) l) {k : Nat} (hk : k ≤ l.length) :
    ∃ a', (∀ w', (Instr.sliceAt 56 (.slice a l.length cap) (some (J k)) none none).run Tryz.prog w' = .ok (.slice a' (l.length - k) (cap - k)) w') ∧ Hps w (.slice a' (l.length - k) (cap - k)) (l.drop k) := by
  obtain ⟨h1, h2, h3⟩ := hps_room h
  refine ⟨if cap = k then a else a.map (·.add (k * 7)), fun w' => ?_, ?_⟩
  · rw [run_sliceAt_slice _ _ _ _ _ _ undH, run_slice_l _ _ _ _ _ undH _ _ (by omega) (by omega), info7]
    simp [Result.andThen, sliced]
  · by_cases hc : cap = k
    · have hl : l.length = k := by omega
      exact Hps.nilOf (by rw [List.length_drop]; omega) (by omega) (by omega)
    · rcases h3 with rfl | ⟨b, o, rfl⟩
      · exact Hps.nilOf (by simp) (by simp) (by omega)
      · have e : (if cap = k then some (⟨b, o, none⟩ : Addr) else (some (⟨b, o, none⟩ : Addr)).map (·.add (k * 7))) = some ⟨b, o + k * 7, none⟩ := by rw [if_neg hc]; simp [Addr.add]
        rw [e]
        exact h.drop hk
theorem Qs.kept {may : Nat → Prop} {a w : World} {v : Value} {l : List Tq} (hs : Qs a v l) (h : KeptB may a w) (hm : ∀ q, v.ownBlock = some q → ¬ may q) : Qs w v l := by
  obtain ⟨ad, cap, rfl, hl, hc, hs⟩ := hs
  refine ⟨ad, cap, rfl, hl, hc, ?_⟩
  rcases hs with hs | ⟨b, o, rfl, hlt, hc⟩
  · exact .inl hs
  · have hbl := h.block b hlt (hm b (by simp [Value.ownBlock]))
    have hcell : ∀ j, w.cell? ⟨b, j, none⟩ = a.cell? ⟨b, j, none⟩ := fun j => World.cell?_of_block (a := ⟨b, j, none⟩) hbl
    refine .inr ⟨b, o, rfl, Nat.lt_of_lt_of_le hlt h.size, fun i hi => ?_⟩
    unfold AtQ
    rw [hcell, hcell, hcell, hcell]
    exact hc i hi
theorem Tos.kept {may : Nat → Prop} {a w : World} {base : Nat} {v : Value} {ts : List To} (hs : Tos a base v ts) (h : KeptB may a w) (hf : Fresh base v) (hm : ∀ q, may q → q < base) : Tos w base v ts := by
  obtain ⟨qs, h1, h2⟩ := hs
  exact ⟨qs, h1.kept h (fun q hq hb => by have := hf q hq; have := hm q hb; omega), h2.1, fun i hi => (h2.2 i hi).kept h hm⟩
theorem Tos.keep {a w : World} {base : Nat} {v : Value} {ts : List To} (hs : Tos a base v ts) (h : Below a.heap.size a w) : Tos w base v ts := by
  obtain ⟨qs, h1, h2⟩ := hs
  exact ⟨qs, h1.keep h, h2.keep h⟩
set_option maxHeartbeats 2000000 in
theorem equalFuncQ {v1 v2 : Value} {x y : List Tq} {t : List To} {c1 c2 : Nat} {w : World} (h1 : Qs w v1 x) (h2 : Qs w v2 y) (m1 : Means w c1 x t) (m2 : Means w c2 y t) :
    Calls Tryz.prog 25 #[v1, v2, .func (.func 17) #[] #[]] w fun e w' => e = .returned (.bool true) ∧ Below w.heap.size w w' := by
  have hl : x.length = y.length := m1.1.trans m2.1.symm
  have M1 : Hid (Means w c1 x t) := m1
  have M2 : Hid (Means w c2 y t) := m2
  clear m1 m2
  obtain ⟨a1, k1, rfl, n1, l1, h1⟩ := h1
  obtain ⟨a2, k2, rfl, n2, l2, h2⟩ := h2
  unfold maxLen at l1 l2
  have hne : ((x.length : Int) != (y.length : Int)) = false := by simp [hl]
  rcases h1 with rfl | ⟨b1, o1, rfl, hb1, hc1⟩
  · obtain rfl : y = [] := List.eq_nil_of_length_eq_zero hl.symm
    go_enter Tryz.func25, Tryz.ntmps25
    go_wp2
    go_loopw [7, 8, 9, 17] (fun _ _ _ i w' => i = J 0 ∧ w' = w) (fun _ _ _ i _ => 0)
    case atStart => exact ⟨rfl, rfl⟩
    case round =>
      obtain ⟨rfl, rfl⟩ := hrel
      go_wp2
      go_ret
      exact ⟨rfl, Below.refl _ _⟩
  · rcases h2 with rfl | ⟨b2, o2, rfl, hb2, hc2⟩
    · obtain rfl : x = [] := List.eq_nil_of_length_eq_zero hl
      go_enter Tryz.func25, Tryz.ntmps25
      go_wp2
      go_loopw [7, 8, 9, 17] (fun _ _ _ i w' => i = J 0 ∧ w' = w) (fun _ _ _ i _ => 0)
      case atStart => exact ⟨rfl, rfl⟩
      case round =>
        obtain ⟨rfl, rfl⟩ := hrel
        go_wp2
        go_ret
        exact ⟨rfl, Below.refl _ _⟩
    have Hl : Hid (x.length = y.length) := hl
    have HC1 : Hid _ := hc1
    have HC2 : Hid _ := hc2
    clear hl hc1 hc2
    go_enter Tryz.func25, Tryz.ntmps25
    go_wp2
    go_loopw [7, 8, 9, 17] (fun _ _ _ i w' => ∃ k : Nat, k ≤ x.length ∧ i = J k ∧ Below w.heap.size w w') (fun _ _ _ i _ => x.length - (intOf i).toNat)
    case atStart => exact ⟨0, Nat.zero_le _, rfl, Below.refl _ _⟩
    case round =>
      obtain ⟨k, hk, rfl, hB⟩ := hrel
      have HB : Hid (Below w.heap.size w wr) := hB
      by_cases hlt : k < x.length
      · have hlt1 : (k : Int) < x.length := by omega
        have hlt2 : (k : Int) < y.length := by have := Hl.out; omega
        obtain ⟨g0, g1, g2, g3⟩ := (HC1.out k hlt).keep hB hb1
        obtain ⟨f0, f1, f2, f3⟩ := (HC2.out k (by have := Hl.out; omega)).keep hB hb2
        have e1 := (M1.out.2 k hlt).keep hB
        have e2 := (M2.out.2 k (by have := Hl.out; omega)).keep hB
        have s1 : b1 < wr.heap.size := Nat.lt_of_lt_of_le hb1 hB.size
        have s2 : b2 < wr.heap.size := Nat.lt_of_lt_of_le hb2 hB.size
        obtain ⟨p, hp⟩ : ∃ p, p = qth x k := ⟨_, rfl⟩
        obtain ⟨q, hq⟩ : ∃ q, q = qth y k := ⟨_, rfl⟩
        obtain ⟨T, hT⟩ : ∃ T, T = toth t k := ⟨_, rfl⟩
        rw [← hp] at g0 g1 g2 g3 e1
        rw [← hq] at f0 f1 f2 f3 e2
        rw [← hT] at e1 e2
        clear hp hq hT hB
        rw [e1.done] at g0
        rw [e2.done] at f0
        rw [e1.f] at g2
        rw [e2.f] at f2
        obtain ⟨d1, a1, n1', c1', f1', b1', m1', r1'⟩ := p
        obtain ⟨d2, a2, n2', c2', f2', b2', m2', r2'⟩ := q
        have E1 : Hid (Mean wr c1 _ T) := e1
        have E2 : Hid (Mean wr c2 _ T) := e2
        clear e1 e2
        dsimp only at g0 g1 g2 g3 f0 f1 f2 f3
        obtain ⟨dn, dat, tf, tch⟩ := T
        dsimp only at g0 g1 g2 g3 f0 f1 f2 f3
        go_wp2_with fail
        refine (sameTold_eq dn _ _ dat tf _ _ tch _ ?_ ?_ ?_ ?_).mono ?_
        · exact Sl.keep E1.out.dat (bel_alloc (bel_alloc (Below.refl _ _) _) _)
        · exact Sl.keep E2.out.dat (bel_alloc (bel_alloc (Below.refl _ _) _) _)
        · exact Ts.keep E1.out.tch (bel_alloc (bel_alloc (Below.refl _ _) _) _)
        · exact Ts.keep E2.out.tch (bel_alloc (bel_alloc (Below.refl _ _) _) _)
        rintro e w1 ⟨rfl, b1⟩
        have B1 : Hid (Below w.heap.size w w1) := bel_trans (bel_alloc (bel_alloc HB.out _) _) b1
        clear b1 g0 g1 g2 g3 f0 f1 f2 f3
        go_wp2
        exact ⟨⟨k + 1, by omega, by go_num, B1.out⟩, by simp [intOf]; omega⟩
      · go_wp2
        go_ret
        exact ⟨rfl, HB.out⟩
end Go.Proofs.YthlhocneggcekaaGreat
