/-
  Laid together: Code1, Code2, Coded, HNext.
-/
import Derived.Test.YthlhocneggcekaaGreatB1
import Derived.Test.YthlhocneggcekaaGreatB2
import Derived.Test.YthlhocneggcekaaGreatB3
import Derived.Test.YthlhocneggcekaaGreatB4
import Derived.Test.YthlhocneggcekaaGreatB5
import Derived.Test.YthlhocneggcekaaGreatB6
import Derived.Test.YthlhocneggcekaaGreatB7
import Derived.Test.YthlhocneggcekaaGreatB9
import Derived.Test.YthlhocneggcekaaGreatB10
import Derived.Test.YthlhocneggcekaaGreatB11
import Derived.Test.YthlhocneggcekaaGreatB13
import Derived.Test.YthlhocneggcekaaGreatB14
import Derived.Test.YthlhocneggcekaaGreatB15
import Derived.Test.YthlhocneggcekaaGreatB16
import Derived.Test.YthlhocneggcekaaGreatB18
import Derived.Test.YthlhocneggcekaaGreatB19
import Derived.Test.YthlhocneggcekaaGreatB20
import Derived.Test.YthlhocneggcekaaGreatB21
import Derived.Test.YthlhocneggcekaaGreatB22
import Derived.Test.YthlhocneggcekaaGreatB23
import Derived.Test.YthlhocneggcekaaGreatB24
import Derived.Test.YthlhocneggcekaaGreatB25
import Derived.Test.YthlhocneggcekaaGreatB26
import Derived.Test.YthlhocneggcekaaGreatRows
import Derived.WalkKit
import Derived.WalkSpells
import Derived.WalkLawsBesides
import Derived.Below
import Derived.WalkSmall
import Derived.Deep.QuietTactic
import Derived.BigQuiet
import Derived.Deep.Draws
import Derived.Maps.OwnOps
import Derived.Maps.OwnSet
import Derived.Deep.AppendLies
import Derived.Deep.RegionWith
import Derived.Deep.RegionHeld3
import Derived.LoopN
import Derived.Deep.CutRange
import Derived.Deep.RegionHeld
import Derived.Deep.DrawnRows
import Derived.Laws.CopyOwn
namespace Go.Proofs.YthlhocneggcekaaGreat
open Go.RowKit
theorem isReg_any (z : Int) (w : World) : Calls Tryz.prog 166 #[J z] w fun e w' => e = .returned (.bool (betweenB 0 7 z)) ∧ w' = w := by
  by_cases h1 : 0 ≤ z
  · by_cases h2 : z < 8
    · rw [between_yes ⟨h1, by omega⟩]
      go_enter Tryz.func166, Tryz.ntmps166
      go_wp2
      go_ret
      exact ⟨rfl, rfl⟩
    · rw [between_no fun h => h2 (by omega)]
      go_enter Tryz.func166, Tryz.ntmps166
      go_wp2
      go_ret
      exact ⟨rfl, rfl⟩
  · rw [between_no fun h => h1 h.1]
    go_enter Tryz.func166, Tryz.ntmps166
    go_wp2
    go_ret
    exact ⟨rfl, rfl⟩
theorem isImm_any (z : Int) (w : World) : Calls Tryz.prog 167 #[J z] w fun e w' => e = .returned (.bool (betweenB 0 63 z)) ∧ w' = w := by
  by_cases h1 : 0 ≤ z
  · by_cases h2 : z ≤ 63
    · rw [between_yes ⟨h1, by omega⟩]
      go_enter Tryz.func167, Tryz.ntmps167
      go_wp2
      go_ret
      exact ⟨rfl, rfl⟩
    · rw [between_no fun h => h2 (by omega)]
      go_enter Tryz.func167, Tryz.ntmps167
      go_wp2
      go_ret
      exact ⟨rfl, rfl⟩
  · rw [between_no fun h => h1 h.1]
    go_enter Tryz.func167, Tryz.ntmps167
    go_wp2
    go_ret
    exact ⟨rfl, rfl⟩
theorem fit0 (a b i : Int) : fitI 0 a b i = (decide (a = 0) && decide (b = 0) && decide (i = 0)) := rfl
theorem fit1 {k : Int} (h : k = 1 ∨ k = 3 ∨ k = 7 ∨ k = 8) (a b i : Int) : fitI k a b i = decide (b = 0) := by
  rcases h with rfl | rfl | rfl | rfl <;> simp [fitI, useA, useB, useI]
theorem fit2 (a b i : Int) : fitI 2 a b i = decide (i = 0) := by simp [fitI, useA, useB, useI]
theorem fit4 {k : Int} (h : k = 4 ∨ k = 5 ∨ k = 6) (a b i : Int) : fitI k a b i = true := by
  rcases h with rfl | rfl | rfl <;> simp [fitI, useA, useB, useI]
set_option maxHeartbeats 1000000 in
theorem isIns_any (k a b i : Int) (w : World) (hk : 0 ≤ k ∧ k ≤ 8) :
    Calls Tryz.prog 168 #[.agg #[J k, J a, J b, J i]] w fun e w' => e = .returned (.bool (fitI k a b i)) ∧ ∃ o, w' = w.alloc o := by
  have parts : k = 0 ∨ k = 2 ∨ (k = 4 ∨ k = 5 ∨ k = 6) ∨ (k = 1 ∨ k = 3 ∨ k = 7 ∨ k = 8) := by omega
  clear hk
  rcases parts with rfl | rfl | h | h
  · rw [fit0]
    by_cases ha : a = 0
    · subst ha
      by_cases hb : b = 0
      · subst hb
        by_cases hi : i = 0
        · subst hi
          go_enter Tryz.func168, Tryz.ntmps168
          go_wp2
          go_ret
          exact ⟨rfl, _, rfl⟩
        · have ni : (i == 0) = false := by simpa using hi
          have di : Hid (decide (i = 0) = false) := decide_eq_false hi
          clear hi
          go_enter Tryz.func168, Tryz.ntmps168
          go_wp2
          go_ret
          exact ⟨ret_bool (by rw [di.out]; rfl), _, rfl⟩
      · have nb : (b == 0) = false := by simpa using hb
        have db : Hid (decide (b = 0) = false) := decide_eq_false hb
        clear hb
        go_enter Tryz.func168, Tryz.ntmps168
        go_wp2
        go_ret
        exact ⟨ret_bool (by rw [db.out]; rfl), _, rfl⟩
    · have na : (a == 0) = false := by simpa using ha
      have da : Hid (decide (a = 0) = false) := decide_eq_false ha
      clear ha
      go_enter Tryz.func168, Tryz.ntmps168
      go_wp2
      go_ret
      exact ⟨ret_bool (by rw [da.out]; rfl), _, rfl⟩
  · rw [fit2]
    by_cases hi : i = 0
    · subst hi
      go_enter Tryz.func168, Tryz.ntmps168
      go_wp2
      go_ret
      exact ⟨rfl, _, rfl⟩
    · have ni : (i == 0) = false := by simpa using hi
      have di : Hid (decide (i = 0) = false) := decide_eq_false hi
      clear hi
      go_enter Tryz.func168, Tryz.ntmps168
      go_wp2
      go_ret
      exact ⟨ret_bool (by rw [di.out]), _, rfl⟩
  · rw [fit4 h]
    rcases h with rfl | rfl | rfl
    all_goals
      go_enter Tryz.func168, Tryz.ntmps168
      go_wp2
      go_ret
      exact ⟨rfl, _, rfl⟩
  · rw [fit1 h]
    by_cases hb : b = 0
    · subst hb
      rcases h with rfl | rfl | rfl | rfl
      all_goals
        go_enter Tryz.func168, Tryz.ntmps168
        go_wp2
        go_ret
        exact ⟨rfl, _, rfl⟩
    · have nb : (b == 0) = false := by simpa using hb
      have db : Hid (decide (b = 0) = false) := decide_eq_false hb
      clear hb
      rcases h with rfl | rfl | rfl | rfl
      all_goals
        go_enter Tryz.func168, Tryz.ntmps168
        go_wp2
        go_ret
        exact ⟨ret_bool (by rw [db.out]), _, rfl⟩
theorem iE_out {k a b i : Int} (h : ¬ ((0 ≤ k ∧ k ≤ 8) ∧ (0 ≤ a ∧ a ≤ 7) ∧ (0 ≤ b ∧ b ≤ 7) ∧ (0 ≤ i ∧ i ≤ 63))) : iE k a b i = 2 := by
  unfold iE
  rw [if_neg]
  simp only [rngI, Bool.and_eq_true, decide_eq_true_eq]
  exact fun x => h ⟨x.1.1.1, x.1.1.2, x.1.2, x.2⟩
theorem iE_in {k a b i : Int} (hk : 0 ≤ k ∧ k ≤ 8) (ha : 0 ≤ a ∧ a ≤ 7) (hb : 0 ≤ b ∧ b ≤ 7) (hi : 0 ≤ i ∧ i ≤ 63) : iE k a b i = if fitI k a b i = true then 0 else 3 := by
  unfold iE
  rw [if_pos]
  simp only [rngI, Bool.and_eq_true, decide_eq_true_eq]
  exact ⟨⟨⟨hk, ha⟩, hb⟩, hi⟩
theorem iW_bad {k a b i e : Int} (h : iE k a b i = e) (hn : ¬ e = 0) : iW k a b i = 0 := if_neg (fun x => hn (h.symm.trans x))
set_option maxHeartbeats 1000000 in
theorem cPut_any (k a b i : Int) (w : World) :
    Calls Tryz.prog 153 #[.agg #[J k, J a, J b, J i]] w fun e w' => e = .returned (.tuple #[J (iW k a b i), J (iE k a b i)]) ∧ Below w.heap.size w w' := by
  by_cases k0 : k < 0
  · have he : iE k a b i = 2 := iE_out (by omega)
    rw [iW_bad he (by decide), he]
    clear he
    go_enter Tryz.func153, Tryz.ntmps153
    go_wp2
    go_ret2
    exact ⟨rfl, bel_alloc (Below.refl _ _) _⟩
  by_cases k1 : 8 < k
  · have he : iE k a b i = 2 := iE_out (by omega)
    rw [iW_bad he (by decide), he]
    clear he
    go_enter Tryz.func153, Tryz.ntmps153
    go_wp2
    go_ret2
    exact ⟨rfl, bel_alloc (Below.refl _ _) _⟩
  cases ha : betweenB 0 7 a
  · have ha' : ¬ (0 ≤ a ∧ a ≤ 7) := of_decide_eq_false ha
    have he : iE k a b i = 2 := iE_out (by omega)
    rw [iW_bad he (by decide), he]
    clear he ha'
    go_enter Tryz.func153, Tryz.ntmps153
    go_wp2_with (first | (go_at_call 166; refine (isReg_any _ _).mono ?_; rintro e w1 ⟨rfl, rfl⟩; rw [ha]))
    go_ret2
    exact ⟨rfl, bel_alloc (Below.refl _ _) _⟩
  have ha' := of_between ha
  cases hb : betweenB 0 7 b
  · have hb' : ¬ (0 ≤ b ∧ b ≤ 7) := of_decide_eq_false hb
    have he : iE k a b i = 2 := iE_out (by omega)
    rw [iW_bad he (by decide), he]
    clear he ha' hb'
    go_enter Tryz.func153, Tryz.ntmps153
    go_wp2_with (first | (go_at_call 166; refine (isReg_any _ _).mono ?_; rintro e w1 ⟨rfl, rfl⟩; first | rw [ha] | rw [hb]))
    go_ret2
    exact ⟨rfl, bel_alloc (Below.refl _ _) _⟩
  have hb' := of_between hb
  cases hi : betweenB 0 63 i
  · have hi' : ¬ (0 ≤ i ∧ i ≤ 63) := of_decide_eq_false hi
    have he : iE k a b i = 2 := iE_out (by omega)
    rw [iW_bad he (by decide), he]
    clear he ha' hb' hi'
    go_enter Tryz.func153, Tryz.ntmps153
    go_wp2_with (first | (go_at_call 166; refine (isReg_any _ _).mono ?_; rintro e w1 ⟨rfl, rfl⟩; first | rw [ha] | rw [hb]) | (go_at_call 167; refine (isImm_any _ _).mono ?_; rintro e w1 ⟨rfl, rfl⟩; rw [hi]))
    go_ret2
    exact ⟨rfl, bel_alloc (Below.refl _ _) _⟩
  have hi' := of_between hi
  have he := iE_in (k := k) (by omega) ha' hb' hi'
  have k0 : 0 ≤ k := by omega
  have k1 : k ≤ 8 := by omega
  cases hf : fitI k a b i
  · rw [hf] at he
    rw [iW_bad he (by decide), he]
    clear he ha' hb' hi'
    go_enter Tryz.func153, Tryz.ntmps153
    go_wp2_with (first | (go_at_call 166; refine (isReg_any _ _).mono ?_; rintro e w1 ⟨rfl, rfl⟩; first | rw [ha] | rw [hb]) | (go_at_call 167; refine (isImm_any _ _).mono ?_; rintro e w1 ⟨rfl, rfl⟩; rw [hi]) | (go_at_call 168; refine (isIns_any _ _ _ _ _ ⟨k0, k1⟩).mono ?_; rintro e w1 ⟨rfl, o1, rfl⟩; rw [hf]))
    go_ret2
    exact ⟨rfl, bel_alloc (bel_alloc (Below.refl _ _) _) _⟩
  · rw [hf] at he
    have he : iE k a b i = 0 := he
    rw [iW_ok he, he]
    clear he
    obtain ⟨a0, a1⟩ := ha'
    obtain ⟨b0, b1⟩ := hb'
    obtain ⟨i0, i1⟩ := hi'
    go_enter Tryz.func153, Tryz.ntmps153
    go_wp2_with (first | (go_at_call 166; refine (isReg_any _ _).mono ?_; rintro e w1 ⟨rfl, rfl⟩; first | rw [ha] | rw [hb]) | (go_at_call 167; refine (isImm_any _ _).mono ?_; rintro e w1 ⟨rfl, rfl⟩; rw [hi]) | (go_at_call 168; refine (isIns_any _ _ _ _ _ ⟨k0, k1⟩).mono ?_; rintro e w1 ⟨rfl, o1, rfl⟩; rw [hf]))
    go_ret2
    exact ⟨rfl, bel_alloc (bel_alloc (Below.refl _ _) _) _⟩
theorem riE_out {z : Int} (h : ¬ (0 ≤ z ∧ z ≤ 65535)) : riE z = 2 := if_neg h
theorem riE_bad {z : Int} (h : 0 ≤ z ∧ z ≤ 65535) (k : ¬ iE (z / 4096) (z / 512 % 8) (z / 64 % 8) (z % 64) = 0) : riE z = 3 := by rw [riE, if_pos h, if_neg k]
theorem riX_bad {z e : Int} (h : riE z = e) (hn : ¬ e = 0) : riX z = (0, 0, 0, 0) := if_neg (fun x => hn (h.symm.trans x))
theorem riX_ok {z : Int} (h : riE z = 0) : riX z = (z / 4096, z / 512 % 8, z / 64 % 8, z % 64) := if_pos h
theorem ri_way {z : Int} (h : 0 ≤ z ∧ z ≤ 65535) :
    (riE z = 3 ∧ riX z = (0, 0, 0, 0) ∧ ¬ iE (z / 4096) (z / 512 % 8) (z / 64 % 8) (z % 64) = 0) ∨
    (riE z = 0 ∧ riX z = (z / 4096, z / 512 % 8, z / 64 % 8, z % 64) ∧ iE (z / 4096) (z / 512 % 8) (z / 64 % 8) (z % 64) = 0) := by
  by_cases hk : iE (z / 4096) (z / 512 % 8) (z / 64 % 8) (z % 64) = 0
  · have hr := riE_mk h hk
    exact .inr ⟨hr, riX_ok hr, hk⟩
  · have hr := riE_bad h hk
    exact .inl ⟨hr, riX_bad hr (by decide), hk⟩
set_option maxHeartbeats 2000000 in
theorem cRead_any (z : Int) (w : World) :
    Calls Tryz.prog 131 #[J z] w fun e w' => (∃ k a b i, e = .returned (.tuple #[.agg #[J k, J a, J b, J i], J (riE z)]) ∧ riX z = (k, a, b, i)) ∧ Below w.heap.size w w' := by
  by_cases z0 : z < 0
  · have hr : riE z = 2 := riE_out (by omega)
    have HO : Hid (riX z = (0, 0, 0, 0)) := riX_bad hr (by decide)
    rw [hr]
    clear hr
    go_enter Tryz.func131, Tryz.ntmps131
    go_wp2
    refine bodyPost_ret (v := .tuple #[.agg #[J 0, J 0, J 0, J 0], J 2]) (by simp [results, Tryz.results131, go_sem]) rfl ⟨⟨_, _, _, _, rfl, HO.out⟩, ?_⟩
    exact bel_alloc (Below.refl _ _) _
  by_cases z1 : 65535 < z
  · have hr : riE z = 2 := riE_out (by omega)
    have HO : Hid (riX z = (0, 0, 0, 0)) := riX_bad hr (by decide)
    rw [hr]
    clear hr
    go_enter Tryz.func131, Tryz.ntmps131
    go_wp2
    refine bodyPost_ret (v := .tuple #[.agg #[J 0, J 0, J 0, J 0], J 2]) (by simp [results, Tryz.results131, go_sem]) rfl ⟨⟨_, _, _, _, rfl, HO.out⟩, ?_⟩
    exact bel_alloc (Below.refl _ _) _
  have hz : 0 ≤ z ∧ z ≤ 65535 := by omega
  have hway := ri_way hz
  obtain ⟨h0, h1⟩ := hz
  obtain ⟨eo, heo⟩ : ∃ eo, iE (z / 4096) (z / 512 % 8) (z / 64 % 8) (z % 64) = eo := ⟨_, rfl⟩
  rw [heo] at hway
  have HW : Hid _ := hway
  have HE : Hid _ := heo
  clear hway heo
  go_enter Tryz.func131, Tryz.ntmps131
  go_wp2_with fail
  refine (cPut_any _ _ _ _ _).mono ?_
  rintro e w1 ⟨rfl, b1⟩
  rw [HE.out]
  have X0 := (Box.newAt (n := w.heap.size) (by simp) 130 #[J 0, J 0, J 0, J 0]).past (.cells #[J (z / 4096), J (z / 512 % 8), J (z / 64 % 8), J (z % 64)] 130) |>.keep b1
  have X1 := (Box.newAt (w := w.alloc (.cells #[J 0, J 0, J 0, J 0] 130)) (n := w.heap.size + 1) (by simp) 130 #[J (z / 4096), J (z / 512 % 8), J (z / 64 % 8), J (z % 64)]).keep b1
  have B1 : Hid (Below w.heap.size w w1) := bel_trans (bel_alloc (bel_alloc (Below.refl _ _) _) _) b1
  clear b1
  obtain ⟨u0, u1, u2, u3, g0, g1, g2, g3, s0⟩ := X0.four
  obtain ⟨q0, q1, q2, q3, -, -, -, -, s1⟩ := X1.four
  clear X0 X1
  rcases HW.out with ⟨hr, ho, hk⟩ | ⟨hr, ho, hk⟩
  · have HR : Hid _ := hr
    have HO : Hid _ := ho
    have hq : (eo != 0) = true := by simpa using hk
    clear hr ho HW HE hk
    go_wp2
    refine bodyPost_ret (v := .tuple #[.agg #[J 0, J 0, J 0, J 0], J 3]) (by simp [results, Tryz.results131, go_sem, *]) rfl ⟨⟨_, _, _, _, by rw [HR.out], HO.out⟩, ?_⟩
    exact bel_set4 (by omega) B1.out _ _ _ _
  · have HR : Hid _ := hr
    have HO : Hid _ := ho
    clear hr ho HW HE
    subst hk
    go_wp2
    refine bodyPost_ret (v := .tuple #[.agg #[J (z / 4096), J (z / 512 % 8), J (z / 64 % 8), J (z % 64)], J 0]) (by simp [results, Tryz.results131, go_sem, *]) rfl ⟨⟨_, _, _, _, by rw [HR.out], HO.out⟩, ?_⟩
    exact bel_set4 (by omega) B1.out _ _ _ _
theorem cRead_at {z k a b i e1 : Int} {w : World} (hE : riE z = e1) (hO : riX z = (k, a, b, i)) :
    Calls Tryz.prog 131 #[J z] w fun e w' => e = .returned (.tuple #[.agg #[J k, J a, J b, J i], J e1]) ∧ Below w.heap.size w w' := by
  refine (cRead_any z w).mono ?_
  rintro e w' ⟨⟨k', a', b', i', rfl, h⟩, hb⟩
  rw [hO] at h
  simp only [Prod.mk.injEq] at h
  obtain ⟨rfl, rfl, rfl, rfl⟩ := h
  rw [hE]
  exact ⟨rfl, hb⟩
theorem nextP_wrap {p : Int} (h0 : 0 ≤ p) (h1 : p < 512) : (IntKind.i64.wrap (p + 1)).tmod 512 = nextP p := by
  rw [wraps_i64 _ (by omega) (by omega), Int.tmod_eq_emod_of_nonneg (by omega)]; rfl
theorem hDo_any (am : Option Addr) (nm cm : Nat) (zs : List Int) (p : Int) (rs : List Int) (mo ba op oh ot fe fp fh ft : Int) (st lo : Bool) (ca : Option Addr) (ck cc : Nat) (l : List Ln) (k x y i : Int) (w : World) (hs : Sl w (.slice am nm cm) zs) (hL : Ls w (.slice ca ck cc) l) (hb : chkB ⟨mo, ba, l, op, oh, ot, st, fe, fp, fh, ft, lo⟩ = 0) (hz : chk zs = 0) (h8 : rs.length = 8) (hw : ∀ j, j < 8 → 0 ≤ nth rs j ∧ nth rs j ≤ 65535) (hi : iE k x y i = 0) :
    Calls Tryz.prog 132 #[.agg #[.slice am nm cm, J (nextP p), J (nth rs 0), J (nth rs 1), J (nth rs 2), J (nth rs 3), J (nth rs 4), J (nth rs 5), J (nth rs 6), J (nth rs 7), J mo, J ba, .slice ca ck cc, J op, J oh, J ot, .bool st, J fe, J fp, J fh, J ft, .bool lo], .agg #[J k, J x, J y, J i]] w fun e w' => DoH am nm cm zs p rs mo ba op oh ot fe fp fh ft st lo ca ck cc l k x y i w e w' := by
  obtain ⟨hk, hx, hy, hii, -⟩ := iE_ok hi
  have parts : k = 0 ∨ k = 1 ∨ k = 2 ∨ k = 3 ∨ k = 4 ∨ k = 5 ∨ k = 6 ∨ k = 7 ∨ k = 8 := by omega
  rcases parts with rfl | rfl | rfl | rfl | rfl | rfl | rfl | rfl | rfl
  · exact do_0 am nm cm zs p rs mo ba op oh ot fe fp fh ft st lo ca ck cc l x y i w hs hL hb hz h8 hw hx hy hii
  · exact do_1 am nm cm zs p rs mo ba op oh ot fe fp fh ft st lo ca ck cc l x y i w hs hL hb hz h8 hw hx hy hii
  · exact do_2 am nm cm zs p rs mo ba op oh ot fe fp fh ft st lo ca ck cc l x y i w hs hL hb hz h8 hw hx hy hii
  · exact do_3 am nm cm zs p rs mo ba op oh ot fe fp fh ft st lo ca ck cc l x y i w hs hL hb hz h8 hw hx hy hii
  · exact do_4 am nm cm zs p rs mo ba op oh ot fe fp fh ft st lo ca ck cc l x y i w hs hL hb hz h8 hw hx hy hii
  · exact do_5 am nm cm zs p rs mo ba op oh ot fe fp fh ft st lo ca ck cc l x y i w hs hL hb hz h8 hw hx hy hii
  · exact do_6 am nm cm zs p rs mo ba op oh ot fe fp fh ft st lo ca ck cc l x y i w hs hL hb hz h8 hw hx hy hii
  · exact do_7 am nm cm zs p rs mo ba op oh ot fe fp fh ft st lo ca ck cc l x y i w hs hL hb hz h8 hw hx hy hii
  · exact do_8 am nm cm zs p rs mo ba op oh ot fe fp fh ft st lo ca ck cc l x y i w hs hL hb hz h8 hw hx hy hii
abbrev NextH (am : Option Addr) (nm cm : Nat) (zs : List Int) (p : Int) (rs : List Int) (mo ba op oh ot fe fp fh ft : Int) (st lo : Bool) (ca : Option Addr) (ck cc : Nat) (l : List Ln) (w : World) (e : Ending) (w' : World) : Prop :=
  ∃ ok a1 n1 c1 pc1 rs1 mo1 ba1 op1 oh1 ot1 fe1 fp1 fh1 ft1 st1 lo1 ca1 ck1 cc1, e = .returned (.tuple #[.agg #[.slice a1 n1 c1, J pc1, J (nth rs1 0), J (nth rs1 1), J (nth rs1 2), J (nth rs1 3), J (nth rs1 4), J (nth rs1 5), J (nth rs1 6), J (nth rs1 7), J mo1, J ba1, .slice ca1 ck1 cc1, J op1, J oh1, J ot1, .bool st1, J fe1, J fp1, J fh1, J ft1, .bool lo1], .bool ok]) ∧
    (ok = false → goS zs ⟨p, rs, false⟩ ⟨mo, ba, l, op, oh, ot, st, fe, fp, fh, ft, lo⟩ = stand zs ⟨p, rs, false⟩ ⟨mo, ba, l, op, oh, ot, st, fe, fp, fh, ft, lo⟩) ∧
    (ok = true → ∃ zs1, goS zs ⟨p, rs, false⟩ ⟨mo, ba, l, op, oh, ot, st, fe, fp, fh, ft, lo⟩ = (zs1, ⟨pc1, rs1, false⟩, ⟨mo1, ba1, l, op1, oh1, ot1, st1, fe1, fp1, fh1, ft1, lo1⟩) ∧ rs1.length = 8 ∧ Value.slice ca ck cc = .slice ca1 ck1 cc1 ∧
      ((Value.slice am nm cm = .slice a1 n1 c1 ∧ zs1 = zs) ∨ (Sl w' (.slice a1 n1 c1) zs1 ∧ Fresh w.heap.size (.slice a1 n1 c1)))) ∧ Below w.heap.size w w'
set_option maxRecDepth 10000 in
set_option maxHeartbeats 4000000 in
theorem hNext_any (am : Option Addr) (nm cm : Nat) (zs : List Int) (p : Int) (rs : List Int) (mo ba op oh ot fe fp fh ft : Int) (st lo : Bool) (ca : Option Addr) (ck cc : Nat) (l : List Ln) (w : World) (hs : Sl w (.slice am nm cm) zs) (hL : Ls w (.slice ca ck cc) l) (hb : chkB ⟨mo, ba, l, op, oh, ot, st, fe, fp, fh, ft, lo⟩ = 0) (hz : chk zs = 0) (h8 : rs.length = 8) (hw : ∀ j, j < 8 → 0 ≤ nth rs j ∧ nth rs j ≤ 65535) (hp : 0 ≤ p ∧ p < 512) :
    Calls Tryz.prog 102 #[.agg #[.slice am nm cm, J p, J (nth rs 0), J (nth rs 1), J (nth rs 2), J (nth rs 3), J (nth rs 4), J (nth rs 5), J (nth rs 6), J (nth rs 7), J mo, J ba, .slice ca ck cc, J op, J oh, J ot, .bool st, J fe, J fp, J fh, J ft, .bool lo]] w fun e w' => NextH am nm cm zs p rs mo ba op oh ot fe fp fh ft st lo ca ck cc l w e w' := by
  have HL : Hid (Ls w (.slice ca ck cc) l) := hL
  have HB : Hid (chkB ⟨mo, ba, l, op, oh, ot, st, fe, fp, fh, ft, lo⟩ = 0) := hb
  have HZ : Hid (chk zs = 0) := hz
  have H8 : Hid (rs.length = 8) := h8
  have HW : Hid (∀ j, j < 8 → 0 ≤ nth rs j ∧ nth rs j ≤ 65535) := hw
  have HM : Hid (Sl w (.slice am nm cm) zs) := hs
  obtain ⟨b, o, cap, hv, hbb, hcs⟩ := hs.open512 (chk_ok hz).1
  simp only [Value.slice.injEq] at hv
  obtain ⟨rfl, rfl, rfl⟩ := hv
  obtain ⟨hp0, hp1⟩ := hp
  have gz := hcs p.toNat (by omega)
  obtain ⟨z, hzz⟩ : ∃ z, nth zs p.toNat = z := ⟨_, rfl⟩
  rw [hzz] at gz
  have HI : Hid (insW zs ⟨p, rs, false⟩ = z) := hzz
  obtain ⟨e2, hE2⟩ : ∃ e2, riE z = e2 := ⟨_, rfl⟩
  obtain ⟨k, x, y, i, hX2⟩ : ∃ k x y i, riX z = (k, x, y, i) := ⟨_, _, _, _, rfl⟩
  have HE2 : Hid _ := hE2
  have HX2 : Hid _ := hX2
  have HPN : Hid ((IntKind.i64.wrap (p + 1)).tmod 512 = nextP p) := nextP_wrap hp0 hp1
  clear hE2 hX2 hcs hzz hs hL hb hz h8 hw
  have X0 := (Box.newAt (w := w) (n := w.heap.size) rfl 154 #[.slice (some ⟨b, o, none⟩) 512 cm, J p, J (nth rs 0), J (nth rs 1), J (nth rs 2), J (nth rs 3), J (nth rs 4), J (nth rs 5), J (nth rs 6), J (nth rs 7), J mo, J ba, .slice ca ck cc, J op, J oh, J ot, .bool st, J fe, J fp, J fh, J ft, .bool lo]).past (.cells #[.slice none 0 0, J 0, J 0, J 0, J 0, J 0, J 0, J 0, J 0, J 0, J 0, J 0, .slice none 0 0, J 0, J 0, J 0, .bool false, J 0, J 0, J 0, J 0, .bool false] 154)
  have X1 := Box.newAt (w := w.alloc (.cells #[.slice (some ⟨b, o, none⟩) 512 cm, J p, J (nth rs 0), J (nth rs 1), J (nth rs 2), J (nth rs 3), J (nth rs 4), J (nth rs 5), J (nth rs 6), J (nth rs 7), J mo, J ba, .slice ca ck cc, J op, J oh, J ot, .bool st, J fe, J fp, J fh, J ft, .bool lo] 154)) (n := w.heap.size + 1) (by simp) 154 #[.slice none 0 0, J 0, J 0, J 0, J 0, J 0, J 0, J 0, J 0, J 0, J 0, J 0, .slice none 0 0, J 0, J 0, J 0, .bool false, J 0, J 0, J 0, J 0, .bool false]
  have B0 : Hid (Below w.heap.size w _) := bel_alloc (bel_alloc (Below.refl w.heap.size w) (.cells #[.slice (some ⟨b, o, none⟩) 512 cm, J p, J (nth rs 0), J (nth rs 1), J (nth rs 2), J (nth rs 3), J (nth rs 4), J (nth rs 5), J (nth rs 6), J (nth rs 7), J mo, J ba, .slice ca ck cc, J op, J oh, J ot, .bool st, J fe, J fp, J fh, J ft, .bool lo] 154)) (.cells #[.slice none 0 0, J 0, J 0, J 0, J 0, J 0, J 0, J 0, J 0, J 0, J 0, J 0, .slice none 0 0, J 0, J 0, J 0, .bool false, J 0, J 0, J 0, J 0, .bool false] 154)
  have W2 : Hid (((w.alloc (.cells #[.slice (some ⟨b, o, none⟩) 512 cm, J p, J (nth rs 0), J (nth rs 1), J (nth rs 2), J (nth rs 3), J (nth rs 4), J (nth rs 5), J (nth rs 6), J (nth rs 7), J mo, J ba, .slice ca ck cc, J op, J oh, J ot, .bool st, J fe, J fp, J fh, J ft, .bool lo] 154)).alloc (.cells #[.slice none 0 0, J 0, J 0, J 0, J 0, J 0, J 0, J 0, J 0, J 0, J 0, J 0, .slice none 0 0, J 0, J 0, J 0, .bool false, J 0, J 0, J 0, J 0, .bool false] 154)).heap.size = w.heap.size + 1 + 1) := by show _ = _; simp
  go_enter Tryz.func102, Tryz.ntmps102
  go_upto_region 1 with fail
  generalize ((w.alloc (.cells #[.slice (some ⟨b, o, none⟩) 512 cm, J p, J (nth rs 0), J (nth rs 1), J (nth rs 2), J (nth rs 3), J (nth rs 4), J (nth rs 5), J (nth rs 6), J (nth rs 7), J mo, J ba, .slice ca ck cc, J op, J oh, J ot, .bool st, J fe, J fp, J fh, J ft, .bool lo] 154)).alloc (.cells #[.slice none 0 0, J 0, J 0, J 0, J 0, J 0, J 0, J 0, J 0, J 0, J 0, J 0, .slice none 0 0, J 0, J 0, J 0, .bool false, J 0, J 0, J 0, J 0, .bool false] 154)) = W at *
  obtain ⟨⟨q0, q1, -⟩, -, s0⟩ := X0.state0
  rw [← B0.out.cell (p := ⟨b, o + p.toNat, none⟩) hbb] at gz
  have hbW : b < W.heap.size := Nat.lt_of_lt_of_le hbb B0.out.size
  go_wp2_with fail
  refine (cRead_at HE2.out HX2.out).mono ?_
  rintro e w1 ⟨rfl, b1⟩
  have X0 := (X0.keep b1).past (.cells #[J k, J x, J y, J i] 130)
  have X1 := (X1.keep b1).past (.cells #[J k, J x, J y, J i] 130)
  have XI := Box.newAt (w := w1) (n := w1.heap.size) rfl 130 #[J k, J x, J y, J i]
  have B1 : Hid (Below w.heap.size w (w1.alloc (.cells #[J k, J x, J y, J i] 130))) := bel_alloc (bel_trans B0.out b1) _
  have z1 : w.heap.size + 1 + 1 ≤ w1.heap.size := by have := b1.size; have := W2.out; omega
  clear gz q0 q1 s0 b1 B0 hbW
  by_cases h2 : e2 = 0
  rotate_left
  · have hq : (e2 != 0) = true := by simpa using h2
    have HT : Hid (goS zs ⟨p, rs, false⟩ ⟨mo, ba, l, op, oh, ot, st, fe, fp, fh, ft, lo⟩ = stand zs ⟨p, rs, false⟩ ⟨mo, ba, l, op, oh, ot, st, fe, fp, fh, ft, lo⟩) := by
      show _ = _
      rw [goS, HI.out, if_neg (by rw [HE2.out]; exact h2)]
    clear h2 HE2 HX2 X0 XI
    go_upto_region 3 with fail
    generalize (w1.alloc (.cells #[J k, J x, J y, J i] 130)) = W1 at *
    go_wp2_with (first
      | (refine wpList_store_row rfl 154 (.tmp 2) (.tmp 19) rfl (w.heap.size + 1) _ rfl rfl _ _ X1 infoState rfl (stateOne _ _ _ _ _ _ _ _ _ _ _ _ _ _ _ _ _ _ _ _ _ _ _ _ _ _) ?_))
    have hl := Box.loadState (X1.setRow #[.slice none 0 0, J 0, J 0, J 0, J 0, J 0, J 0, J 0, J 0, J 0, J 0, J 0, .slice none 0 0, J 0, J 0, J 0, .bool false, J 0, J 0, J 0, J 0, .bool false]) rfl
    refine bodyPost_ret (v := .tuple #[.agg #[.slice none 0 0, J 0, J 0, J 0, J 0, J 0, J 0, J 0, J 0, J 0, J 0, J 0, .slice none 0 0, J 0, J 0, J 0, .bool false, J 0, J 0, J 0, J 0, .bool false], .bool false]) (by simp [results, Tryz.results102, asAddr, hl]) rfl ⟨false, none, 0, 0, 0, List.replicate 8 0, _, _, _, _, _, _, _, _, _, _, _, none, 0, 0, rfl, fun _ => HT.out, fun h => (by cases h), bel_setRow (by omega) B1.out _⟩
  subst h2
  have HIE : Hid (iE k x y i = 0) := (i_read HE2.out HX2.out).1
  have HT : Hid (goS zs ⟨p, rs, false⟩ ⟨mo, ba, l, op, oh, ot, st, fe, fp, fh, ft, lo⟩ = exeI zs ⟨p, rs, false⟩ ⟨mo, ba, l, op, oh, ot, st, fe, fp, fh, ft, lo⟩ k x y i) := by
    show _ = _
    rw [goS, HI.out, if_pos HE2.out, HX2.out]
  obtain ⟨pc, hpc⟩ : ∃ pc, nextP p = pc := ⟨_, rfl⟩
  have HPC : Hid (nextP p = pc) := hpc
  have hPN : (IntKind.i64.wrap (p + 1)).tmod 512 = pc := by rw [HPN.out, hpc]
  have Y0 := Box.set X0 1 (J pc)
  have Y0 : Box ((w1.alloc (.cells #[J k, J x, J y, J i] 130)).setCell ⟨w.heap.size, 1, none⟩ (J pc)) w.heap.size 154 #[.slice (some ⟨b, o, none⟩) 512 cm, J pc, J (nth rs 0), J (nth rs 1), J (nth rs 2), J (nth rs 3), J (nth rs 4), J (nth rs 5), J (nth rs 6), J (nth rs 7), J mo, J ba, .slice ca ck cc, J op, J oh, J ot, .bool st, J fe, J fp, J fh, J ft, .bool lo] := Y0
  have Y1 := X1.other (p := ⟨w.heap.size, 1, none⟩) (by show w.heap.size + 1 ≠ w.heap.size; omega) (J pc)
  have YI := XI.other (p := ⟨w.heap.size, 1, none⟩) (by show w1.heap.size ≠ w.heap.size; omega) (J pc)
  have B2 : Hid (Below w.heap.size w ((w1.alloc (.cells #[J k, J x, J y, J i] 130)).setCell ⟨w.heap.size, 1, none⟩ (J pc))) := bel_set (by show w.heap.size ≤ w.heap.size; omega) B1.out _
  have Z2 : Hid (w.heap.size + 1 + 1 ≤ ((w1.alloc (.cells #[J k, J x, J y, J i] 130)).setCell ⟨w.heap.size, 1, none⟩ (J pc)).heap.size) := by show _ ≤ _; have := Y1.lt; omega
  have hwr : IntKind.i64.wrap (p + 1) = p + 1 := wraps_i64 _ (by omega) (by omega)
  have hpm : (p + 1) % 512 = pc := hpc
  obtain ⟨⟨q0, q1, -⟩, -, s0⟩ := X0.state0
  have fx := X0.marksAll
  clear HE2 HX2 hpc hPN
  go_upto_region 5 with fail
  clear q0 q1 s0 fx X0 X1 XI B1
  generalize w1.heap.size = N1 at *
  generalize ((w1.alloc (.cells #[J k, J x, J y, J i] 130)).setCell ⟨w.heap.size, 1, none⟩ (J pc)) = W2 at *
  obtain ⟨i0, i1, i2, i3, -, -, -, -, s1⟩ := YI.four
  have hDo := hDo_any (some ⟨b, o, none⟩) 512 cm zs p rs mo ba op oh ot fe fp fh ft st lo ca ck cc l k x y i W2 (HM.out.keep B2.out) (HL.out.keep B2.out) HB.out HZ.out H8.out HW.out HIE.out
  rw [HPC.out] at hDo
  go_wp2_with (first
    | (refine wpList_load_row rfl 154 (.tmp 1) rfl w.heap.size rfl _ _ _ _ Y0 Tryz.underlying154 rfl infoState ?_))
  refine hDo.mono ?_
  rintro e w5 ⟨ok, a1, n1, c1, pc1, rs1, mo1, ba1, op1, oh1, ot1, fe1, fp1, fh1, ft1, st1, lo1, ca1, ck1, cc1, rfl, hno, hyes, b5⟩
  have HNO : Hid _ := hno
  have HYES : Hid _ := hyes
  have Y1 := Y1.keep b5
  have B6 : Hid (Below w.heap.size w w5) := bel_trans B2.out b5
  clear hno hyes b5 Y0 YI i0 i1 i2 i3 s1 hDo hpm hwr
  go_wp2_with (first
    | (refine wpList_store_row rfl 154 (.tmp 2) (.tmp 28) rfl (w.heap.size + 1) _ rfl rfl _ _ Y1 infoState rfl (stateOne _ _ _ _ _ _ _ _ _ _ _ _ _ _ _ _ _ _ _ _ _ _ _ _ _ _) ?_))
  have hl := Box.loadState (Y1.setRow #[.slice a1 n1 c1, J pc1, J (nth rs1 0), J (nth rs1 1), J (nth rs1 2), J (nth rs1 3), J (nth rs1 4), J (nth rs1 5), J (nth rs1 6), J (nth rs1 7), J mo1, J ba1, .slice ca1 ck1 cc1, J op1, J oh1, J ot1, .bool st1, J fe1, J fp1, J fh1, J ft1, .bool lo1]) rfl
  refine bodyPost_ret (v := .tuple #[.agg #[.slice a1 n1 c1, J pc1, J (nth rs1 0), J (nth rs1 1), J (nth rs1 2), J (nth rs1 3), J (nth rs1 4), J (nth rs1 5), J (nth rs1 6), J (nth rs1 7), J mo1, J ba1, .slice ca1 ck1 cc1, J op1, J oh1, J ot1, .bool st1, J fe1, J fp1, J fh1, J ft1, .bool lo1], .bool ok]) (by simp [results, Tryz.results102, asAddr, hl]) rfl ⟨ok, a1, n1, c1, pc1, rs1, mo1, ba1, op1, oh1, ot1, fe1, fp1, fh1, ft1, st1, lo1, ca1, ck1, cc1, rfl, fun h => by rw [HT.out]; exact HNO.out h, fun h => ?_, bel_setRow (by omega) B6.out _⟩
  obtain ⟨zs1, g1, g2, g3, g4⟩ := HYES.out h
  refine ⟨zs1, by rw [HT.out]; exact g1, g2, g3, ?_⟩
  rcases g4 with g4 | ⟨g4, g5⟩
  · exact .inl g4
  · exact .inr ⟨g4.otherRow (g5.ne (by have := Z2.out; omega)) _, g5.mono (by have := Z2.out; omega)⟩
end Go.Proofs.YthlhocneggcekaaGreat
