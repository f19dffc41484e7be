/-
  Laid together: Audit1, HartR, CheckCR, Ring4, CheckBR, MachR, HCheck, MCheck.
-/
import Derived.Test.YthlhocneggcekaaS1
import Derived.Test.YthlhocneggcekaaS2
import Derived.Test.YthlhocneggcekaaS3
import Derived.Test.YthlhocneggcekaaS4
import Derived.Test.YthlhocneggcekaaS5
import Derived.Test.YthlhocneggcekaaS6
import Derived.Deep.RegionHeld3
import Derived.Deep.RegionWith
import Derived.LoopN
import Derived.Deep.CutRange
import Derived.Deep.AppendLies
import Derived.Deep.DrawnRows
import Derived.Deep.RegionHeld
import Derived.Laws.CopyOwn
import Derived.Maps.OwnOps
import Derived.Maps.OwnSet
import Derived.Test.YthlhocneggcekaaRows
import Derived.WalkKit
import Derived.WalkSpells
import Derived.WalkLawsBesides
import Derived.Below
import Derived.WalkSmall
import Derived.Deep.QuietTactic
import Derived.BigQuiet
import Derived.Deep.Draws
namespace Go.Proofs.Ythlhocneggcekaa
open Go.RowKit
theorem ckT_who {d s a v : Int} {f : Bool} (h : ¬ ((0 ≤ d ∧ d ≤ 7) ∧ (0 ≤ s ∧ s ≤ 511) ∧ (0 ≤ a ∧ a ≤ 511))) : ckT (d, s, a, f, v) = 4 := by unfold ckT; rw [if_neg h]
theorem ckT_rng {d s a v : Int} {f : Bool} (h : (0 ≤ d ∧ d ≤ 7) ∧ (0 ≤ s ∧ s ≤ 511) ∧ (0 ≤ a ∧ a ≤ 511)) (k : ¬ (0 ≤ v ∧ v ≤ 65535)) : ckT (d, s, a, f, v) = 2 := by unfold ckT; rw [if_pos h, if_neg k]
theorem ckT_frm {d s a v : Int} {f : Bool} (h : (0 ≤ d ∧ d ≤ 7) ∧ (0 ≤ s ∧ s ≤ 511) ∧ (0 ≤ a ∧ a ≤ 511)) (k : 0 ≤ v ∧ v ≤ 65535) (q : ¬ s % 8 = a % 8) : ckT (d, s, a, f, v) = 3 := by unfold ckT; rw [if_pos h, if_pos k, if_neg q]
set_option maxHeartbeats 2000000 in
theorem aCheck_any (d s a : Int) (f : Bool) (v : Int) (w : World) :
    Calls Try.prog 9 #[.agg #[.int .i64 d, .int .i64 s, .int .i64 a, .bool f, .int .i64 v]] w fun e w' => e = .returned (.int .i64 (ckT (d, s, a, f, v))) ∧ Below w.heap.size w w' := by
  have ways : (¬ 0 ≤ d) ∨ (0 ≤ d ∧ ¬ d < 8) ∨ (0 ≤ d ∧ d < 8 ∧ ¬ 0 ≤ s) ∨ (0 ≤ d ∧ d < 8 ∧ 0 ≤ s ∧ ¬ s < 512) ∨ (0 ≤ d ∧ d < 8 ∧ 0 ≤ s ∧ s < 512 ∧ ¬ 0 ≤ a) ∨ (0 ≤ d ∧ d < 8 ∧ 0 ≤ s ∧ s < 512 ∧ 0 ≤ a ∧ ¬ a < 512) ∨ (0 ≤ d ∧ d < 8 ∧ 0 ≤ s ∧ s < 512 ∧ 0 ≤ a ∧ a < 512) := by omega
  rcases ways with h1 | ⟨h1, h2⟩ | ⟨h1, h2, h3⟩ | ⟨h1, h2, h3, h4⟩ | ⟨h1, h2, h3, h4, h5⟩ | ⟨h1, h2, h3, h4, h5, h6⟩ | ⟨h1, h2, h3, h4, h5, h6⟩
  iterate 6
    focus
      rw [ckT_who (by omega)]
      go_enter Try.func9, Try.ntmps9
      go_wp2
      go_ret
      exact ⟨rfl, bel_alloc (Below.refl _ _) _⟩
  have ways : (¬ 0 ≤ v) ∨ (0 ≤ v ∧ ¬ v ≤ 65535) ∨ (0 ≤ v ∧ v ≤ 65535) := by omega
  rcases ways with k1 | ⟨k1, k2⟩ | ⟨k1, k2⟩
  iterate 2
    focus
      rw [ckT_rng (by omega) (by omega)]
      go_enter Try.func9, Try.ntmps9
      go_wp2
      go_ret
      exact ⟨rfl, bel_alloc (Below.refl _ _) _⟩
  have e1 : s.tmod 8 = s % 8 := Int.tmod_eq_emod_of_nonneg h3
  have e2 : a.tmod 8 = a % 8 := Int.tmod_eq_emod_of_nonneg h5
  by_cases q : s % 8 = a % 8
  · rw [ckT_mk (t := (d, s, a, f, v)) (by show 0 ≤ d ∧ d ≤ 7; omega) (by show 0 ≤ s ∧ s ≤ 511; omega) (by show 0 ≤ a ∧ a ≤ 511; omega) ⟨k1, k2⟩ q]
    go_enter Try.func9, Try.ntmps9
    go_wp2
    go_ret
    exact ⟨rfl, bel_alloc (Below.refl _ _) _⟩
  · rw [ckT_frm (by omega) (by omega) q]
    go_enter Try.func9, Try.ntmps9
    go_wp2
    go_ret
    exact ⟨rfl, bel_alloc (Below.refl _ _) _⟩
set_option maxRecDepth 10000 in
set_option maxHeartbeats 4000000 in
theorem lets_row {m : Mc} {cs : Array Value} {d s a : Int} {f : Bool} {v : Int} {w : World} (hm : IsM w m cs) (hE : chkM m = 0) (ht : ckT (d, s, a, f, v) = 0) :
    Calls Try.prog 13 #[.agg cs, .agg #[.int .i64 d, .int .i64 s, .int .i64 a, .bool f, .int .i64 v]] w fun e w' => e = .returned (.bool (lets m (d, s, a, f, v))) ∧ Below w.heap.size w w' := by
  have hth := thE_lets hE ht
  obtain ⟨k1, k2, k3, -, -⟩ := ckT_ok ht
  dsimp only at k1 k2 k3 hth
  obtain ⟨zs, ⟨p, r, dn⟩, ⟨mo, ba, l, op, oh, ot, st, fe, fp, fh, ft, lo⟩⟩ := m
  obtain ⟨⟨c, k, q⟩, hR⟩ : ∃ R, goT zs (Br.with ⟨mo, ba, l, op, oh, ot, st, fe, fp, fh, ft, lo⟩ []) d (s / 8) f = R := ⟨_, rfl⟩
  have hR2 : thR zs (Br.with ⟨mo, ba, l, op, oh, ot, st, fe, fp, fh, ft, lo⟩ []) d (s / 8) f = (c, k, q) := by rw [thR, if_pos hth, hR]
  have HV : Hid (lets ⟨zs, ⟨p, r, dn⟩, ⟨mo, ba, l, op, oh, ot, st, fe, fp, fh, ft, lo⟩⟩ (d, s, a, f, v) = decide (q = 0 ∧ k = a / 8)) := by
    show decide ((goT zs (Br.with ⟨mo, ba, l, op, oh, ot, st, fe, fp, fh, ft, lo⟩ []) d (s / 8) f).2.2 = 0 ∧ (goT zs (Br.with ⟨mo, ba, l, op, oh, ot, st, fe, fp, fh, ft, lo⟩ []) d (s / 8) f).2.1 = a / 8) = _
    rw [hR]
  have HE : Hid (thE zs (Br.with ⟨mo, ba, l, op, oh, ot, st, fe, fp, fh, ft, lo⟩ []) d (s / 8) = 0) := hth
  have HR : Hid (thR zs (Br.with ⟨mo, ba, l, op, oh, ot, st, fe, fp, fh, ft, lo⟩ []) d (s / 8) f = (c, k, q)) := hR2
  obtain ⟨a1, n1, c1, a2, n2, c2, a3, n3, c3, rfl, h1, h2, h3⟩ := hm
  have H1 : Hid (Sl w (.slice a1 n1 c1) zs) := h1
  have H3 : Hid (Ls w (.slice a3 n3 c3) l) := h3
  dsimp only at h1 h2 h3
  clear h1 h2 h3 hE ht hth hR hR2
  have X0 := (Box.newAt (w := w) (n := w.heap.size) rfl 39 #[.slice a1 n1 c1, .int .i64 p, .slice a2 n2 c2, .bool dn, .int .i64 mo, .int .i64 ba, .slice a3 n3 c3, .int .i64 op, .int .i64 oh, .int .i64 ot, .bool st, .int .i64 fe, .int .i64 fp, .int .i64 fh, .int .i64 ft, .bool lo]).past (.cells #[.int .i64 d, .int .i64 s, .int .i64 a, .bool f, .int .i64 v] 24)
  have X1 := Box.newAt (w := w.alloc (.cells #[.slice a1 n1 c1, .int .i64 p, .slice a2 n2 c2, .bool dn, .int .i64 mo, .int .i64 ba, .slice a3 n3 c3, .int .i64 op, .int .i64 oh, .int .i64 ot, .bool st, .int .i64 fe, .int .i64 fp, .int .i64 fh, .int .i64 ft, .bool lo] 39)) (n := w.heap.size + 1) (by simp) 24 #[.int .i64 d, .int .i64 s, .int .i64 a, .bool f, .int .i64 v]
  have BW : Hid (Below w.heap.size w _) := bel_alloc (bel_alloc (Below.refl w.heap.size w) (.cells #[.slice a1 n1 c1, .int .i64 p, .slice a2 n2 c2, .bool dn, .int .i64 mo, .int .i64 ba, .slice a3 n3 c3, .int .i64 op, .int .i64 oh, .int .i64 ot, .bool st, .int .i64 fe, .int .i64 fp, .int .i64 fh, .int .i64 ft, .bool lo] 39)) (.cells #[.int .i64 d, .int .i64 s, .int .i64 a, .bool f, .int .i64 v] 24)
  go_enter Try.func13, Try.ntmps13
  go_upto_region 1 with fail
  generalize ((w.alloc (.cells #[.slice a1 n1 c1, .int .i64 p, .slice a2 n2 c2, .bool dn, .int .i64 mo, .int .i64 ba, .slice a3 n3 c3, .int .i64 op, .int .i64 oh, .int .i64 ot, .bool st, .int .i64 fe, .int .i64 fp, .int .i64 fh, .int .i64 ft, .bool lo] 39)).alloc (.cells #[.int .i64 d, .int .i64 s, .int .i64 a, .bool f, .int .i64 v] 24)) = W at *
  obtain ⟨⟨q0, q1, q2, q3⟩, ⟨g0, g1, g2, g3, g4, g5, g6, g7, g8, g9, g10, g11⟩, s0⟩ := X0.sixteen
  obtain ⟨t0, t1, t2, t3, t4⟩ := X1.blk.five
  have s1 := X1.lt
  have hs8 : s.tdiv 8 = s / 8 := Int.tdiv_eq_ediv_of_nonneg k2.1
  have ha8 : a.tdiv 8 = a / 8 := Int.tdiv_eq_ediv_of_nonneg k3.1
  have k21 := k2.1
  have k22 := k2.2
  have k31 := k3.1
  have k32 := k3.2
  clear k1 k2 k3
  go_wp2_with fail
  refine (plain_at (H1.out.keep BW.out) (H3.out.keep BW.out) HE.out HR.out).mono ?_
  rintro e w2 ⟨rfl, b2⟩
  clear q0 q1 q2 q3 g0 g1 g2 g3 g4 g5 g6 g7 g8 g9 g10 g11 s0 t0 t1 t2 t3 t4
  have X1 := X1.keep b2
  obtain ⟨t0, t1, t2, t3, t4⟩ := X1.blk.five
  have s1 := X1.lt
  have B2 : Hid (Below w.heap.size w w2) := bel_trans BW.out b2
  clear b2 BW HE HR
  by_cases hq : q = 0
  · subst hq
    by_cases hk : k = a / 8
    · have : decide ((0 : Int) = 0 ∧ k = a / 8) = true := by simpa using hk
      have HF : Hid (_ = _) := (HV.out.trans this).symm
      clear this HV
      go_wp2_with fail
      go_ret
      exact ⟨ret_bool HF.out, B2.out⟩
    · have : decide ((0 : Int) = 0 ∧ k = a / 8) = false := by simpa using hk
      have kk : (k == a / 8) = false := by simpa using hk
      have HF : Hid (_ = _) := (HV.out.trans this).symm
      clear this HV
      go_wp2_with fail
      go_ret
      exact ⟨ret_bool HF.out, B2.out⟩
  · have : decide (q = 0 ∧ k = a / 8) = false := by simp [hq]
    have HF : Hid (_ = _) := (HV.out.trans this).symm
    clear this HV
    have qq : (q == 0) = false := by simpa using hq
    clear hq
    go_wp2_with fail
    go_ret
    exact ⟨ret_bool HF.out, B2.out⟩
theorem chkH_len {p : Int} {r : List Int} {d : Bool} (h : ¬ r.length = 8) : chkH ⟨p, r, d⟩ = 3 := if_neg h
theorem chkH_out {p : Int} {r : List Int} {d : Bool} (h : r.length = 8) (k : placeB p = false) : chkH ⟨p, r, d⟩ = 2 := by
  rw [chkH, if_pos h, if_neg (by rw [k]; decide)]
theorem chkH_bad {p : Int} {r : List Int} {d : Bool} (h : r.length = 8) (k : placeB p = true) {j : Nat} (hj : j < 8) (hw : wordB (nth r j) = false) : chkH ⟨p, r, d⟩ = 2 := by
  rw [chkH, if_pos h, if_pos k, if_neg]
  intro e
  rw [List.all_eq_true] at e
  have := e (nth r j) (by rw [nth, List.getD_eq_getElem?_getD, List.getElem?_eq_getElem (by omega)]; exact List.getElem_mem _)
  rw [hw] at this
  exact absurd this (by decide)
theorem chkH_all {p : Int} {r : List Int} {d : Bool} (h : r.length = 8) (k : placeB p = true) (hw : ∀ j, j < 8 → wordB (nth r j) = true) : chkH ⟨p, r, d⟩ = 0 := by
  rw [chkH, if_pos h, if_pos k, if_pos (all_words fun i hi => hw i (by omega))]
theorem between_place (z : Int) : betweenB 0 511 z = placeB z := by unfold betweenB placeB; congr 1; apply propext; omega
set_option maxHeartbeats 1000000 in
theorem checkHart_any (p : Int) (v : Value) (r : List Int) (d : Bool) (w : World) (h : Sl w v r) :
    Calls Try.prog 15 #[.agg #[.int .i64 p, v, .bool d]] w fun e w' => e = .returned (.int .i64 (chkH ⟨p, r, d⟩)) ∧ Below w.heap.size w w' := by
  obtain ⟨a, cap, rfl, hl, h⟩ := h
  unfold maxLen at hl
  by_cases hn : r.length = 8
  rotate_left
  · have hne : ((r.length : Int) != 8) = true := by simp; omega
    rw [chkH_len hn]
    clear hn h
    go_enter Try.func15, Try.ntmps15
    go_wp2
    go_ret
    exact ⟨rfl, bel_alloc (Below.refl _ _) _⟩
  rcases h with rfl | ⟨b, o, rfl, hb, hc⟩
  · simp at hn
  have HC : Hid (∀ i, i < 8 → w.cell? ⟨b, o + i, none⟩ = some (.int .i64 (nth r i))) := fun i hi => hc i (by omega)
  have HN : Hid (r.length = 8) := hn
  rw [hn]
  clear hc hl hn
  cases hp : placeB p
  · rw [chkH_out HN.out hp]
    rw [← between_place] at hp
    go_enter Try.func15, Try.ntmps15
    go_wp2_with (go_at_call 17; refine (in_any _ _ _ _).mono ?_; rintro e w' ⟨rfl, rfl⟩; rw [hp])
    go_ret
    exact ⟨rfl, bel_alloc (Below.refl _ _) _⟩
  have HP0 : Hid (placeB p = true) := hp
  rw [← between_place] at hp
  go_enter Try.func15, Try.ntmps15
  go_wp2_with (go_at_call 17; refine (in_any _ _ _ _).mono ?_; rintro e w' ⟨rfl, rfl⟩; rw [hp])
  go_loop [16] (fun i => ∃ k : Nat, k ≤ 8 ∧ i = .int .i64 k ∧ ∀ j, j < k → wordB (nth r j) = true) (fun i => 8 - (intOf i).toNat)
  case atStart => exact ⟨0, Nat.zero_le _, rfl, fun j hj => absurd hj (Nat.not_lt_zero _)⟩
  case round =>
    obtain ⟨k, hk, rfl, hpre⟩ := hrel
    have HP : Hid (∀ j, j < k → wordB (nth r j) = true) := hpre
    clear hpre
    by_cases hlt : k < 8
    · have g := HC.out k hlt
      have hlt1 : (k : Int) < 8 := by omega
      by_cases hq : wordB (nth r k) = true
      · go_wp2_with (go_at_call 17; refine (in_any _ _ _ _).mono ?_; rintro e w' ⟨rfl, rfl⟩; rw [between_word])
        refine ⟨⟨k + 1, by omega, by go_num, fun j hj => ?_⟩, by simp [intOf]; omega⟩
        by_cases e : j = k
        · rw [e]; exact hq
        · exact HP.out j (by omega)
      · have hq' : wordB (nth r k) = false := by simpa using hq
        have HD : Hid (chkH ⟨p, r, d⟩ = 2) := chkH_bad HN.out HP0.out hlt hq'
        clear hq
        go_wp2_with (go_at_call 17; refine (in_any _ _ _ _).mono ?_; rintro e w' ⟨rfl, rfl⟩; rw [between_word])
        go_ret
        exact ⟨ret_int HD.out.symm, bel_alloc (Below.refl _ _) _⟩
    · have HD : Hid (chkH ⟨p, r, d⟩ = 0) := chkH_all HN.out HP0.out fun j hj => HP.out j (by omega)
      have hge : ¬ (k : Int) < 8 := by omega
      go_wp2
      go_ret
      exact ⟨ret_int HD.out.symm, bel_alloc (Below.refl _ _) _⟩
def keyN (x : Ln) : Int := x.1 * 64 + x.2.1
def seenN (l : List Ln) (k : Nat) : List Int := ((l.take k).map keyN).reverse
theorem seenN_zero (l : List Ln) : seenN l 0 = [] := by simp [seenN]
theorem seenN_next {l : List Ln} {k : Nat} (h : k < l.length) : seenN l (k + 1) = keyN (lth l k) :: seenN l k := by
  unfold seenN
  rw [List.take_succ_eq_append_getElem h, List.map_append, List.reverse_append, lth_get h]
  rfl
theorem rng_of {x : Ln} (h : rngB x = true) : (0 ≤ x.1 ∧ x.1 < 8) ∧ (0 ≤ x.2.1 ∧ x.2.1 < 64) := by
  simp [rngB] at h; exact ⟨by omega, by omega⟩
theorem key_same {x y : Ln} (hx : rngB x = true) (hy : rngB y = true) : keyB x y = true ↔ keyN x = keyN y := by
  obtain ⟨a1, a2⟩ := rng_of hx
  obtain ⟨b1, b2⟩ := rng_of hy
  unfold keyB keyN
  simp only [Bool.and_eq_true, decide_eq_true_eq]
  constructor
  · rintro ⟨e1, e2⟩; rw [e1, e2]
  · intro e; constructor <;> omega
theorem seen_find {l : List Ln} {k : Nat} (hk : k < l.length) (h : ∀ j, j < k → errL l j = 0) (hr : rngB (lth l k) = true) : keyN (lth l k) ∈ seenN l k ↔ 0 ≤ fndC (l.take k) (lth l k).1 (lth l k).2.1 := by
  rw [← any_find, List.any_eq_true]
  unfold seenN
  rw [List.mem_reverse, List.mem_map]
  constructor
  · rintro ⟨y, hy, e⟩
    refine ⟨y, hy, ?_⟩
    obtain ⟨j, hj, rfl⟩ := List.getElem_of_mem hy
    have hj' : j < k := by simp at hj; omega
    have hz := (errL_zero.1 (h j hj')).1
    rw [lth_get (by omega)] at hz
    rw [List.getElem_take] at e ⊢
    exact (key_same hr hz).2 e.symm
  · rintro ⟨y, hy, e⟩
    refine ⟨y, hy, ?_⟩
    obtain ⟨j, hj, rfl⟩ := List.getElem_of_mem hy
    have hj' : j < k := by simp at hj; omega
    have hz := (errL_zero.1 (h j hj')).1
    rw [lth_get (by omega)] at hz
    rw [List.getElem_take] at e ⊢
    exact ((key_same hr hz).1 e).symm
set_option maxHeartbeats 1000000 in
theorem checkCache_any (v : Value) (l : List Ln) (w : World) (h : Ls w v l) :
    Calls Try.prog 27 #[v] w fun e w' => e = .returned (.int .i64 (chkC l)) ∧ Below w.heap.size w w' := by
  have hmm := @run_makeMap Try.prog
  have HL : Hid (Ls w v l) := h
  obtain ⟨a, cap, rfl, hl, hm, h⟩ := h
  unfold maxLen at hm
  by_cases h6 : 6 < l.length
  · have e6 : chkC l = 1 := chkC_many h6
    rw [e6]
    have h6' : (6 : Int) < l.length := by omega
    go_enter Try.func27, Try.ntmps27
    go_wp2
    go_ret
    exact ⟨rfl, Below.refl _ _⟩
  have h6' : ¬ (6 : Int) < l.length := by omega
  have hmz : (l.length : Int) ≤ 6 := by omega
  rcases h with rfl | ⟨b, o, rfl, hb, hc⟩
  · go_enter Try.func27, Try.ntmps27
    go_wp2
    go_loopw [5, 12] (fun _ i w' => i = .int .i64 0 ∧ Below w.heap.size w w') (fun _ i _ => 0)
    case atStart => exact ⟨rfl, bel_alloc (Below.refl _ _) _⟩
    case round =>
      obtain ⟨rfl, hB⟩ := hrel
      go_wp2
      go_ret
      exact ⟨ret_int (chkC_all h6 (fun j hj => absurd hj (Nat.not_lt_zero _))).symm, hB⟩
  · have HC : Hid _ := hc
    clear hc
    go_enter Try.func27, Try.ntmps27
    go_wp2
    go_loopw [5, 12] (fun _ i w' => ∃ k : Nat, k ≤ l.length ∧ i = .int .i64 k ∧ (∀ j, j < k → errL l j = 0) ∧ Seen w' w.heap.size k (seenN l k) ∧ Below w.heap.size w w') (fun _ i _ => l.length - (intOf i).toNat)
    case atStart => exact ⟨0, Nat.zero_le _, rfl, fun j hj => absurd hj (Nat.not_lt_zero _), by rw [seenN_zero]; exact Seen.new w, bel_alloc (Below.refl _ _) _⟩
    case round =>
      obtain ⟨k, hk, rfl, hpre, hS, hB⟩ := hrel
      have HP : Hid _ := hpre
      have HB : Hid _ := hB
      by_cases hlt : k < l.length
      · obtain ⟨g0, g1, g2, g3, g4⟩ := (HC.out k hlt).keep hB hb
        have hb' : b < wr.heap.size := Nat.lt_of_lt_of_le hb hB.size
        obtain ⟨y, hy⟩ : ∃ y, y = lth l k := ⟨_, rfl⟩
        have HY : Hid _ := hy
        rw [← hy] at g0 g1 g2 g3 g4
        clear hy hpre hB
        obtain ⟨d1, p1, a1, r1, x1⟩ := y
        simp only at g0 g1 g2 g3 g4
        have hlt1 : (k : Int) < l.length := by omega
        have hk6 : k < 1000 := by omega
        have hsz : w.heap.size < wr.heap.size := hS.lt
        have HS : Hid _ := hS
        clear hS
        have HW : Hid (own (d1, p1, a1, r1, x1) = if (devB d1 && pgB p1 && pgB a1) = true then (if r1 = true then 0 else 3) else 2) := rfl
        by_cases ho : own (d1, p1, a1, r1, x1) = 0
        rotate_left
        · have HE : Hid (chkC l = own (d1, p1, a1, r1, x1)) := chkC_at h6 hlt HP.out (by have := errL_own (l := l) (k := k) (by rw [← HY.out]; exact ho); rw [this, ← HY.out]) ho
          cases e1 : devB d1
          · have H2 : Hid (chkC l = 2) := by show _ = _; rw [HE.out, HW.out, e1]; rfl
            go_wp2_with (first | (go_at_call 17; refine (cIn_any _ _ _ _).mono ?_; rintro e w1 ⟨rfl, rfl⟩; first | rw [in_dev, e1] | rw [in_page]))
            go_ret
            exact ⟨ret_int H2.out.symm, bel_alloc HB.out _⟩
          cases e2 : pgB p1
          · have H2 : Hid (chkC l = 2) := by show _ = _; rw [HE.out, HW.out, e1, e2]; rfl
            go_wp2_with (first | (go_at_call 17; refine (cIn_any _ _ _ _).mono ?_; rintro e w1 ⟨rfl, rfl⟩; first | rw [in_dev, e1] | rw [in_page, e2]))
            go_ret
            exact ⟨ret_int H2.out.symm, bel_alloc HB.out _⟩
          cases e3 : pgB a1
          · have H2 : Hid (chkC l = 2) := by show _ = _; rw [HE.out, HW.out, e1, e2, e3]; rfl
            go_wp2_with (first | (go_at_call 17; refine (cIn_any _ _ _ _).mono ?_; rintro e w1 ⟨rfl, rfl⟩; first | rw [in_dev, e1] | rw [in_page, e2] | rw [in_page, e3]))
            go_ret
            exact ⟨ret_int H2.out.symm, bel_alloc HB.out _⟩
          cases r1
          rotate_left
          · exact absurd (by rw [HW.out, e1, e2, e3]; rfl) ho
          have H2 : Hid (chkC l = 3) := by show _ = _; rw [HE.out, HW.out, e1, e2, e3]; rfl
          go_wp2_with (first | (go_at_call 17; refine (cIn_any _ _ _ _).mono ?_; rintro e w1 ⟨rfl, rfl⟩; first | rw [in_dev, e1] | rw [in_page, e2] | rw [in_page, e3]))
          go_ret
          exact ⟨ret_int H2.out.symm, bel_alloc HB.out _⟩
        have hw := HW.out
        rw [ho] at hw
        have e1 : devB d1 = true := by cases e : devB d1; (· rw [e] at hw; simp at hw); rfl
        have e2 : pgB p1 = true := by cases e : pgB p1; (· rw [e] at hw; simp at hw); rfl
        have e3 : pgB a1 = true := by cases e : pgB a1; (· rw [e] at hw; simp at hw); rfl
        have e4 : r1 = true := by rw [e1, e2, e3] at hw; cases r1; (· simp at hw); rfl
        subst e4
        clear hw HW
        have hd : 0 ≤ d1 ∧ d1 < 8 := by simpa [devB] using e1
        have hp : 0 ≤ p1 ∧ p1 < 64 := by simpa [pgB] using e2
        obtain ⟨hd0, hd1⟩ := hd
        obtain ⟨hp0, hp1⟩ := hp
        have HR : Hid (rngB (lth l k) = true) := by show _ = _; rw [← HY.out, rng_split, e1, e2, e3]; rfl
        have HS1 : ∀ ob, Seen (wr.alloc ob) w.heap.size k (seenN l k) := fun ob => Seen.keep HS.out (bel_alloc (Below.refl _ _) _)
        have HS2 : Hid _ := HS1
        clear HS1
        have HN : Hid (keyN (lth l k) = d1 * 64 + p1) := by show _ = _; rw [← HY.out]; rfl
        by_cases hin : d1 * 64 + p1 ∈ seenN l k
        · have HE : Hid (chkC l = 5) := chkC_at h6 hlt HP.out (errL_twice (by rw [← HY.out]; exact ho) ((seen_find hlt HP.out HR.out).1 (by rw [HN.out]; exact hin))) (by decide)
          go_wp2_with (first | (go_at_call 17; refine (cIn_any _ _ _ _).mono ?_; rintro e w1 ⟨rfl, rfl⟩; first | rw [in_dev, e1] | rw [in_page, e2] | rw [in_page, e3]) | (at_lookup; refine wpList_seen rfl _ _ rfl w.heap.size k (seenN l k) rfl (HS2.out _) (d1 * 64 + p1) (by first | rfl | simp) (by omega) (by omega) ?_; rw [decide_eq_true hin]))
          go_ret
          exact ⟨ret_int HE.out.symm, bel_alloc HB.out _⟩
        · have HE : Hid (errL l k = 0) := errL_fine (by rw [← HY.out]; exact ho) (fun hf => hin (by rw [← HN.out]; exact (seen_find hlt HP.out HR.out).2 hf))
          have HQ : Hid (seenN l (k + 1) = (d1 * 64 + p1) :: seenN l k) := by show _ = _; rw [seenN_next hlt, HN.out]
          go_wp2_with (first | (go_at_call 17; refine (cIn_any _ _ _ _).mono ?_; rintro e w1 ⟨rfl, rfl⟩; first | rw [in_dev, e1] | rw [in_page, e2] | rw [in_page, e3]) | (at_lookup; refine wpList_seen rfl _ _ rfl w.heap.size k (seenN l k) rfl (HS2.out _) (d1 * 64 + p1) (by first | rfl | simp) (by omega) (by omega) ?_; rw [decide_eq_false hin]) | (at_mapUpdate; refine wpList_see rfl _ _ _ rfl w.heap.size k (seenN l k) rfl (HS2.out _) (d1 * 64 + p1) (by first | rfl | simp) rfl (by omega) (by omega) hk6 ?_; intro w1 hs1 hgr1))
          exact ⟨⟨k + 1, by omega, by go_num, upto_next HP.out HE.out, by rw [HQ.out]; exact hs1, (bel_alloc HB.out _).grown hgr1 (by simp; omega) (fun j hj => by cases hj; exact Nat.le_refl _)⟩, by simp [intOf]; omega⟩
      · have HF : Hid (chkC l = 0) := chkC_all h6 fun j hj => HP.out j (by omega)
        clear hpre hB hS
        go_wp2
        go_ret
        exact ⟨ret_int HF.out.symm, HB.out⟩
theorem between_page (z : Int) : betweenB 0 63 z = pageR z := by unfold betweenB pageR; exact decide_eq_decide.2 (by omega)
theorem between_step (z : Int) : betweenB 0 7 z = stepR z := by unfold betweenB stepR; exact decide_eq_decide.2 (by omega)
set_option maxHeartbeats 1000000 in
theorem checkRing_any (p h t : Int) (w : World) :
    Calls Try.prog 28 #[.agg #[.int .i64 p, .int .i64 h, .int .i64 t]] w fun e w' => e = .returned (.int .i64 (chkR p h t)) ∧ w' = w.alloc (ringB p h t) := by
  cases a : pageR p
  · have : chkR p h t = 2 := by simp [chkR, a]
    rw [this]
    go_enter Try.func28, Try.ntmps28
    go_wp2_with (go_at_call 17; refine (in_any _ _ _ _).mono ?_; rintro e w' ⟨rfl, rfl⟩; first | rw [between_page] | rw [between_step])
    go_ret
    exact ⟨rfl, rfl⟩
  cases b : stepR h
  · have : chkR p h t = 2 := by simp [chkR, a, b]
    rw [this]
    go_enter Try.func28, Try.ntmps28
    go_wp2_with (go_at_call 17; refine (in_any _ _ _ _).mono ?_; rintro e w' ⟨rfl, rfl⟩; first | rw [between_page] | rw [between_step])
    go_ret
    exact ⟨rfl, rfl⟩
  cases c : stepR t
  · have : chkR p h t = 2 := by simp [chkR, a, b, c]
    rw [this]
    go_enter Try.func28, Try.ntmps28
    go_wp2_with (go_at_call 17; refine (in_any _ _ _ _).mono ?_; rintro e w' ⟨rfl, rfl⟩; first | rw [between_page] | rw [between_step])
    go_ret
    exact ⟨rfl, rfl⟩
  have : chkR p h t = 0 := by simp [chkR, a, b, c]
  rw [this]
  go_enter Try.func28, Try.ntmps28
  go_wp2_with (go_at_call 17; refine (in_any _ _ _ _).mono ?_; rintro e w' ⟨rfl, rfl⟩; first | rw [between_page] | rw [between_step])
  go_ret
  exact ⟨rfl, rfl⟩
theorem rngBr_waysR {b : Br} : (rngBr b = true ∧ betweenB 0 2 b.mode = true ∧ betweenB 0 63 b.base = true ∧ betweenB 0 999 b.fen = true) ∨
    (rngBr b = false ∧ (betweenB 0 2 b.mode = false ∨ (betweenB 0 2 b.mode = true ∧ betweenB 0 63 b.base = false) ∨ (betweenB 0 2 b.mode = true ∧ betweenB 0 63 b.base = true ∧ betweenB 0 999 b.fen = false))) := by
  have e : rngBr b = (betweenB 0 2 b.mode && betweenB 0 63 b.base && betweenB 0 999 b.fen) := rfl
  rw [e]
  cases betweenB 0 2 b.mode <;> cases betweenB 0 63 b.base <;> cases betweenB 0 999 b.fen <;> simp
set_option maxHeartbeats 2000000 in
theorem checkBridge_any (mo ba op oh ot fe fp fh ft : Int) (st lo : Bool) (vc : Value) (l : List Ln) (w : World) (h : Ls w vc l) :
    Calls Try.prog 16 #[.agg #[.int .i64 mo, .int .i64 ba, vc, .int .i64 op, .int .i64 oh, .int .i64 ot, .bool st, .int .i64 fe, .int .i64 fp, .int .i64 fh, .int .i64 ft, .bool lo]] w fun e w' => e = .returned (.int .i64 (chkB ⟨mo, ba, l, op, oh, ot, st, fe, fp, fh, ft, lo⟩)) ∧ Below w.heap.size w w' := by
  have HS : Hid (Ls w vc l) := h
  obtain ⟨va, vk, rfl, -⟩ := h.shape
  clear h
  rcases rngBr_waysR (b := ⟨mo, ba, l, op, oh, ot, st, fe, fp, fh, ft, lo⟩) with ⟨hr, h1, h2, h3⟩ | ⟨hr, hw⟩
  rotate_left
  · have HE : Hid (chkB ⟨mo, ba, l, op, oh, ot, st, fe, fp, fh, ft, lo⟩ = 2) := by show _ = _; rw [chkB, hr]; rfl
    clear hr
    dsimp only at hw
    rcases hw with h1 | ⟨h1, h2⟩ | ⟨h1, h2, h3⟩
    all_goals
      go_enter Try.func16, Try.ntmps16
      go_wp2_with (go_at_call 17; refine (in_any _ _ _ _).mono ?_; rintro e w' ⟨rfl, rfl⟩)
      go_ret
      exact ⟨ret_int HE.out.symm, bel_alloc (Below.refl _ _) _⟩
  dsimp only at h1 h2 h3
  have HR : Hid (rngBr ⟨mo, ba, l, op, oh, ot, st, fe, fp, fh, ft, lo⟩ = true) := hr
  clear hr
  go_enter Try.func16, Try.ntmps16
  go_wp2_with (go_at_call 17; refine (in_any _ _ _ _).mono ?_; rintro e w' ⟨rfl, rfl⟩)
  refine (checkCache_any _ l _ (HS.out.alloc _)).mono ?_
  rintro e w1 ⟨rfl, b1⟩
  have X0 := (Box.newAt (n := w.heap.size) rfl 37 #[.int .i64 mo, .int .i64 ba, .slice va l.length vk, .int .i64 op, .int .i64 oh, .int .i64 ot, .bool st, .int .i64 fe, .int .i64 fp, .int .i64 fh, .int .i64 ft, .bool lo]).keep b1
  have B1 : Hid (Below w.heap.size w w1) := bel_trans (bel_alloc (Below.refl _ _) _) b1
  clear b1
  obtain ⟨⟨q0, q1, q2, q3, q4, q5, q6, q7, q8, q9, q10, q11⟩, s0⟩ := X0.twelve
  by_cases hc : chkC l = 0
  rotate_left
  · have HE : Hid (chkB ⟨mo, ba, l, op, oh, ot, st, fe, fp, fh, ft, lo⟩ = chkC l) := by show _ = _; rw [chkB, if_pos HR.out, if_neg hc]
    have hq : (chkC l == 0) = false := by simpa using hc
    go_wp2
    go_ret
    exact ⟨ret_int HE.out.symm, B1.out⟩
  rw [hc]
  go_wp2_with fail
  refine (checkRing_any _ _ _ _).mono ?_
  rintro e w2 ⟨rfl, rfl⟩
  by_cases hk : chkR op oh ot = 0
  rotate_left
  · have HE : Hid (chkB ⟨mo, ba, l, op, oh, ot, st, fe, fp, fh, ft, lo⟩ = chkR op oh ot) := by show _ = _; rw [chkB, if_pos HR.out, if_pos hc, if_neg hk]
    have hq : (chkR op oh ot == 0) = false := by simpa using hk
    go_wp2
    go_ret
    exact ⟨ret_int HE.out.symm, bel_alloc B1.out _⟩
  have HE : Hid (chkB ⟨mo, ba, l, op, oh, ot, st, fe, fp, fh, ft, lo⟩ = chkR fp fh ft) := by show _ = _; rw [chkB, if_pos HR.out, if_pos hc, if_pos hk]
  rw [hk]
  go_wp2_with fail
  refine (checkRing_any _ _ _ _).mono ?_
  rintro e w2 ⟨rfl, rfl⟩
  go_wp2
  go_ret
  exact ⟨ret_int HE.out.symm, bel_alloc (bel_alloc B1.out _) _⟩
set_option maxRecDepth 10000 in
set_option maxHeartbeats 4000000 in
theorem checkMachine_any (v : Value) (zs : List Int) (p : Int) (u : Value) (r : List Int) (d : Bool) (mo ba op oh ot fe fp fh ft : Int) (st lo : Bool) (vc : Value) (l : List Ln) (w : World) (hs : Sl w v zs) (hr : Sl w u r) (h : Ls w vc l) :
    Calls Try.prog 6 #[.agg #[v, .int .i64 p, u, .bool d, .int .i64 mo, .int .i64 ba, vc, .int .i64 op, .int .i64 oh, .int .i64 ot, .bool st, .int .i64 fe, .int .i64 fp, .int .i64 fh, .int .i64 ft, .bool lo]] w fun e w' => e = .returned (.int .i64 (chkM ⟨zs, ⟨p, r, d⟩, ⟨mo, ba, l, op, oh, ot, st, fe, fp, fh, ft, lo⟩⟩)) ∧ Below w.heap.size w w' := by
  have HM : Hid (Sl w v zs) := hs
  have HR : Hid (Sl w u r) := hr
  have HL : Hid (Ls w vc l) := h
  obtain ⟨a1, n1, c1, rfl⟩ : ∃ a k c, v = .slice a k c := let ⟨a, c, e, _⟩ := hs; ⟨a, _, c, e⟩
  obtain ⟨a2, n2, c2, rfl⟩ : ∃ a k c, u = .slice a k c := let ⟨a, c, e, _⟩ := hr; ⟨a, _, c, e⟩
  obtain ⟨ca, cc, rfl, -⟩ := h.shape
  obtain ⟨ck, hck⟩ : ∃ ck, ck = l.length := ⟨_, rfl⟩
  rw [← hck] at HL ⊢
  clear hs hr h hck
  have HT : Hid (chkM ⟨zs, ⟨p, r, d⟩, ⟨mo, ba, l, op, oh, ot, st, fe, fp, fh, ft, lo⟩⟩ = if chk zs = 0 then (if chkH ⟨p, r, d⟩ = 0 then chkB ⟨mo, ba, l, op, oh, ot, st, fe, fp, fh, ft, lo⟩ else chkH ⟨p, r, d⟩) else chk zs) := rfl
  have X0 := Box.newAt (w := w) (n := w.heap.size) rfl 39 #[.slice a1 n1 c1, .int .i64 p, .slice a2 n2 c2, .bool d, .int .i64 mo, .int .i64 ba, .slice ca ck cc, .int .i64 op, .int .i64 oh, .int .i64 ot, .bool st, .int .i64 fe, .int .i64 fp, .int .i64 fh, .int .i64 ft, .bool lo]
  have BW : Hid (Below w.heap.size w _) := bel_alloc (Below.refl w.heap.size w) (.cells #[.slice a1 n1 c1, .int .i64 p, .slice a2 n2 c2, .bool d, .int .i64 mo, .int .i64 ba, .slice ca ck cc, .int .i64 op, .int .i64 oh, .int .i64 ot, .bool st, .int .i64 fe, .int .i64 fp, .int .i64 fh, .int .i64 ft, .bool lo] 39)
  go_enter Try.func6, Try.ntmps6
  go_upto_region 1 with fail
  generalize (w.alloc (.cells #[.slice a1 n1 c1, .int .i64 p, .slice a2 n2 c2, .bool d, .int .i64 mo, .int .i64 ba, .slice ca ck cc, .int .i64 op, .int .i64 oh, .int .i64 ot, .bool st, .int .i64 fe, .int .i64 fp, .int .i64 fh, .int .i64 ft, .bool lo] 39)) = W at *
  obtain ⟨⟨q0, q1, q2, q3⟩, ⟨g0, g1, g2, g3, g4, g5, g6, g7, g8, g9, g10, g11⟩, s0⟩ := X0.sixteen
  go_wp2_with fail
  refine (checkMem_any _ zs _ (HM.out.keep BW.out)).mono ?_
  rintro e w1 ⟨rfl, k1⟩
  have X0 := X0.keep k1
  have B1 : Hid (Below w.heap.size w w1) := bel_trans BW.out k1
  clear k1 BW
  clear q0 q1 q2 q3 g0 g1 g2 g3 g4 g5 g6 g7 g8 g9 g10 g11 s0
  obtain ⟨⟨q0, q1, q2, q3⟩, ⟨g0, g1, g2, g3, g4, g5, g6, g7, g8, g9, g10, g11⟩, s0⟩ := X0.sixteen
  obtain ⟨z1, hz1⟩ : ∃ z1, chk zs = z1 := ⟨_, rfl⟩
  rw [hz1] at HT ⊢
  clear hz1
  by_cases e1 : z1 = 0
  rotate_left
  · have q : (z1 == 0) = false := by simpa using e1
    have HF : Hid (chkM ⟨zs, ⟨p, r, d⟩, ⟨mo, ba, l, op, oh, ot, st, fe, fp, fh, ft, lo⟩⟩ = z1) := by show _ = _; rw [HT.out, if_neg e1]
    clear e1 HT
    go_wp2_with fail
    go_ret
    exact ⟨ret_int HF.out.symm, B1.out⟩
  subst e1
  rw [if_pos rfl] at HT
  go_wp2_with fail
  refine (checkHart_any p _ r d _ (HR.out.keep B1.out)).mono ?_
  rintro e w2 ⟨rfl, k2⟩
  have X0 := X0.keep k2
  have B2 : Hid (Below w.heap.size w w2) := bel_trans B1.out k2
  clear k2 B1
  clear q0 q1 q2 q3 g0 g1 g2 g3 g4 g5 g6 g7 g8 g9 g10 g11 s0
  obtain ⟨⟨q0, q1, q2, q3⟩, ⟨g0, g1, g2, g3, g4, g5, g6, g7, g8, g9, g10, g11⟩, s0⟩ := X0.sixteen
  obtain ⟨z2, hz2⟩ : ∃ z2, chkH ⟨p, r, d⟩ = z2 := ⟨_, rfl⟩
  rw [hz2] at HT ⊢
  clear hz2
  by_cases e2 : z2 = 0
  rotate_left
  · have q : (z2 == 0) = false := by simpa using e2
    have HF : Hid (chkM ⟨zs, ⟨p, r, d⟩, ⟨mo, ba, l, op, oh, ot, st, fe, fp, fh, ft, lo⟩⟩ = z2) := by show _ = _; rw [HT.out, if_neg e2]
    clear e2 HT
    go_wp2_with fail
    go_ret
    exact ⟨ret_int HF.out.symm, B2.out⟩
  subst e2
  rw [if_pos rfl] at HT
  go_wp2_with fail
  refine (checkBridge_any mo ba op oh ot fe fp fh ft st lo _ l _ (HL.out.keep B2.out)).mono ?_
  rintro e w3 ⟨rfl, k3⟩
  rw [← HT.out]
  go_wp2_with fail
  go_ret
  exact ⟨rfl, bel_trans B2.out k3⟩
set_option maxHeartbeats 1000000 in
theorem hCheck_any (p : Int) (v : Value) (r : List Int) (d : Bool) (w : World) (h : Sl w v r) :
    Calls Try.prog 24 #[.agg #[.int .i64 p, v, .bool d]] w fun e w' => e = .returned (.int .i64 (chkH ⟨p, r, d⟩)) ∧ Below w.heap.size w w' := by
  obtain ⟨a, cap, rfl, hl, h⟩ := h
  unfold maxLen at hl
  by_cases hn : r.length = 8
  rotate_left
  · have hne : ((r.length : Int) != 8) = true := by simp; omega
    rw [chkH_len hn]
    clear hn h
    go_enter Try.func24, Try.ntmps24
    go_wp2
    go_ret
    exact ⟨rfl, bel_alloc (Below.refl _ _) _⟩
  rcases h with rfl | ⟨b, o, rfl, hb, hc⟩
  · simp at hn
  have HC : Hid (∀ i, i < 8 → w.cell? ⟨b, o + i, none⟩ = some (.int .i64 (nth r i))) := fun i hi => hc i (by omega)
  have HN : Hid (r.length = 8) := hn
  rw [hn]
  clear hc hl hn
  cases hp : placeB p
  · rw [chkH_out HN.out hp]
    have ho : p < 0 ∨ (0 ≤ p ∧ 512 ≤ p) := by simp [placeB] at hp; omega
    clear hp
    rcases ho with ho | ⟨ho, ho2⟩
    · go_enter Try.func24, Try.ntmps24
      go_wp2
      go_ret
      exact ⟨rfl, bel_alloc (Below.refl _ _) _⟩
    · have ho3 : ¬ p < 0 := by omega
      go_enter Try.func24, Try.ntmps24
      go_wp2
      go_ret
      exact ⟨rfl, bel_alloc (Below.refl _ _) _⟩
  have HP0 : Hid (placeB p = true) := hp
  have hpp : ¬ p < 0 ∧ ¬ 512 ≤ p := by simp [placeB] at hp; omega
  obtain ⟨hp1, hp2⟩ := hpp
  clear hp
  go_enter Try.func24, Try.ntmps24
  go_wp2
  go_loop [20] (fun i => ∃ k : Nat, k ≤ 8 ∧ i = .int .i64 k ∧ ∀ j, j < k → wordB (nth r j) = true) (fun i => 8 - (intOf i).toNat)
  case atStart => exact ⟨0, Nat.zero_le _, rfl, fun j hj => absurd hj (Nat.not_lt_zero _)⟩
  case round =>
    obtain ⟨k, hk, rfl, hpre⟩ := hrel
    have HP : Hid (∀ j, j < k → wordB (nth r j) = true) := hpre
    clear hpre
    by_cases hlt : k < 8
    · have g := HC.out k hlt
      have hlt1 : (k : Int) < 8 := by omega
      obtain ⟨z, hz⟩ : ∃ z, nth r k = z := ⟨_, rfl⟩
      rw [hz] at g
      have HZ : Hid (nth r k = z) := hz
      clear hz
      by_cases hq : wordB z = true
      · have hq2 : ¬ z < 0 ∧ ¬ 65535 < z := by simp [wordB] at hq; omega
        obtain ⟨q1, q2⟩ := hq2
        have HQ : Hid (wordB z = true) := hq
        clear hq
        go_wp2
        refine ⟨⟨k + 1, by omega, by go_num, fun j hj => ?_⟩, by simp [intOf]; omega⟩
        by_cases e : j = k
        · rw [e, HZ.out]; exact HQ.out
        · exact HP.out j (by omega)
      · have hq' : wordB z = false := by simpa using hq
        have HD : Hid (chkH ⟨p, r, d⟩ = 2) := chkH_bad HN.out HP0.out hlt (by rw [HZ.out]; exact hq')
        have hq2 : z < 0 ∨ (¬ z < 0 ∧ 65535 < z) := by simp [wordB] at hq'; omega
        clear hq hq'
        rcases hq2 with q1 | ⟨q1, q2⟩
        all_goals
          go_wp2
          go_ret
          exact ⟨ret_int HD.out.symm, bel_alloc (Below.refl _ _) _⟩
    · have HD : Hid (chkH ⟨p, r, d⟩ = 0) := chkH_all HN.out HP0.out fun j hj => HP.out j (by omega)
      have hge : ¬ (k : Int) < 8 := by omega
      go_wp2
      go_ret
      exact ⟨ret_int HD.out.symm, bel_alloc (Below.refl _ _) _⟩
def zeroRegs : Array Value := madeCells #[.int .i64 0] 8
def zero8 : List Int := List.replicate 8 0
theorem zeroRegs_list : zeroRegs.toList = zero8.map (fun z => Value.int .i64 z) := by
  unfold zeroRegs zero8
  rw [toList_madeCells_one, List.map_replicate]
theorem make8 (w : World) : (Instr.makeSlice 28 (.int .i64 8) (.int .i64 8)).run Try.prog w = .ok (.slice (some ⟨w.heap.size, 0, none⟩) 8 8) (w.alloc (.cells zeroRegs 3)) := by
  obtain ⟨i, hi, hz, hs, hb⟩ := infoInt
  have h := run_make (P := Try.prog) w 28 3 i _ Try.underlying28 hi hz .i64 .i64 8 8 (by decide) (by decide) (by rw [hb]; decide) (by decide)
  rw [hs] at h
  exact h
set_option maxRecDepth 10000 in
set_option maxHeartbeats 4000000 in
theorem mCheck_any (v : Value) (zs : List Int) (p : Int) (u : Value) (r : List Int) (d : Bool) (mo ba op oh ot fe fp fh ft : Int) (st lo : Bool) (vc : Value) (l : List Ln) (w : World) (hs : Sl w v zs) (hr : Sl w u r) (h : Ls w vc l) :
    Calls Try.prog 12 #[.agg #[v, .int .i64 p, u, .bool d, .int .i64 mo, .int .i64 ba, vc, .int .i64 op, .int .i64 oh, .int .i64 ot, .bool st, .int .i64 fe, .int .i64 fp, .int .i64 fh, .int .i64 ft, .bool lo]] w fun e w' => e = .returned (.int .i64 (chkM ⟨zs, ⟨p, r, d⟩, ⟨mo, ba, l, op, oh, ot, st, fe, fp, fh, ft, lo⟩⟩)) ∧ Below w.heap.size w w' := by
  have HM : Hid (Sl w v zs) := hs
  have HR : Hid (Sl w u r) := hr
  have HL : Hid (Ls w vc l) := h
  obtain ⟨a1, n1, c1, rfl⟩ : ∃ a k c, v = .slice a k c := let ⟨a, c, e, _⟩ := hs; ⟨a, _, c, e⟩
  obtain ⟨a2, n2, c2, rfl⟩ : ∃ a k c, u = .slice a k c := let ⟨a, c, e, _⟩ := hr; ⟨a, _, c, e⟩
  obtain ⟨ca, cc, rfl, -⟩ := h.shape
  obtain ⟨ck, hck⟩ : ∃ ck, ck = l.length := ⟨_, rfl⟩
  rw [← hck] at HL ⊢
  clear hs hr h hck
  have HT : Hid (chkM ⟨zs, ⟨p, r, d⟩, ⟨mo, ba, l, op, oh, ot, st, fe, fp, fh, ft, lo⟩⟩ = if chk zs = 0 then (if chkH ⟨p, r, d⟩ = 0 then chkB ⟨mo, ba, l, op, oh, ot, st, fe, fp, fh, ft, lo⟩ else chkH ⟨p, r, d⟩) else chk zs) := rfl
  have X0 := Box.newAt (w := w) (n := w.heap.size) rfl 39 #[.slice a1 n1 c1, .int .i64 p, .slice a2 n2 c2, .bool d, .int .i64 mo, .int .i64 ba, .slice ca ck cc, .int .i64 op, .int .i64 oh, .int .i64 ot, .bool st, .int .i64 fe, .int .i64 fp, .int .i64 fh, .int .i64 ft, .bool lo]
  have BW : Hid (Below w.heap.size w _) := bel_alloc (Below.refl w.heap.size w) (.cells #[.slice a1 n1 c1, .int .i64 p, .slice a2 n2 c2, .bool d, .int .i64 mo, .int .i64 ba, .slice ca ck cc, .int .i64 op, .int .i64 oh, .int .i64 ot, .bool st, .int .i64 fe, .int .i64 fp, .int .i64 fh, .int .i64 ft, .bool lo] 39)
  go_enter Try.func12, Try.ntmps12
  go_upto_region 1 with fail
  generalize (w.alloc (.cells #[.slice a1 n1 c1, .int .i64 p, .slice a2 n2 c2, .bool d, .int .i64 mo, .int .i64 ba, .slice ca ck cc, .int .i64 op, .int .i64 oh, .int .i64 ot, .bool st, .int .i64 fe, .int .i64 fp, .int .i64 fh, .int .i64 ft, .bool lo] 39)) = W at *
  obtain ⟨⟨q0, q1, q2, q3⟩, ⟨g0, g1, g2, g3, g4, g5, g6, g7, g8, g9, g10, g11⟩, s0⟩ := X0.sixteen
  go_wp2_with fail
  refine (check_any _ zs _ (HM.out.keep BW.out)).mono ?_
  rintro e w1 ⟨rfl, k1⟩
  have X0 := X0.keep k1
  have B1 : Hid (Below w.heap.size w w1) := bel_trans BW.out k1
  clear k1 BW
  clear q0 q1 q2 q3 g0 g1 g2 g3 g4 g5 g6 g7 g8 g9 g10 g11 s0
  obtain ⟨⟨q0, q1, q2, q3⟩, ⟨g0, g1, g2, g3, g4, g5, g6, g7, g8, g9, g10, g11⟩, s0⟩ := X0.sixteen
  obtain ⟨z1, hz1⟩ : ∃ z1, chk zs = z1 := ⟨_, rfl⟩
  rw [hz1] at HT ⊢
  clear hz1
  by_cases e1 : z1 = 0
  rotate_left
  · have q : (z1 != 0) = true := by simpa using e1
    have HF : Hid (chkM ⟨zs, ⟨p, r, d⟩, ⟨mo, ba, l, op, oh, ot, st, fe, fp, fh, ft, lo⟩⟩ = z1) := by show _ = _; rw [HT.out, if_neg e1]
    clear e1 HT
    go_wp2_with fail
    go_ret
    exact ⟨ret_int HF.out.symm, B1.out⟩
  subst e1
  rw [if_pos rfl] at HT
  go_wp2_with fail
  refine (hCheck_any p _ r d _ (HR.out.keep B1.out)).mono ?_
  rintro e w2 ⟨rfl, k2⟩
  have X0 := X0.keep k2
  have B2 : Hid (Below w.heap.size w w2) := bel_trans B1.out k2
  clear k2 B1
  clear q0 q1 q2 q3 g0 g1 g2 g3 g4 g5 g6 g7 g8 g9 g10 g11 s0
  obtain ⟨⟨q0, q1, q2, q3⟩, ⟨g0, g1, g2, g3, g4, g5, g6, g7, g8, g9, g10, g11⟩, s0⟩ := X0.sixteen
  obtain ⟨z2, hz2⟩ : ∃ z2, chkH ⟨p, r, d⟩ = z2 := ⟨_, rfl⟩
  rw [hz2] at HT ⊢
  clear hz2
  by_cases e2 : z2 = 0
  rotate_left
  · have q : (z2 != 0) = true := by simpa using e2
    have HF : Hid (chkM ⟨zs, ⟨p, r, d⟩, ⟨mo, ba, l, op, oh, ot, st, fe, fp, fh, ft, lo⟩⟩ = z2) := by show _ = _; rw [HT.out, if_neg e2]
    clear e2 HT
    go_wp2_with fail
    go_ret
    exact ⟨ret_int HF.out.symm, B2.out⟩
  subst e2
  rw [if_pos rfl] at HT
  go_wp2_with fail
  refine (bCheck_any mo ba op oh ot fe fp fh ft st lo _ l _ (HL.out.keep B2.out)).mono ?_
  rintro e w3 ⟨rfl, k3⟩
  rw [← HT.out]
  go_wp2_with fail
  go_ret
  exact ⟨rfl, bel_trans B2.out k3⟩
theorem mCheck_row {m : Mc} {cs : Array Value} {w : World} (hm : IsM w m cs) : Calls Try.prog 12 #[.agg cs] w fun e w' => e = .returned (.int .i64 (chkM m)) ∧ Below w.heap.size w w' := by
  obtain ⟨zs, ⟨p, r, d⟩, ⟨mo, ba, l, op, oh, ot, st, fe, fp, fh, ft, lo⟩⟩ := m
  obtain ⟨a1, n1, c1, a2, n2, c2, a3, n3, c3, rfl, h1, h2, h3⟩ := hm
  exact mCheck_any _ zs p _ r d mo ba op oh ot fe fp fh ft st lo _ l w h1 h2 h3
end Go.Proofs.Ythlhocneggcekaa
