/-
  Laid together: Audit1, HartR, HCheck, MCheck, Upto, HState, Audit2, MachS, HStore, MRow.
-/
import Derived.Test.YthlhocneggcekaaM1
import Derived.Test.YthlhocneggcekaaM2
import Derived.Test.YthlhocneggcekaaM3
import Derived.Test.YthlhocneggcekaaM4
import Derived.Test.YthlhocneggcekaaM5
import Derived.Test.YthlhocneggcekaaM6
import Derived.Deep.RegionHeld
import Derived.Deep.RegionHeld3
import Derived.LoopN
import Derived.Deep.CutRange
import Derived.Deep.AppendLies
import Derived.Laws.CopyOwn
import Derived.Deep.RegionWith
import Derived.Maps.OwnOps
import Derived.Maps.OwnSet
import Derived.Deep.DrawnRows
import Derived.Test.YthlhocneggcekaaRows
import Derived.WalkKit
import Derived.WalkSpells
import Derived.WalkLawsBesides
import Derived.Below
import Derived.WalkSmall
import Derived.Deep.QuietTactic
import Derived.BigQuiet
import Derived.Deep.Draws
namespace Go.Proofs.Ythlhocneggcekaa
open Go.RowKit
theorem ckT_who {d s a v : Int} {f : Bool} (h : ¬ ((0 ≤ d ∧ d ≤ 7) ∧ (0 ≤ s ∧ s ≤ 511) ∧ (0 ≤ a ∧ a ≤ 511))) : ckT (d, s, a, f, v) = 4 := by unfold ckT; rw [if_neg h]
theorem ckT_rng {d s a v : Int} {f : Bool} (h : (0 ≤ d ∧ d ≤ 7) ∧ (0 ≤ s ∧ s ≤ 511) ∧ (0 ≤ a ∧ a ≤ 511)) (k : ¬ (0 ≤ v ∧ v ≤ 65535)) : ckT (d, s, a, f, v) = 2 := by unfold ckT; rw [if_pos h, if_neg k]
theorem ckT_frm {d s a v : Int} {f : Bool} (h : (0 ≤ d ∧ d ≤ 7) ∧ (0 ≤ s ∧ s ≤ 511) ∧ (0 ≤ a ∧ a ≤ 511)) (k : 0 ≤ v ∧ v ≤ 65535) (q : ¬ s % 8 = a % 8) : ckT (d, s, a, f, v) = 3 := by unfold ckT; rw [if_pos h, if_pos k, if_neg q]
set_option maxHeartbeats 2000000 in
theorem aCheck_any (d s a : Int) (f : Bool) (v : Int) (w : World) :
    Calls Try.prog 9 #[.agg #[.int .i64 d, .int .i64 s, .int .i64 a, .bool f, .int .i64 v]] w fun e w' => e = .returned (.int .i64 (ckT (d, s, a, f, v))) ∧ Below w.heap.size w w' := by
  have ways : (¬ 0 ≤ d) ∨ (0 ≤ d ∧ ¬ d < 8) ∨ (0 ≤ d ∧ d < 8 ∧ ¬ 0 ≤ s) ∨ (0 ≤ d ∧ d < 8 ∧ 0 ≤ s ∧ ¬ s < 512) ∨ (0 ≤ d ∧ d < 8 ∧ 0 ≤ s ∧ s < 512 ∧ ¬ 0 ≤ a) ∨ (0 ≤ d ∧ d < 8 ∧ 0 ≤ s ∧ s < 512 ∧ 0 ≤ a ∧ ¬ a < 512) ∨ (0 ≤ d ∧ d < 8 ∧ 0 ≤ s ∧ s < 512 ∧ 0 ≤ a ∧ a < 512) := by omega
  rcases ways with h1 | ⟨h1, h2⟩ | ⟨h1, h2, h3⟩ | ⟨h1, h2, h3, h4⟩ | ⟨h1, h2, h3, h4, h5⟩ | ⟨h1, h2, h3, h4, h5, h6⟩ | ⟨h1, h2, h3, h4, h5, h6⟩
  iterate 6
    focus
      rw [ckT_who (by omega)]
      go_enter Try.func9, Try.ntmps9
      go_wp2
      go_ret
      exact ⟨rfl, bel_alloc (Below.refl _ _) _⟩
  have ways : (¬ 0 ≤ v) ∨ (0 ≤ v ∧ ¬ v ≤ 65535) ∨ (0 ≤ v ∧ v ≤ 65535) := by omega
  rcases ways with k1 | ⟨k1, k2⟩ | ⟨k1, k2⟩
  iterate 2
    focus
      rw [ckT_rng (by omega) (by omega)]
      go_enter Try.func9, Try.ntmps9
      go_wp2
      go_ret
      exact ⟨rfl, bel_alloc (Below.refl _ _) _⟩
  have e1 : s.tmod 8 = s % 8 := Int.tmod_eq_emod_of_nonneg h3
  have e2 : a.tmod 8 = a % 8 := Int.tmod_eq_emod_of_nonneg h5
  by_cases q : s % 8 = a % 8
  · rw [ckT_mk (t := (d, s, a, f, v)) (by show 0 ≤ d ∧ d ≤ 7; omega) (by show 0 ≤ s ∧ s ≤ 511; omega) (by show 0 ≤ a ∧ a ≤ 511; omega) ⟨k1, k2⟩ q]
    go_enter Try.func9, Try.ntmps9
    go_wp2
    go_ret
    exact ⟨rfl, bel_alloc (Below.refl _ _) _⟩
  · rw [ckT_frm (by omega) (by omega) q]
    go_enter Try.func9, Try.ntmps9
    go_wp2
    go_ret
    exact ⟨rfl, bel_alloc (Below.refl _ _) _⟩
set_option maxRecDepth 10000 in
set_option maxHeartbeats 4000000 in
theorem lets_row {m : Mc} {cs : Array Value} {d s a : Int} {f : Bool} {v : Int} {w : World} (hm : IsM w m cs) (hE : chkM m = 0) (ht : ckT (d, s, a, f, v) = 0) :
    Calls Try.prog 13 #[.agg cs, .agg #[.int .i64 d, .int .i64 s, .int .i64 a, .bool f, .int .i64 v]] w fun e w' => e = .returned (.bool (lets m (d, s, a, f, v))) ∧ Below w.heap.size w w' := by
  have hth := thE_lets hE ht
  obtain ⟨k1, k2, k3, -, -⟩ := ckT_ok ht
  dsimp only at k1 k2 k3 hth
  obtain ⟨zs, ⟨p, r, dn⟩, ⟨mo, ba, l, op, oh, ot, st, fe, fp, fh, ft, lo⟩⟩ := m
  obtain ⟨⟨c, k, q⟩, hR⟩ : ∃ R, goT zs (Br.with ⟨mo, ba, l, op, oh, ot, st, fe, fp, fh, ft, lo⟩ []) d (s / 8) f = R := ⟨_, rfl⟩
  have hR2 : thR zs (Br.with ⟨mo, ba, l, op, oh, ot, st, fe, fp, fh, ft, lo⟩ []) d (s / 8) f = (c, k, q) := by rw [thR, if_pos hth, hR]
  have HV : Hid (lets ⟨zs, ⟨p, r, dn⟩, ⟨mo, ba, l, op, oh, ot, st, fe, fp, fh, ft, lo⟩⟩ (d, s, a, f, v) = decide (q = 0 ∧ k = a / 8)) := by
    show decide ((goT zs (Br.with ⟨mo, ba, l, op, oh, ot, st, fe, fp, fh, ft, lo⟩ []) d (s / 8) f).2.2 = 0 ∧ (goT zs (Br.with ⟨mo, ba, l, op, oh, ot, st, fe, fp, fh, ft, lo⟩ []) d (s / 8) f).2.1 = a / 8) = _
    rw [hR]
  have HE : Hid (thE zs (Br.with ⟨mo, ba, l, op, oh, ot, st, fe, fp, fh, ft, lo⟩ []) d (s / 8) = 0) := hth
  have HR : Hid (thR zs (Br.with ⟨mo, ba, l, op, oh, ot, st, fe, fp, fh, ft, lo⟩ []) d (s / 8) f = (c, k, q)) := hR2
  obtain ⟨a1, n1, c1, a2, n2, c2, a3, n3, c3, rfl, h1, h2, h3⟩ := hm
  have H1 : Hid (Sl w (.slice a1 n1 c1) zs) := h1
  have H3 : Hid (Ls w (.slice a3 n3 c3) l) := h3
  dsimp only at h1 h2 h3
  clear h1 h2 h3 hE ht hth hR hR2
  have X0 := (Box.newAt (w := w) (n := w.heap.size) rfl 39 #[.slice a1 n1 c1, .int .i64 p, .slice a2 n2 c2, .bool dn, .int .i64 mo, .int .i64 ba, .slice a3 n3 c3, .int .i64 op, .int .i64 oh, .int .i64 ot, .bool st, .int .i64 fe, .int .i64 fp, .int .i64 fh, .int .i64 ft, .bool lo]).past (.cells #[.int .i64 d, .int .i64 s, .int .i64 a, .bool f, .int .i64 v] 24)
  have X1 := Box.newAt (w := w.alloc (.cells #[.slice a1 n1 c1, .int .i64 p, .slice a2 n2 c2, .bool dn, .int .i64 mo, .int .i64 ba, .slice a3 n3 c3, .int .i64 op, .int .i64 oh, .int .i64 ot, .bool st, .int .i64 fe, .int .i64 fp, .int .i64 fh, .int .i64 ft, .bool lo] 39)) (n := w.heap.size + 1) (by simp) 24 #[.int .i64 d, .int .i64 s, .int .i64 a, .bool f, .int .i64 v]
  have BW : Hid (Below w.heap.size w _) := bel_alloc (bel_alloc (Below.refl w.heap.size w) (.cells #[.slice a1 n1 c1, .int .i64 p, .slice a2 n2 c2, .bool dn, .int .i64 mo, .int .i64 ba, .slice a3 n3 c3, .int .i64 op, .int .i64 oh, .int .i64 ot, .bool st, .int .i64 fe, .int .i64 fp, .int .i64 fh, .int .i64 ft, .bool lo] 39)) (.cells #[.int .i64 d, .int .i64 s, .int .i64 a, .bool f, .int .i64 v] 24)
  go_enter Try.func13, Try.ntmps13
  go_upto_region 1 with fail
  generalize ((w.alloc (.cells #[.slice a1 n1 c1, .int .i64 p, .slice a2 n2 c2, .bool dn, .int .i64 mo, .int .i64 ba, .slice a3 n3 c3, .int .i64 op, .int .i64 oh, .int .i64 ot, .bool st, .int .i64 fe, .int .i64 fp, .int .i64 fh, .int .i64 ft, .bool lo] 39)).alloc (.cells #[.int .i64 d, .int .i64 s, .int .i64 a, .bool f, .int .i64 v] 24)) = W at *
  obtain ⟨⟨q0, q1, q2, q3⟩, ⟨g0, g1, g2, g3, g4, g5, g6, g7, g8, g9, g10, g11⟩, s0⟩ := X0.sixteen
  obtain ⟨t0, t1, t2, t3, t4⟩ := X1.blk.five
  have s1 := X1.lt
  have hs8 : s.tdiv 8 = s / 8 := Int.tdiv_eq_ediv_of_nonneg k2.1
  have ha8 : a.tdiv 8 = a / 8 := Int.tdiv_eq_ediv_of_nonneg k3.1
  have k21 := k2.1
  have k22 := k2.2
  have k31 := k3.1
  have k32 := k3.2
  clear k1 k2 k3
  go_wp2_with fail
  refine (plain_at (H1.out.keep BW.out) (H3.out.keep BW.out) HE.out HR.out).mono ?_
  rintro e w2 ⟨rfl, b2⟩
  clear q0 q1 q2 q3 g0 g1 g2 g3 g4 g5 g6 g7 g8 g9 g10 g11 s0 t0 t1 t2 t3 t4
  have X1 := X1.keep b2
  obtain ⟨t0, t1, t2, t3, t4⟩ := X1.blk.five
  have s1 := X1.lt
  have B2 : Hid (Below w.heap.size w w2) := bel_trans BW.out b2
  clear b2 BW HE HR
  by_cases hq : q = 0
  · subst hq
    by_cases hk : k = a / 8
    · have : decide ((0 : Int) = 0 ∧ k = a / 8) = true := by simpa using hk
      have HF : Hid (_ = _) := (HV.out.trans this).symm
      clear this HV
      go_wp2_with fail
      go_ret
      exact ⟨ret_bool HF.out, B2.out⟩
    · have : decide ((0 : Int) = 0 ∧ k = a / 8) = false := by simpa using hk
      have kk : (k == a / 8) = false := by simpa using hk
      have HF : Hid (_ = _) := (HV.out.trans this).symm
      clear this HV
      go_wp2_with fail
      go_ret
      exact ⟨ret_bool HF.out, B2.out⟩
  · have : decide (q = 0 ∧ k = a / 8) = false := by simp [hq]
    have HF : Hid (_ = _) := (HV.out.trans this).symm
    clear this HV
    have qq : (q == 0) = false := by simpa using hq
    clear hq
    go_wp2_with fail
    go_ret
    exact ⟨ret_bool HF.out, B2.out⟩
theorem chkH_len {p : Int} {r : List Int} {d : Bool} (h : ¬ r.length = 8) : chkH ⟨p, r, d⟩ = 3 := if_neg h
theorem chkH_out {p : Int} {r : List Int} {d : Bool} (h : r.length = 8) (k : placeB p = false) : chkH ⟨p, r, d⟩ = 2 := by
  rw [chkH, if_pos h, if_neg (by rw [k]; decide)]
theorem chkH_bad {p : Int} {r : List Int} {d : Bool} (h : r.length = 8) (k : placeB p = true) {j : Nat} (hj : j < 8) (hw : wordB (nth r j) = false) : chkH ⟨p, r, d⟩ = 2 := by
  rw [chkH, if_pos h, if_pos k, if_neg]
  intro e
  rw [List.all_eq_true] at e
  have := e (nth r j) (by rw [nth, List.getD_eq_getElem?_getD, List.getElem?_eq_getElem (by omega)]; exact List.getElem_mem _)
  rw [hw] at this
  exact absurd this (by decide)
theorem chkH_all {p : Int} {r : List Int} {d : Bool} (h : r.length = 8) (k : placeB p = true) (hw : ∀ j, j < 8 → wordB (nth r j) = true) : chkH ⟨p, r, d⟩ = 0 := by
  rw [chkH, if_pos h, if_pos k, if_pos (all_words fun i hi => hw i (by omega))]
set_option maxHeartbeats 1000000 in
theorem hCheck_any (p : Int) (v : Value) (r : List Int) (d : Bool) (w : World) (h : Sl w v r) :
    Calls Try.prog 24 #[.agg #[.int .i64 p, v, .bool d]] w fun e w' => e = .returned (.int .i64 (chkH ⟨p, r, d⟩)) ∧ Below w.heap.size w w' := by
  obtain ⟨a, cap, rfl, hl, h⟩ := h
  unfold maxLen at hl
  by_cases hn : r.length = 8
  rotate_left
  · have hne : ((r.length : Int) != 8) = true := by simp; omega
    rw [chkH_len hn]
    clear hn h
    go_enter Try.func24, Try.ntmps24
    go_wp2
    go_ret
    exact ⟨rfl, bel_alloc (Below.refl _ _) _⟩
  rcases h with rfl | ⟨b, o, rfl, hb, hc⟩
  · simp at hn
  have HC : Hid (∀ i, i < 8 → w.cell? ⟨b, o + i, none⟩ = some (.int .i64 (nth r i))) := fun i hi => hc i (by omega)
  have HN : Hid (r.length = 8) := hn
  rw [hn]
  clear hc hl hn
  cases hp : placeB p
  · rw [chkH_out HN.out hp]
    have ho : p < 0 ∨ (0 ≤ p ∧ 512 ≤ p) := by simp [placeB] at hp; omega
    clear hp
    rcases ho with ho | ⟨ho, ho2⟩
    · go_enter Try.func24, Try.ntmps24
      go_wp2
      go_ret
      exact ⟨rfl, bel_alloc (Below.refl _ _) _⟩
    · have ho3 : ¬ p < 0 := by omega
      go_enter Try.func24, Try.ntmps24
      go_wp2
      go_ret
      exact ⟨rfl, bel_alloc (Below.refl _ _) _⟩
  have HP0 : Hid (placeB p = true) := hp
  have hpp : ¬ p < 0 ∧ ¬ 512 ≤ p := by simp [placeB] at hp; omega
  obtain ⟨hp1, hp2⟩ := hpp
  clear hp
  go_enter Try.func24, Try.ntmps24
  go_wp2
  go_loop [20] (fun i => ∃ k : Nat, k ≤ 8 ∧ i = .int .i64 k ∧ ∀ j, j < k → wordB (nth r j) = true) (fun i => 8 - (intOf i).toNat)
  case atStart => exact ⟨0, Nat.zero_le _, rfl, fun j hj => absurd hj (Nat.not_lt_zero _)⟩
  case round =>
    obtain ⟨k, hk, rfl, hpre⟩ := hrel
    have HP : Hid (∀ j, j < k → wordB (nth r j) = true) := hpre
    clear hpre
    by_cases hlt : k < 8
    · have g := HC.out k hlt
      have hlt1 : (k : Int) < 8 := by omega
      obtain ⟨z, hz⟩ : ∃ z, nth r k = z := ⟨_, rfl⟩
      rw [hz] at g
      have HZ : Hid (nth r k = z) := hz
      clear hz
      by_cases hq : wordB z = true
      · have hq2 : ¬ z < 0 ∧ ¬ 65535 < z := by simp [wordB] at hq; omega
        obtain ⟨q1, q2⟩ := hq2
        have HQ : Hid (wordB z = true) := hq
        clear hq
        go_wp2
        refine ⟨⟨k + 1, by omega, by go_num, fun j hj => ?_⟩, by simp [intOf]; omega⟩
        by_cases e : j = k
        · rw [e, HZ.out]; exact HQ.out
        · exact HP.out j (by omega)
      · have hq' : wordB z = false := by simpa using hq
        have HD : Hid (chkH ⟨p, r, d⟩ = 2) := chkH_bad HN.out HP0.out hlt (by rw [HZ.out]; exact hq')
        have hq2 : z < 0 ∨ (¬ z < 0 ∧ 65535 < z) := by simp [wordB] at hq'; omega
        clear hq hq'
        rcases hq2 with q1 | ⟨q1, q2⟩
        all_goals
          go_wp2
          go_ret
          exact ⟨ret_int HD.out.symm, bel_alloc (Below.refl _ _) _⟩
    · have HD : Hid (chkH ⟨p, r, d⟩ = 0) := chkH_all HN.out HP0.out fun j hj => HP.out j (by omega)
      have hge : ¬ (k : Int) < 8 := by omega
      go_wp2
      go_ret
      exact ⟨ret_int HD.out.symm, bel_alloc (Below.refl _ _) _⟩
def zeroRegs : Array Value := madeCells #[.int .i64 0] 8
def zero8 : List Int := List.replicate 8 0
theorem zeroRegs_list : zeroRegs.toList = zero8.map (fun z => Value.int .i64 z) := by
  unfold zeroRegs zero8
  rw [toList_madeCells_one, List.map_replicate]
theorem make8 (w : World) : (Instr.makeSlice 28 (.int .i64 8) (.int .i64 8)).run Try.prog w = .ok (.slice (some ⟨w.heap.size, 0, none⟩) 8 8) (w.alloc (.cells zeroRegs 3)) := by
  obtain ⟨i, hi, hz, hs, hb⟩ := infoInt
  have h := run_make (P := Try.prog) w 28 3 i _ Try.underlying28 hi hz .i64 .i64 8 8 (by decide) (by decide) (by rw [hb]; decide) (by decide)
  rw [hs] at h
  exact h
set_option maxRecDepth 10000 in
set_option maxHeartbeats 4000000 in
theorem mCheck_any (v : Value) (zs : List Int) (p : Int) (u : Value) (r : List Int) (d : Bool) (mo ba op oh ot fe fp fh ft : Int) (st lo : Bool) (vc : Value) (l : List Ln) (w : World) (hs : Sl w v zs) (hr : Sl w u r) (h : Ls w vc l) :
    Calls Try.prog 12 #[.agg #[v, .int .i64 p, u, .bool d, .int .i64 mo, .int .i64 ba, vc, .int .i64 op, .int .i64 oh, .int .i64 ot, .bool st, .int .i64 fe, .int .i64 fp, .int .i64 fh, .int .i64 ft, .bool lo]] w fun e w' => e = .returned (.int .i64 (chkM ⟨zs, ⟨p, r, d⟩, ⟨mo, ba, l, op, oh, ot, st, fe, fp, fh, ft, lo⟩⟩)) ∧ Below w.heap.size w w' := by
  have HM : Hid (Sl w v zs) := hs
  have HR : Hid (Sl w u r) := hr
  have HL : Hid (Ls w vc l) := h
  obtain ⟨a1, n1, c1, rfl⟩ : ∃ a k c, v = .slice a k c := let ⟨a, c, e, _⟩ := hs; ⟨a, _, c, e⟩
  obtain ⟨a2, n2, c2, rfl⟩ : ∃ a k c, u = .slice a k c := let ⟨a, c, e, _⟩ := hr; ⟨a, _, c, e⟩
  obtain ⟨ca, cc, rfl, -⟩ := h.shape
  obtain ⟨ck, hck⟩ : ∃ ck, ck = l.length := ⟨_, rfl⟩
  rw [← hck] at HL ⊢
  clear hs hr h hck
  have HT : Hid (chkM ⟨zs, ⟨p, r, d⟩, ⟨mo, ba, l, op, oh, ot, st, fe, fp, fh, ft, lo⟩⟩ = if chk zs = 0 then (if chkH ⟨p, r, d⟩ = 0 then chkB ⟨mo, ba, l, op, oh, ot, st, fe, fp, fh, ft, lo⟩ else chkH ⟨p, r, d⟩) else chk zs) := rfl
  have X0 := Box.newAt (w := w) (n := w.heap.size) rfl 39 #[.slice a1 n1 c1, .int .i64 p, .slice a2 n2 c2, .bool d, .int .i64 mo, .int .i64 ba, .slice ca ck cc, .int .i64 op, .int .i64 oh, .int .i64 ot, .bool st, .int .i64 fe, .int .i64 fp, .int .i64 fh, .int .i64 ft, .bool lo]
  have BW : Hid (Below w.heap.size w _) := bel_alloc (Below.refl w.heap.size w) (.cells #[.slice a1 n1 c1, .int .i64 p, .slice a2 n2 c2, .bool d, .int .i64 mo, .int .i64 ba, .slice ca ck cc, .int .i64 op, .int .i64 oh, .int .i64 ot, .bool st, .int .i64 fe, .int .i64 fp, .int .i64 fh, .int .i64 ft, .bool lo] 39)
  go_enter Try.func12, Try.ntmps12
  go_upto_region 1 with fail
  generalize (w.alloc (.cells #[.slice a1 n1 c1, .int .i64 p, .slice a2 n2 c2, .bool d, .int .i64 mo, .int .i64 ba, .slice ca ck cc, .int .i64 op, .int .i64 oh, .int .i64 ot, .bool st, .int .i64 fe, .int .i64 fp, .int .i64 fh, .int .i64 ft, .bool lo] 39)) = W at *
  obtain ⟨⟨q0, q1, q2, q3⟩, ⟨g0, g1, g2, g3, g4, g5, g6, g7, g8, g9, g10, g11⟩, s0⟩ := X0.sixteen
  go_wp2_with fail
  refine (check_any _ zs _ (HM.out.keep BW.out)).mono ?_
  rintro e w1 ⟨rfl, k1⟩
  have X0 := X0.keep k1
  have B1 : Hid (Below w.heap.size w w1) := bel_trans BW.out k1
  clear k1 BW
  clear q0 q1 q2 q3 g0 g1 g2 g3 g4 g5 g6 g7 g8 g9 g10 g11 s0
  obtain ⟨⟨q0, q1, q2, q3⟩, ⟨g0, g1, g2, g3, g4, g5, g6, g7, g8, g9, g10, g11⟩, s0⟩ := X0.sixteen
  obtain ⟨z1, hz1⟩ : ∃ z1, chk zs = z1 := ⟨_, rfl⟩
  rw [hz1] at HT ⊢
  clear hz1
  by_cases e1 : z1 = 0
  rotate_left
  · have q : (z1 != 0) = true := by simpa using e1
    have HF : Hid (chkM ⟨zs, ⟨p, r, d⟩, ⟨mo, ba, l, op, oh, ot, st, fe, fp, fh, ft, lo⟩⟩ = z1) := by show _ = _; rw [HT.out, if_neg e1]
    clear e1 HT
    go_wp2_with fail
    go_ret
    exact ⟨ret_int HF.out.symm, B1.out⟩
  subst e1
  rw [if_pos rfl] at HT
  go_wp2_with fail
  refine (hCheck_any p _ r d _ (HR.out.keep B1.out)).mono ?_
  rintro e w2 ⟨rfl, k2⟩
  have X0 := X0.keep k2
  have B2 : Hid (Below w.heap.size w w2) := bel_trans B1.out k2
  clear k2 B1
  clear q0 q1 q2 q3 g0 g1 g2 g3 g4 g5 g6 g7 g8 g9 g10 g11 s0
  obtain ⟨⟨q0, q1, q2, q3⟩, ⟨g0, g1, g2, g3, g4, g5, g6, g7, g8, g9, g10, g11⟩, s0⟩ := X0.sixteen
  obtain ⟨z2, hz2⟩ : ∃ z2, chkH ⟨p, r, d⟩ = z2 := ⟨_, rfl⟩
  rw [hz2] at HT ⊢
  clear hz2
  by_cases e2 : z2 = 0
  rotate_left
  · have q : (z2 != 0) = true := by simpa using e2
    have HF : Hid (chkM ⟨zs, ⟨p, r, d⟩, ⟨mo, ba, l, op, oh, ot, st, fe, fp, fh, ft, lo⟩⟩ = z2) := by show _ = _; rw [HT.out, if_neg e2]
    clear e2 HT
    go_wp2_with fail
    go_ret
    exact ⟨ret_int HF.out.symm, B2.out⟩
  subst e2
  rw [if_pos rfl] at HT
  go_wp2_with fail
  refine (bCheck_any mo ba op oh ot fe fp fh ft st lo _ l _ (HL.out.keep B2.out)).mono ?_
  rintro e w3 ⟨rfl, k3⟩
  rw [← HT.out]
  go_wp2_with fail
  go_ret
  exact ⟨rfl, bel_trans B2.out k3⟩
theorem mCheck_row {m : Mc} {cs : Array Value} {w : World} (hm : IsM w m cs) : Calls Try.prog 12 #[.agg cs] w fun e w' => e = .returned (.int .i64 (chkM m)) ∧ Below w.heap.size w w' := by
  obtain ⟨zs, ⟨p, r, d⟩, ⟨mo, ba, l, op, oh, ot, st, fe, fp, fh, ft, lo⟩⟩ := m
  obtain ⟨a1, n1, c1, a2, n2, c2, a3, n3, c3, rfl, h1, h2, h3⟩ := hm
  exact mCheck_any _ zs p _ r d mo ba op oh ot fe fp fh ft st lo _ l w h1 h2 h3
end Go.Proofs.Ythlhocneggcekaa
namespace Go.Proofs.Ythlhocneggcekaa
open Go Go.RowKit
section
variable {P : Program} {ops : Array Oper} {Q : Exit → Act → World → Prop} {md : Region.Mode} {S : World → Prop} {z : Nat}
def opL : List Oper → Nat → Option Oper
  | [], _ => none
  | o :: _, 0 => some o
  | _ :: l, n + 1 => opL l n
theorem opL_at : ∀ (l : List Oper) (i : Nat), opL l i = l[i]?
  | [], _ => rfl
  | _ :: _, 0 => rfl
  | _ :: l, n + 1 => by rw [opL, opL_at l n, List.getElem?_cons_succ]
theorem opL_spec {i : Nat} {o : Oper} (h : opL ops.toList i = some o) : ops[i]? = some o := by rw [← Array.getElem?_toList, ← opL_at]; exact h
theorem wpHeld_takeL {i : Nat} {oi : Oper} {v : Value} {n : Nat} {listed : Array Bool} {a : Act} {w : World} (hi : opL ops.toList i = some oi)
    (hs : Region.noSelect ops = true) (hf : Region.free md ops listed i = true) (hr : (Region.ready md ops listed).contains i = true)
    (hQ : ∀ c a w, Q (.panic c) (a.put oi.dst v) w → Q (.panic c) a w) (hy : YieldsIf P ops S oi v a) (hS : S w)
    (h : wpAnyH P md ops Q S n (listed.setIfInBounds i true) (a.put oi.dst v) w) : wpAnyH P md ops Q S (n + 1) listed a w := wpAnyH_take (opL_spec hi) hs hf hr hQ hy hS h
theorem wpHeld_oneL {i : Nat} {o : Oper} {n : Nat} {listed : Array Bool} {a : Act} {w : World} (hr : Region.ready md ops listed = [i]) (ho : opL ops.toList i = some o)
    (h : ∀ K' : Act → World → Prop, Shut (∀ a w, S w → (S w → wpAnyH P md ops Q S n (listed.setIfInBounds i true) a w) → K' a w) → if Region.wanted o (yielded ops a.tmps) = true then Oper.wp P o a w K' Q else K' (a.put o.dst undef) w) :
    wpAnyH P md ops Q S (n + 1) listed a w := wpAnyH_ready hr (by simp) (AllReadyH.cons (opL_spec ho) h AllReadyH.nil)
end
theorem Box.setRow {w : World} {n : Nat} {t : TypeId} {cs : Array Value} (h : Box w n t cs) (new : Array Value) : Box (w.setRow n new) n t new := setRow_heap w n cs new t _ h
theorem Box.otherRow {w : World} {n m : Nat} {t : TypeId} {cs : Array Value} (h : Box w n t cs) (hp : n ≠ m) (new : Array Value) : Box (w.setRow m new) n t cs := (setRow_other w m n new hp).trans h
theorem bel_setRow {a w : World} {n : Nat} (hp : a.heap.size ≤ n) (h : Below a.heap.size a w) (new : Array Value) : Below a.heap.size a (w.setRow n new) :=
  ⟨h.os, h.tape, h.output, by simpa [World.setRow] using h.size, fun k hk => (setRow_other w n k new (by omega)).trans (h.block k hk)⟩
theorem yields_off {ops : Array Oper} {S : World → Prop} {o : Oper} {a : Act} (hw : Region.wanted o (yielded ops a.tmps) = true) (ty : TypeId) (x : Operand) (ho : o.op = .load ty x) {n q : Nat} {cs : Array Value} (hx : a.eval x = .pointer (some ⟨n, q, none⟩)) (hS : ∀ w, S w → (loadVar ty ⟨n, q, none⟩).run Try.prog w = .ok (.agg cs) w) : YieldsIf Try.prog ops S o (.agg cs) a :=
  .inl ⟨hw, fun w hw' => by
    unfold execOp
    simp only [ho, hx, Instr.loadAt, Instr.sureAddr, Sem.run_bind, Sem.run_pure, Result.andThen_ok, hS w hw']⟩
theorem infoTc : (Try.prog.info? 24).map (·.size) = some 5 := by kernel_rfl
abbrev FairC (l : List Mc) (t : Tc) (w : World) (e : Ending) (w' : World) : Prop :=
  ∃ k : Int, e = .returned (.tuple #[.int .i64 k, .int .i64 (frE l t)]) ∧ (frE l t = 0 → IsLast l t k) ∧ (¬ frE l t = 0 → k = 0) ∧ Below w.heap.size w w'
theorem fairC_bad {l : List Mc} {t : Tc} {w w' : World} {z : Int} (h : frE l t = z) (hz : ¬ z = 0) (hb : Below w.heap.size w w') : FairC l t w (.returned (.tuple #[.int .i64 0, .int .i64 z])) w' :=
  ⟨0, by rw [h], fun h0 => absurd (h.symm.trans h0) hz, fun _ => rfl, hb⟩
theorem fairC_ok {l : List Mc} {t : Tc} {w w' : World} {k : Int} (h : frE l t = 0) (hk : IsLast l t k) (hb : Below w.heap.size w w') : FairC l t w (.returned (.tuple #[.int .i64 k, .int .i64 0])) w' :=
  ⟨k, by rw [h], fun _ => hk, fun h0 => absurd h h0, hb⟩
set_option maxRecDepth 10000 in
set_option maxHeartbeats 4000000 in
theorem fair_any {v : Value} {l : List Mc} {d s a : Int} {f : Bool} {x : Int} {w : World} (hl : Ms w v l) :
    Calls Try.prog 5 #[v, .agg #[.int .i64 d, .int .i64 s, .int .i64 a, .bool f, .int .i64 x]] w fun e w' => FairC l (d, s, a, f, x) w e w' := by
  have HL : Hid (Ms w v l) := hl
  obtain ⟨va, vk, rfl, hc1, hc2⟩ := hl.shape
  clear hl
  unfold maxLen at hc2
  by_cases hlen : l.length ≤ 121
  rotate_left
  · have HE : Hid (frE l (d, s, a, f, x) = 1) := by show _ = _; rw [frE, if_neg hlen]
    have q : (121 : Int) < l.length := by omega
    clear hlen hc1 hc2
    go_enter Try.func5, Try.ntmps5
    go_wp2
    go_ret2
    exact fairC_bad HE.out (by decide) (bel_alloc (Below.refl _ _) _)
  have q : ¬ (121 : Int) < l.length := by omega
  have HN : Hid (l.length ≤ 121) := hlen
  clear hlen hc1 hc2
  have X1 := Box.newAt (w := w) (n := w.heap.size) rfl 24 #[.int .i64 d, .int .i64 s, .int .i64 a, .bool f, .int .i64 x]
  have BW : Hid (Below w.heap.size w (w.alloc (.cells #[.int .i64 d, .int .i64 s, .int .i64 a, .bool f, .int .i64 x] 24))) := bel_alloc (Below.refl w.heap.size w) _
  go_enter Try.func5, Try.ntmps5
  go_upto_region 1 with fail
  generalize (w.alloc (.cells #[.int .i64 d, .int .i64 s, .int .i64 a, .bool f, .int .i64 x] 24)) = W at *
  have XW := X1
  go_wp2
  go_loopw [7, 8, 16] (fun _ _ s wx => ∃ i : Nat, s = .int .i64 i ∧ i ≤ l.length ∧ (∀ j, j < i → chkM (mth l j) = 0) ∧ Below W.heap.size W wx) (fun _ _ s _ => l.length - (intOf s).toNat)
  case atStart => exact ⟨0, rfl, Nat.zero_le _, fun j hj => absurd hj (Nat.not_lt_zero _), Below.refl _ _⟩
  case round =>
    obtain ⟨i, rfl, hi, hpre, hb⟩ := hrel
    have HP : Hid (∀ j, j < i → chkM (mth l j) = 0) := hpre
    have HB : Hid (Below W.heap.size W wr) := hb
    have X1 := X1.keep hb
    clear hpre hb
    have i121 : i ≤ 121 := by have := HN.out; omega
    by_cases hlt : i < l.length
    · have hlt1 : (i : Int) < l.length := by omega
      obtain ⟨b, o, cs, hva, hbl, hM, hA⟩ := HL.out.at (bel_trans BW.out HB.out) hlt
      subst hva
      obtain ⟨hs, ha⟩ := hM.size
      have HI : (Try.prog.info? 39).map (·.size) = some cs.size := by rw [infoM, hs]
      obtain ⟨n7, hn7⟩ : ∃ n, wr.heap.size = n := ⟨_, rfl⟩
      have Z7 : Box (wr.alloc (.cells #[.slice none 0 0, .int .i64 0, .slice none 0 0, .bool false, .int .i64 0, .int .i64 0, .slice none 0 0, .int .i64 0, .int .i64 0, .int .i64 0, .bool false, .int .i64 0, .int .i64 0, .int .i64 0, .int .i64 0, .bool false] 39)) n7 39 #[.slice none 0 0, .int .i64 0, .slice none 0 0, .bool false, .int .i64 0, .int .i64 0, .slice none 0 0, .int .i64 0, .int .i64 0, .int .i64 0, .bool false, .int .i64 0, .int .i64 0, .int .i64 0, .int .i64 0, .bool false] := Box.newAt hn7.symm _ _
      have X7 := Z7.setRow cs
      have BX : Hid (Below wr.heap.size wr ((wr.alloc (.cells #[.slice none 0 0, .int .i64 0, .slice none 0 0, .bool false, .int .i64 0, .int .i64 0, .slice none 0 0, .int .i64 0, .int .i64 0, .int .i64 0, .bool false, .int .i64 0, .int .i64 0, .int .i64 0, .int .i64 0, .bool false] 39)).setRow n7 cs)) := bel_setRow (by omega) (bel_alloc (Below.refl _ _) _) _
      have HMM : Hid (IsM wr (mth l i) cs) := hM
      clear hM
      go_wp2_with (first
        | fail
        | (refine wpList_load_off rfl 39 (.tmp 18) rfl b (o + i * 16) rfl cs _ hA Try.underlying39 rfl HI ?_)
        | (refine wpList_store_row rfl 39 (.tmp 7) (.tmp 19) rfl n7 cs rfl rfl _ _ Z7 HI (by rw [hs]; rfl) ha ?_)
        | (refine wpList_load_row rfl 39 (.tmp 7) rfl n7 rfl _ _ _ _ X7 Try.underlying39 rfl HI ?_))
      refine (mCheck_row (HMM.out.keep BX.out)).mono ?_
      rintro e w3 ⟨rfl, b3⟩
      have B3 : Hid (Below W.heap.size W w3) := bel_trans HB.out (bel_trans BX.out b3)
      clear b3 BX X7 Z7 hA HI
      obtain ⟨z, hz⟩ : ∃ z, chkM (mth l i) = z := ⟨_, rfl⟩
      have HZ : Hid (chkM (mth l i) = z) := hz
      rw [hz]
      clear hz
      by_cases h0 : z = 0
      · subst h0
        have q0 : ((0 : Int) != 0) = false := rfl
        go_wp2_with fail
        refine ⟨⟨i + 1, by go_num, by omega, fun j hj => ?_, B3.out⟩, by simp [intOf]; omega⟩
        by_cases e : j = i
        · rw [e]; exact HZ.out
        · exact HP.out j (by omega)
      · have q0 : (z != 0) = true := by simpa using h0
        have HE : Hid (frE l (d, s, a, f, x) = z) := by
          have hb := mcE_bad HP.out hlt (by rw [HZ.out]; exact h0)
          rw [HZ.out] at hb
          show _ = _
          rw [frE, if_pos HN.out, if_neg (by rw [hb]; exact h0), hb]
        have HZ0 : Hid (¬ z = 0) := h0
        clear h0
        go_wp2_with fail
        go_ret2
        exact fairC_bad HE.out HZ0.out (bel_trans BW.out B3.out)
    · obtain rfl : i = l.length := by omega
      have hnl : ¬ (l.length : Int) < l.length := by omega
      have HMC : Hid (mcE l = 0) := mcE_mk HP.out
      clear hlt HP
      obtain ⟨t0, t1, t2, t3, t4⟩ := X1.blk.five
      have s1 := X1.lt
      go_wp2_with fail
      refine (aCheck_any d s a f x _).mono ?_
      rintro e w3 ⟨rfl, b3⟩
      have X1 := X1.keep b3
      have B3 : Hid (Below W.heap.size W w3) := bel_trans HB.out b3
      clear b3 t0 t1 t2 t3 t4 s1 HB
      obtain ⟨z, hz⟩ : ∃ z, ckT (d, s, a, f, x) = z := ⟨_, rfl⟩
      have HT : Hid (ckT (d, s, a, f, x) = z) := hz
      have HE : Hid (frE l (d, s, a, f, x) = z) := by show _ = _; rw [frE, if_pos HN.out, if_pos HMC.out, hz]
      rw [hz]
      clear hz
      by_cases h0 : z = 0
      rotate_left
      · have q0 : (z != 0) = true := by simpa using h0
        have HZ0 : Hid (¬ z = 0) := h0
        clear h0
        go_wp2_with fail
        go_ret2
        exact fairC_bad HE.out HZ0.out (bel_trans BW.out B3.out)
      subst h0
      have q0 : ((0 : Int) != 0) = false := rfl
      go_wp2_with fail
      go_loopw [10] (fun s2 wx => ∃ k : Int, s2 = .int .i64 k ∧ (-1 ≤ k ∧ k < l.length) ∧ (∀ j : Nat, k < j → j < l.length → lets (mth l j) (d, s, a, f, x) = false) ∧ Below W.heap.size W wx) (fun s2 _ => (intOf s2 + 1).toNat)
      case atStart => exact ⟨(l.length : Int) - 1, by go_num, by omega, fun j h1 h2 => absurd h1 (by omega), B3.out⟩
      case round =>
        obtain ⟨k, rfl, ⟨hk1, hk2⟩, hpre, hb⟩ := hrel
        have HP : Hid (∀ j : Nat, k < j → j < l.length → lets (mth l j) (d, s, a, f, x) = false) := hpre
        have HB : Hid (Below W.heap.size W wr) := hb
        clear hpre hb
        by_cases hk0 : 0 ≤ k
        rotate_left
        · obtain rfl : k = -1 := by omega
          have HF : Hid (IsLast l (d, s, a, f, x) (-1)) := ⟨by omega, fun h => absurd h (by decide), HP.out⟩
          clear hk0 hk1 hk2 HP
          go_wp2_with fail
          go_ret2
          exact fairC_ok HE.out HF.out (bel_trans BW.out HB.out)
        obtain ⟨n, rfl⟩ : ∃ n : Nat, k = n := ⟨k.toNat, by omega⟩
        have hn : n < l.length := by omega
        obtain ⟨b, o, cs, hva, hbl, hM, hA⟩ := HL.out.at (bel_trans BW.out HB.out) hn
        subst hva
        obtain ⟨hs, ha⟩ := hM.size
        have hlt1 : (n : Int) < l.length := by omega
        have hge1 : (0 : Int) ≤ n := by omega
        have X1 := XW.keep HB.out
        have HI : (Try.prog.info? 39).map (·.size) = some cs.size := by rw [infoM, hs]
        have n121 : n ≤ 121 := by have := HN.out; omega
        go_upto_region 16 with fail
        refine wp_region_held_drew (S := fun w' => Below wr.heap.size wr w') (by kernel_rfl) (Below.drew (Below.refl _ _)) (fun hHeld => ?_)
        refine wpHeld_takeL (i := 0) (v := ?_) rfl (by kernel_rfl) (by kernel_rfl) (by kernel_rfl) (fun _ _ _ h => h) (Or.inl ⟨by kernel_rfl, ?_⟩) (by assumption) ?_
        rotate_left 1
        focus (intro wz hSz; (try dsimp only at hSz); go_simp; (try with_reducible rfl))
        simp only [Act.put, List.setIfInBounds_toArray, List.set_cons_zero, List.set_cons_succ]
        refine wpHeld_takeL (i := 1) (v := ?_) rfl (by kernel_rfl) (by kernel_rfl) (by kernel_rfl) (fun _ _ _ h => h) (Or.inl ⟨by kernel_rfl, ?_⟩) (by assumption) ?_
        rotate_left 1
        focus (intro wz hSz; (try dsimp only at hSz); go_simp; (try with_reducible rfl))
        simp only [Act.put, List.setIfInBounds_toArray, List.set_cons_zero, List.set_cons_succ]
        refine wpHeld_takeL (i := 2) (v := ?_) rfl (by kernel_rfl) (by kernel_rfl) (by kernel_rfl) (fun _ _ _ h => h) (Or.inl ⟨by kernel_rfl, ?_⟩) (by assumption) ?_
        rotate_left 1
        focus (intro wz hSz; (try dsimp only at hSz); go_simp; (try with_reducible rfl))
        simp only [Act.put, List.setIfInBounds_toArray, List.set_cons_zero, List.set_cons_succ]
        refine wpHeld_takeL (i := 3) (v := .agg cs) rfl (by kernel_rfl) (by kernel_rfl) (by kernel_rfl) (fun _ _ _ h => h) (yields_off (by kernel_rfl) 39 (.tmp 40) rfl rfl (fun wz hSz => run_loadVar_off wz b (o + n * 16) _ cs _ (hA.keep hSz hbl) Try.underlying39 rfl HI)) (by assumption) ?_
        simp only [Act.put, List.setIfInBounds_toArray, List.set_cons_zero, List.set_cons_succ]
        refine wpHeld_takeL (i := 4) (v := .agg #[.int .i64 d, .int .i64 s, .int .i64 a, .bool f, .int .i64 x]) rfl (by kernel_rfl) (by kernel_rfl) (by kernel_rfl) (fun _ _ _ h => h) (yields_row (by kernel_rfl) 24 (.tmp 3) rfl rfl (fun wz hSz => run_loadVar_row wz _ _ _ _ _ _ (X1.keep hSz) Try.underlying24 rfl (by rw [infoTc]; rfl))) (by assumption) ?_
        simp only [Act.put, List.setIfInBounds_toArray, List.set_cons_zero, List.set_cons_succ]
        refine wpHeld_oneL (i := 5) (by kernel_rfl) (by rfl) (fun K hK => ?_)
        go_simp
        refine (lets_row (hM.keep hHeld) (mcE_zero HMC.out n hn) HT.out).mono ?_
        rintro e w5 ⟨rfl, b5⟩
        obtain ⟨y, hy⟩ : ∃ y, lets (mth l n) (d, s, a, f, x) = y := ⟨_, rfl⟩
        have HY : Hid (lets (mth l n) (d, s, a, f, x) = y) := hy
        rw [hy]
        clear hy
        go_wp2_with fail
        refine hK.out _ _ (bel_trans hHeld b5) (fun hHeld2 => ?_)
        clear hK K hHeld b5
        refine wpAnyH_done (by kernel_rfl) ?_ _
        have B5 : Hid (Below W.heap.size W w5) := bel_trans HB.out hHeld2
        clear hHeld2 hM hA X1 HI
        cases y with
        | true =>
          go_wp2_with fail
          go_ret2
          exact fairC_ok HE.out ⟨by omega, fun _ => HY.out, HP.out⟩ (bel_trans BW.out B5.out)
        | false =>
          go_wp2_with fail
          refine ⟨⟨(n : Int) - 1, by go_num, by omega, fun j h1 h2 => ?_, B5.out⟩, by simp [intOf]⟩
          by_cases e : j = n
          · rw [e]; exact HY.out
          · exact HP.out j (by omega) h2
theorem Box.marksOf {w : World} {n : Nat} {t : TypeId} {cs : Array Value} (h : Box w n t cs) : ∀ i, w.frozen? ⟨n, i, none⟩ = false := fun i => h.frozen i
section
open Go
variable {P : Program} {ops : Array Oper} {Q : Exit → Act → World → Prop} {md : Region.Mode} {S : World → Prop}
theorem wpHeld_twoL {i j : Nat} {o o2 : Oper} {n : Nat} {listed : Array Bool} {a : Act} {w : World} (hr : Region.ready md ops listed = [i, j]) (ho : opL ops.toList i = some o) (ho2 : opL ops.toList j = some o2)
    (h : ∀ K' : Act → World → Prop, Shut (∀ a w, S w → (S w → wpAnyH P md ops Q S n (listed.setIfInBounds i true) a w) → K' a w) → if Region.wanted o (yielded ops a.tmps) = true then Oper.wp P o a w K' Q else K' (a.put o.dst undef) w)
    (h2 : ∀ K' : Act → World → Prop, Shut (∀ a w, S w → (S w → wpAnyH P md ops Q S n (listed.setIfInBounds j true) a w) → K' a w) → if Region.wanted o2 (yielded ops a.tmps) = true then Oper.wp P o2 a w K' Q else K' (a.put o2.dst undef) w) :
    wpAnyH P md ops Q S (n + 1) listed a w := wpAnyH_ready hr (by simp) (AllReadyH.cons (opL_spec ho) h (AllReadyH.cons (opL_spec ho2) h2 AllReadyH.nil))
end
theorem step_store_row {w : World} {ops : Array Oper} {o : Oper} {a : Act} {K : Act → World → Prop} {Q : Exit → Act → World → Prop} {E : Prop} (hgd : o.guard = none) (ty : TypeId) (x y : Operand) (ho : o.op = .store ty x y)
    (g : Nat) (cells : Array Value) (hx : a.eval x = .pointer (some ⟨g, 0, none⟩)) (hy : a.eval y = .agg cells) (t : TypeId) (old : Array Value) (hg : Box w g t old) (hi : (Try.prog.info? ty).map (·.size) = some cells.size)
    (hold : old.size = cells.size) (h1 : cells.all (·.oneCell') = true) (h : K (a.put o.dst undef) (w.setRow g cells)) :
    if Region.wanted o (yielded ops a.tmps) = true then Oper.wp Try.prog o a w K Q else E := by
  have hw : Region.wanted o (yielded ops a.tmps) = true := by simp [Region.wanted, hgd]
  rw [if_pos hw]
  exact wp_store_row ty x y ho g cells hx hy t old hg hi hold h1 h
section
open Go
variable {P : Program} {ops : Array Oper} {Q : Exit → Act → World → Prop} {md : Region.Mode} {S : World → Prop}
end
end Go.Proofs.Ythlhocneggcekaa
