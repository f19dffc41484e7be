/-
  Laid together: CheckCR, DBackWalk, Open0, Open, OpenO, OpenL, OpenR, OpenB, OpenI.
-/
import Derived.Test.YtefcdcneenjbgabT13
import Derived.ProofKit
import Derived.OpenShut
import Derived.ShutString
import Derived.ChangeOld
import Derived.Deep.Slices
/-
  drawbridgeref's CheckCache: the first thing that is wrong with lines; nothing that was there turns.
-/
namespace Go.Proofs.Ytefcdcneenjbgab
open Go.RowKit

/-- The number that a line is seen by. -/
def keyN (x : Ln) : Int := x.1 * 64 + x.2.1
def seenN (l : List Ln) (k : Nat) : List Int := ((l.take k).map keyN).reverse
theorem seenN_zero (l : List Ln) : seenN l 0 = [] := by simp [seenN]
theorem seenN_next {l : List Ln} {k : Nat} (h : k < l.length) : seenN l (k + 1) = keyN (lth l k) :: seenN l k := by
  unfold seenN
  rw [List.take_succ_eq_append_getElem h, List.map_append, List.reverse_append, lth_get h]
  rfl
theorem rng_of {x : Ln} (h : rngB x = true) : (0 ≤ x.1 ∧ x.1 < 8) ∧ (0 ≤ x.2.1 ∧ x.2.1 < 64) := by
  simp [rngB] at h; exact ⟨by omega, by omega⟩
theorem key_same {x y : Ln} (hx : rngB x = true) (hy : rngB y = true) : keyB x y = true ↔ keyN x = keyN y := by
  obtain ⟨a1, a2⟩ := rng_of hx
  obtain ⟨b1, b2⟩ := rng_of hy
  unfold keyB keyN
  simp only [Bool.and_eq_true, decide_eq_true_eq]
  constructor
  · rintro ⟨e1, e2⟩; rw [e1, e2]
  · intro e; constructor <;> omega
/-- Whether the number was seen is whether the line was found. -/
theorem seen_find {l : List Ln} {k : Nat} (hk : k < l.length) (h : ∀ j, j < k → errL l j = 0) (hr : rngB (lth l k) = true) : keyN (lth l k) ∈ seenN l k ↔ 0 ≤ fndC (l.take k) (lth l k).1 (lth l k).2.1 := by
  rw [← any_find, List.any_eq_true]
  unfold seenN
  rw [List.mem_reverse, List.mem_map]
  constructor
  · rintro ⟨y, hy, e⟩
    refine ⟨y, hy, ?_⟩
    obtain ⟨j, hj, rfl⟩ := List.getElem_of_mem hy
    have hj' : j < k := by simp at hj; omega
    have hz := (errL_zero.1 (h j hj')).1
    rw [lth_get (by omega)] at hz
    rw [List.getElem_take] at e ⊢
    exact (key_same hr hz).2 e.symm
  · rintro ⟨y, hy, e⟩
    refine ⟨y, hy, ?_⟩
    obtain ⟨j, hj, rfl⟩ := List.getElem_of_mem hy
    have hj' : j < k := by simp at hj; omega
    have hz := (errL_zero.1 (h j hj')).1
    rw [lth_get (by omega)] at hz
    rw [List.getElem_take] at e ⊢
    exact ((key_same hr hz).1 e).symm

set_option maxHeartbeats 1000000 in
theorem checkCache_any (v : Value) (l : List Ln) (w : World) (h : Ls w v l) :
    Calls Try.prog 64 #[v] w fun e w' => e = .returned (.int .i64 (chkC l)) ∧ Below w.heap.size w w' := by
  have hmm := @run_makeMap Try.prog
  have HL : Hid (Ls w v l) := h
  obtain ⟨a, cap, rfl, hl, hm, h⟩ := h
  unfold maxLen at hm
  by_cases h6 : 6 < l.length
  · have e6 : chkC l = 1 := chkC_many h6
    rw [e6]
    have h6' : (6 : Int) < l.length := by omega
    go_enter Try.func64, Try.ntmps64
    go_wp2
    go_ret
    exact ⟨rfl, Below.refl _ _⟩
  have h6' : ¬ (6 : Int) < l.length := by omega
  have hmz : (l.length : Int) ≤ 6 := by omega
  rcases h with rfl | ⟨b, o, rfl, hb, hc⟩
  · go_enter Try.func64, Try.ntmps64
    go_wp2
    go_loopw [5, 12] (fun _ i w' => i = .int .i64 0 ∧ Below w.heap.size w w') (fun _ i _ => 0)
    case atStart => exact ⟨rfl, bel_alloc (Below.refl _ _) _⟩
    case round =>
      obtain ⟨rfl, hB⟩ := hrel
      go_wp2
      go_ret
      exact ⟨ret_int (chkC_all h6 (fun j hj => absurd hj (Nat.not_lt_zero _))).symm, hB⟩
  · have HC : Hid _ := hc
    clear hc
    go_enter Try.func64, Try.ntmps64
    go_wp2
    go_loopw [5, 12] (fun _ i w' => ∃ k : Nat, k ≤ l.length ∧ i = .int .i64 k ∧ (∀ j, j < k → errL l j = 0) ∧ Seen w' w.heap.size k (seenN l k) ∧ Below w.heap.size w w') (fun _ i _ => l.length - (intOf i).toNat)
    case atStart => exact ⟨0, Nat.zero_le _, rfl, fun j hj => absurd hj (Nat.not_lt_zero _), by rw [seenN_zero]; exact Seen.new w, bel_alloc (Below.refl _ _) _⟩
    case round =>
      obtain ⟨k, hk, rfl, hpre, hS, hB⟩ := hrel
      have HP : Hid _ := hpre
      have HB : Hid _ := hB
      by_cases hlt : k < l.length
      · obtain ⟨g0, g1, g2, g3, g4⟩ := (HC.out k hlt).keep hB hb
        have hb' : b < wr.heap.size := Nat.lt_of_lt_of_le hb hB.size
        obtain ⟨y, hy⟩ : ∃ y, y = lth l k := ⟨_, rfl⟩
        have HY : Hid _ := hy
        rw [← hy] at g0 g1 g2 g3 g4
        clear hy hpre hB
        obtain ⟨d1, p1, a1, r1, x1⟩ := y
        simp only at g0 g1 g2 g3 g4
        have hlt1 : (k : Int) < l.length := by omega
        have hk6 : k < 1000 := by omega
        have hsz : w.heap.size < wr.heap.size := hS.lt
        have HS : Hid _ := hS
        clear hS
        have HW : Hid (own (d1, p1, a1, r1, x1) = if (devB d1 && pgB p1 && pgB a1) = true then (if r1 = true then 0 else 3) else 2) := rfl
        by_cases ho : own (d1, p1, a1, r1, x1) = 0
        rotate_left
        · have HE : Hid (chkC l = own (d1, p1, a1, r1, x1)) := chkC_at h6 hlt HP.out (by have := errL_own (l := l) (k := k) (by rw [← HY.out]; exact ho); rw [this, ← HY.out]) ho
          cases e1 : devB d1
          · have H2 : Hid (chkC l = 2) := by show _ = _; rw [HE.out, HW.out, e1]; rfl
            go_wp2_with (first | (go_at_call 58; refine (cIn_any _ _ _ _).mono ?_; rintro e w1 ⟨rfl, rfl⟩; first | rw [in_dev, e1] | rw [in_page]))
            go_ret
            exact ⟨ret_int H2.out.symm, bel_alloc HB.out _⟩
          cases e2 : pgB p1
          · have H2 : Hid (chkC l = 2) := by show _ = _; rw [HE.out, HW.out, e1, e2]; rfl
            go_wp2_with (first | (go_at_call 58; refine (cIn_any _ _ _ _).mono ?_; rintro e w1 ⟨rfl, rfl⟩; first | rw [in_dev, e1] | rw [in_page, e2]))
            go_ret
            exact ⟨ret_int H2.out.symm, bel_alloc HB.out _⟩
          cases e3 : pgB a1
          · have H2 : Hid (chkC l = 2) := by show _ = _; rw [HE.out, HW.out, e1, e2, e3]; rfl
            go_wp2_with (first | (go_at_call 58; refine (cIn_any _ _ _ _).mono ?_; rintro e w1 ⟨rfl, rfl⟩; first | rw [in_dev, e1] | rw [in_page, e2] | rw [in_page, e3]))
            go_ret
            exact ⟨ret_int H2.out.symm, bel_alloc HB.out _⟩
          cases r1
          rotate_left
          · exact absurd (by rw [HW.out, e1, e2, e3]; rfl) ho
          have H2 : Hid (chkC l = 3) := by show _ = _; rw [HE.out, HW.out, e1, e2, e3]; rfl
          go_wp2_with (first | (go_at_call 58; refine (cIn_any _ _ _ _).mono ?_; rintro e w1 ⟨rfl, rfl⟩; first | rw [in_dev, e1] | rw [in_page, e2] | rw [in_page, e3]))
          go_ret
          exact ⟨ret_int H2.out.symm, bel_alloc HB.out _⟩
        have hw := HW.out
        rw [ho] at hw
        have e1 : devB d1 = true := by cases e : devB d1; (· rw [e] at hw; simp at hw); rfl
        have e2 : pgB p1 = true := by cases e : pgB p1; (· rw [e] at hw; simp at hw); rfl
        have e3 : pgB a1 = true := by cases e : pgB a1; (· rw [e] at hw; simp at hw); rfl
        have e4 : r1 = true := by rw [e1, e2, e3] at hw; cases r1; (· simp at hw); rfl
        subst e4
        clear hw HW
        have hd : 0 ≤ d1 ∧ d1 < 8 := by simpa [devB] using e1
        have hp : 0 ≤ p1 ∧ p1 < 64 := by simpa [pgB] using e2
        obtain ⟨hd0, hd1⟩ := hd
        obtain ⟨hp0, hp1⟩ := hp
        have HR : Hid (rngB (lth l k) = true) := by show _ = _; rw [← HY.out, rng_split, e1, e2, e3]; rfl
        have HS1 : ∀ ob, Seen (wr.alloc ob) w.heap.size k (seenN l k) := fun ob => Seen.keep HS.out (bel_alloc (Below.refl _ _) _)
        have HS2 : Hid _ := HS1
        clear HS1
        have HN : Hid (keyN (lth l k) = d1 * 64 + p1) := by show _ = _; rw [← HY.out]; rfl
        by_cases hin : d1 * 64 + p1 ∈ seenN l k
        · have HE : Hid (chkC l = 5) := chkC_at h6 hlt HP.out (errL_twice (by rw [← HY.out]; exact ho) ((seen_find hlt HP.out HR.out).1 (by rw [HN.out]; exact hin))) (by decide)
          go_wp2_with (first | (go_at_call 58; refine (cIn_any _ _ _ _).mono ?_; rintro e w1 ⟨rfl, rfl⟩; first | rw [in_dev, e1] | rw [in_page, e2] | rw [in_page, e3]) | (at_lookup; refine wpList_seen rfl _ _ rfl w.heap.size k (seenN l k) rfl (HS2.out _) (d1 * 64 + p1) (by first | rfl | simp) (by omega) (by omega) ?_; rw [decide_eq_true hin]))
          go_ret
          exact ⟨ret_int HE.out.symm, bel_alloc HB.out _⟩
        · have HE : Hid (errL l k = 0) := errL_fine (by rw [← HY.out]; exact ho) (fun hf => hin (by rw [← HN.out]; exact (seen_find hlt HP.out HR.out).2 hf))
          have HQ : Hid (seenN l (k + 1) = (d1 * 64 + p1) :: seenN l k) := by show _ = _; rw [seenN_next hlt, HN.out]
          go_wp2_with (first | (go_at_call 58; refine (cIn_any _ _ _ _).mono ?_; rintro e w1 ⟨rfl, rfl⟩; first | rw [in_dev, e1] | rw [in_page, e2] | rw [in_page, e3]) | (at_lookup; refine wpList_seen rfl _ _ rfl w.heap.size k (seenN l k) rfl (HS2.out _) (d1 * 64 + p1) (by first | rfl | simp) (by omega) (by omega) ?_; rw [decide_eq_false hin]) | (at_mapUpdate; refine wpList_see rfl _ _ _ rfl w.heap.size k (seenN l k) rfl (HS2.out _) (d1 * 64 + p1) (by first | rfl | simp) rfl (by omega) (by omega) hk6 ?_; intro w1 hs1 hgr1))
          exact ⟨⟨k + 1, by omega, by go_num, upto_next HP.out HE.out, by rw [HQ.out]; exact hs1, (bel_alloc HB.out _).grown hgr1 (by simp; omega) (fun j hj => by cases hj; exact Nat.le_refl _)⟩, by simp [intOf]; omega⟩
      · have HF : Hid (chkC l = 0) := chkC_all h6 fun j hj => HP.out j (by omega)
        clear hpre hB hS
        go_wp2
        go_ret
        exact ⟨ret_int HF.out.symm, HB.out⟩
end Go.Proofs.Ytefcdcneenjbgab
/-
  The walk of DmaBack.
-/
namespace Go.Proofs.Ytefcdcneenjbgab
open Go.RowKit

/-- The places of the first touches. -/
def seenT (tch : List Tc) : Nat → List Int
  | 0 => []
  | k + 1 => (tth tch k).2.2.1 :: seenT tch k
theorem seenT_mem {tch : List Tc} {z : Int} : ∀ {k : Nat}, z ∈ seenT tch k ↔ ∃ j, j < k ∧ (tth tch j).2.2.1 = z
  | 0 => by simp [seenT]
  | k + 1 => by
    rw [seenT, List.mem_cons, seenT_mem]
    constructor
    · rintro (h | ⟨j, hj, h⟩)
      · exact ⟨k, by omega, h.symm⟩
      · exact ⟨j, by omega, h⟩
    · rintro ⟨j, hj, h⟩
      by_cases e : j = k
      · subst e; exact .inl h.symm
      · exact .inr ⟨j, by omega, h⟩

set_option maxRecDepth 10000 in
set_option maxHeartbeats 8000000 in
theorem dmaBack_walk (v : Value) (zs : List Int) (mo ba op oh ot fe fp fh ft : Int) (st lo : Bool) (vc : Value) (l : List Ln) (d a n : Int) (fw : Bool) (u : Value) (ds : List Int) (w : World) (hs : Sl w v zs) (h : Ls w vc l) (hd : Sl w u ds) :
    Calls Try.prog 14 #[.agg #[v], .agg #[.int .i64 mo, .int .i64 ba, vc, .int .i64 op, .int .i64 oh, .int .i64 ot, .bool st, .int .i64 fe, .int .i64 fp, .int .i64 fh, .int .i64 ft, .bool lo], .agg #[.int .i64 d, .int .i64 a, .int .i64 n, .bool fw, u]] w fun e w' => e = .returned (.bool true) ∧ Below w.heap.size w w' := by
  have HS : Hid (Ls w vc l) := h
  obtain ⟨va, vk, rfl, -⟩ := h.shape
  have HM : Hid (Sl w v zs) := hs
  obtain ⟨ma, mc, rfl⟩ := hs.shape
  have HD : Hid (Sl w u ds) := hd
  obtain ⟨da, dc, rfl⟩ := hd.shape
  clear h hs hd
  obtain ⟨E, hE⟩ : ∃ E, doE zs ⟨mo, ba, l, op, oh, ot, st, fe, fp, fh, ft, lo⟩ d a n true ds = E := ⟨_, rfl⟩
  obtain ⟨⟨⟨ms, ⟨mo1, ba1, l1, op1, oh1, ot1, st1, fe1, fp1, fh1, ft1, lo1⟩, dat, tch⟩, f⟩, hR⟩ : ∃ R, doR zs ⟨mo, ba, l, op, oh, ot, st, fe, fp, fh, ft, lo⟩ d a n true ds = R := ⟨_, rfl⟩
  obtain ⟨dn, hdn⟩ : ∃ dn, (decide (E = 0) && decide (f = 0)) = dn := ⟨_, rfl⟩
  have HE : Hid (_ = E) := hE
  have HR : Hid (_ = _) := hR
  have HDN : Hid (_ = dn) := hdn
  clear hE hR hdn
  have B0 : Hid (Below w.heap.size w _) := bel_alloc (bel_alloc (bel_alloc (Below.refl w.heap.size w) (.cells #[.slice ma zs.length mc] 39)) (.cells #[.int .i64 mo, .int .i64 ba, .slice va l.length vk, .int .i64 op, .int .i64 oh, .int .i64 ot, .bool st, .int .i64 fe, .int .i64 fp, .int .i64 fh, .int .i64 ft, .bool lo] 44)) (.cells #[.int .i64 d, .int .i64 a, .int .i64 n, .bool true, .slice da ds.length dc] 79)
  go_enter Try.func14, Try.ntmps14
  go_wp2_with fail
  refine (do_at (HM.out.keep B0.out) (HS.out.keep B0.out) (HD.out.keep B0.out) HE.out HR.out HDN.out).mono ?_
  rintro e w2 ⟨ma1, mc1, va1, vk1, da1, dc1, ta1, tc1, rfl, hS2, hL2, hD2, hT2, b2, -, -, -, -⟩
  have X0 := (((Box.newAt (n := w.heap.size) rfl 39 #[.slice ma zs.length mc]).past _).past _).keep b2
  have X1 := ((Box.newAt (n := w.heap.size + 1) (by simp) 44 #[.int .i64 mo, .int .i64 ba, .slice va l.length vk, .int .i64 op, .int .i64 oh, .int .i64 ot, .bool st, .int .i64 fe, .int .i64 fp, .int .i64 fh, .int .i64 ft, .bool lo]).past _).keep b2
  have X2 := (Box.newAt (n := w.heap.size + 1 + 1) (by simp) 79 #[.int .i64 d, .int .i64 a, .int .i64 n, .bool true, .slice da ds.length dc]).keep b2
  have B2 : Hid (Below w.heap.size w w2) := bel_trans B0.out b2
  have BA : Hid (Below w2.heap.size w2 (((w2.alloc (.cells #[.slice ma1 ms.length mc1] 39)).alloc (.cells #[.int .i64 mo1, .int .i64 ba1, .slice va1 l1.length vk1, .int .i64 op1, .int .i64 oh1, .int .i64 ot1, .bool st1, .int .i64 fe1, .int .i64 fp1, .int .i64 fh1, .int .i64 ft1, .bool lo1] 44)).alloc (.cells #[.bool dn, .slice da1 dat.length dc1, .int .i64 f, .slice ta1 tch.length tc1] 82))) := bel_alloc (bel_alloc (bel_alloc (Below.refl _ _) _) _) _
  have P0 := ((Box.newAt (w := w2) rfl 39 #[.slice ma1 ms.length mc1]).past (.cells #[.int .i64 mo1, .int .i64 ba1, .slice va1 l1.length vk1, .int .i64 op1, .int .i64 oh1, .int .i64 ot1, .bool st1, .int .i64 fe1, .int .i64 fp1, .int .i64 fh1, .int .i64 ft1, .bool lo1] 44)).past (.cells #[.bool dn, .slice da1 dat.length dc1, .int .i64 f, .slice ta1 tch.length tc1] 82)
  have P1 := (Box.newAt (w := w2.alloc (.cells #[.slice ma1 ms.length mc1] 39)) (n := w2.heap.size + 1) (by simp) 44 #[.int .i64 mo1, .int .i64 ba1, .slice va1 l1.length vk1, .int .i64 op1, .int .i64 oh1, .int .i64 ot1, .bool st1, .int .i64 fe1, .int .i64 fp1, .int .i64 fh1, .int .i64 ft1, .bool lo1]).past (.cells #[.bool dn, .slice da1 dat.length dc1, .int .i64 f, .slice ta1 tch.length tc1] 82)
  have P2 := Box.newAt (w := (w2.alloc (.cells #[.slice ma1 ms.length mc1] 39)).alloc (.cells #[.int .i64 mo1, .int .i64 ba1, .slice va1 l1.length vk1, .int .i64 op1, .int .i64 oh1, .int .i64 ot1, .bool st1, .int .i64 fe1, .int .i64 fp1, .int .i64 fh1, .int .i64 ft1, .bool lo1] 44)) (n := w2.heap.size + 1 + 1) (by simp) 82 #[.bool dn, .slice da1 dat.length dc1, .int .i64 f, .slice ta1 tch.length tc1]
  have HSn : Hid (Sl (((w2.alloc (.cells #[.slice ma1 ms.length mc1] 39)).alloc (.cells #[.int .i64 mo1, .int .i64 ba1, .slice va1 l1.length vk1, .int .i64 op1, .int .i64 oh1, .int .i64 ot1, .bool st1, .int .i64 fe1, .int .i64 fp1, .int .i64 fh1, .int .i64 ft1, .bool lo1] 44)).alloc (.cells #[.bool dn, .slice da1 dat.length dc1, .int .i64 f, .slice ta1 tch.length tc1] 82)) _ ms) := hS2.keep BA.out
  have HLn : Hid (Ls (((w2.alloc (.cells #[.slice ma1 ms.length mc1] 39)).alloc (.cells #[.int .i64 mo1, .int .i64 ba1, .slice va1 l1.length vk1, .int .i64 op1, .int .i64 oh1, .int .i64 ot1, .bool st1, .int .i64 fe1, .int .i64 fp1, .int .i64 fh1, .int .i64 ft1, .bool lo1] 44)).alloc (.cells #[.bool dn, .slice da1 dat.length dc1, .int .i64 f, .slice ta1 tch.length tc1] 82)) _ l1) := hL2.keep BA.out
  have HDn : Hid (Sl (((w2.alloc (.cells #[.slice ma1 ms.length mc1] 39)).alloc (.cells #[.int .i64 mo1, .int .i64 ba1, .slice va1 l1.length vk1, .int .i64 op1, .int .i64 oh1, .int .i64 ot1, .bool st1, .int .i64 fe1, .int .i64 fp1, .int .i64 fh1, .int .i64 ft1, .bool lo1] 44)).alloc (.cells #[.bool dn, .slice da1 dat.length dc1, .int .i64 f, .slice ta1 tch.length tc1] 82)) _ dat) := hD2.keep BA.out
  have HTn : Hid (Ts (((w2.alloc (.cells #[.slice ma1 ms.length mc1] 39)).alloc (.cells #[.int .i64 mo1, .int .i64 ba1, .slice va1 l1.length vk1, .int .i64 op1, .int .i64 oh1, .int .i64 ot1, .bool st1, .int .i64 fe1, .int .i64 fp1, .int .i64 fh1, .int .i64 ft1, .bool lo1] 44)).alloc (.cells #[.bool dn, .slice da1 dat.length dc1, .int .i64 f, .slice ta1 tch.length tc1] 82)) _ tch) := hT2.keep BA.out
  have BB : Hid (Below w.heap.size w (((w2.alloc (.cells #[.slice ma1 ms.length mc1] 39)).alloc (.cells #[.int .i64 mo1, .int .i64 ba1, .slice va1 l1.length vk1, .int .i64 op1, .int .i64 oh1, .int .i64 ot1, .bool st1, .int .i64 fe1, .int .i64 fp1, .int .i64 fh1, .int .i64 ft1, .bool lo1] 44)).alloc (.cells #[.bool dn, .slice da1 dat.length dc1, .int .i64 f, .slice ta1 tch.length tc1] 82))) := bel_trans B2.out BA.out
  replace X0 := X0.keep BA.out
  replace X1 := X1.keep BA.out
  replace X2 := X2.keep BA.out
  have zN : w.heap.size + 1 + 1 < w2.heap.size := by have := b2.size; simp at this; omega
  clear hS2 hL2 hD2 hT2 b2 B0 B2 BA
  go_wp2_with fail
  generalize (((w2.alloc (.cells #[.slice ma1 ms.length mc1] 39)).alloc (.cells #[.int .i64 mo1, .int .i64 ba1, .slice va1 l1.length vk1, .int .i64 op1, .int .i64 oh1, .int .i64 ot1, .bool st1, .int .i64 fe1, .int .i64 fp1, .int .i64 fh1, .int .i64 ft1, .bool lo1] 44)).alloc (.cells #[.bool dn, .slice da1 dat.length dc1, .int .i64 f, .slice ta1 tch.length tc1] 82)) = W at *
  generalize w2.heap.size = P at *
  refine (carried_true _).mono ?_
  rintro e w3 ⟨rfl, b3⟩
  by_cases hE0 : E = 0
  rotate_left
  · have hq : (E != 0) = true := by simpa using hE0
    have B3 : Hid (Below w.heap.size w w3) := bel_trans BB.out b3
    clear b3 X0 X1 X2 P0 P1 P2
    go_wp2_with fail
    refine (carried_true _).mono ?_
    rintro e w4 ⟨rfl, b4⟩
    have B4 : Hid (Below w.heap.size w w4) := bel_trans B3.out b4
    clear b4
    go_wp2
    go_ret
    exact ⟨rfl, B4.out⟩
  subst hE0
  have hdn0 : dn = decide (f = 0) := by rw [← HDN.out]; simp
  subst hdn0
  replace X2 := X2.keep b3
  replace P0 := P0.keep b3
  replace P1 := P1.keep b3
  replace P2 := P2.keep b3
  have HS3 : Hid (Sl w3 _ ms) := HSn.out.keep b3
  have HL3 : Hid (Ls w3 _ l1) := HLn.out.keep b3
  have HT3 : Hid (Ts w3 _ tch) := HTn.out.keep b3
  have B3 : Hid (Below w.heap.size w w3) := bel_trans BB.out b3
  clear b3 HSn HLn HDn HTn BB X0 X1
  obtain ⟨W3, rfl⟩ : ∃ W3, W3 = w3 := ⟨_, rfl⟩
  obtain ⟨f0, f1, f2, f3, -, -, -, -, sf⟩ := P2.four
  by_cases hf : f = 0
  rotate_left
  · have hq : decide (f = 0) = false := decide_eq_false hf
    go_wp2_with fail
    refine (carried_true _).mono ?_
    rintro e w4 ⟨rfl, b4⟩
    have B4 : Hid (Below w.heap.size w w4) := bel_trans B3.out b4
    clear b4
    go_wp2
    go_ret
    exact ⟨rfl, B4.out⟩
  subst hf
  obtain ⟨hz0, hb0, hc0⟩ := doE_ok HE.out
  obtain ⟨g1, g2, g3, g4, g5⟩ := ckA_ok hc0
  obtain ⟨o, rfl⟩ : ∃ o : Nat, a = o := ⟨a.toNat, by omega⟩
  obtain ⟨cnt, rfl⟩ : ∃ c : Nat, n = c := ⟨n.toNat, by omega⟩
  have HG1 : Hid (1 ≤ cnt ∧ cnt ≤ 20 ∧ o + cnt ≤ 512) := by show _ ∧ _; omega
  have HG2 : Hid (0 ≤ d ∧ d ≤ 7) := g2
  obtain ⟨h1, h2, hl, hdl, hmod, heach, hat⟩ := do_wrote HE.out HR.out
  have HMS : Hid (chk ms = 0) := h1
  have HCB : Hid (chkB ⟨mo1, ba1, l1, op1, oh1, ot1, st1, fe1, fp1, fh1, ft1, lo1⟩ = 0) := h2
  have HTL : Hid (tch.length = cnt) := hl
  have HDL : Hid (ds.length = cnt) := hdl
  have HEA : Hid (∀ j, j < cnt → ∃ p z : Int, (0 ≤ p ∧ p < 512) ∧ tth tch j = (d, (o : Int) + j, p, true, z)) := heach
  have HAT : Hid ((∀ i j, i < j → j < cnt → (tth tch i).2.2.1 ≠ (tth tch j).2.2.1) → ∀ k, k < cnt → nth ms (tth tch k).2.2.1.toNat = nth ds k) := hat
  clear hz0 hb0 hc0 g1 g2 g3 g4 g5 h1 h2 hl hdl hmod heach hat
  have HB3 : Hid (Below W3.heap.size W3 (W3.alloc (.map #[] 0))) := bel_alloc (Below.refl _ _) _
  have hmm := @run_makeMap Try.prog
  go_wp2
  clear hmm
  go_loopw [13, 54] (fun _ s54 wx => ∃ k : Nat, k ≤ cnt ∧ s54 = .int .i64 k ∧ (∀ i j, i < j → j < k → (tth tch i).2.2.1 ≠ (tth tch j).2.2.1) ∧ Seen wx W3.heap.size k (seenT tch k) ∧ Below W3.heap.size W3 wx) (fun _ s54 _ => cnt - (intOf s54).toNat)
  case atStart => exact ⟨0, Nat.zero_le _, rfl, fun i j _ hj => absurd hj (Nat.not_lt_zero _), Seen.new W3, HB3.out⟩
  case round =>
    obtain ⟨k, hk, rfl, hpre, hS, hB⟩ := hrel
    have HP : Hid _ := hpre
    have HB : Hid (Below W3.heap.size W3 wr) := hB
    have hc20 : cnt ≤ 20 := HG1.out.2.1
    have HS : Hid (Seen wr W3.heap.size k (seenT tch k)) := hS
    have hsz : W3.heap.size < wr.heap.size := hS.lt
    clear hpre hS f0 f1 f2 f3 sf
    by_cases hlt : k < cnt
    · have hlt1 : (k : Int) < tch.length := by have := HTL.out; omega
      obtain ⟨b2, o2, cc, he2, hb2, hat⟩ := (HT3.out.keep hB).at (k := k) (by have := HTL.out; omega)
      simp only [Value.slice.injEq, true_and] at he2
      obtain ⟨rfl, rfl⟩ := he2
      obtain ⟨p, z, hp, he⟩ := HEA.out k hlt
      have HEK : Hid ((tth tch k).2.2.1 = p) := by show _ = _; rw [he]
      rw [he] at hat
      obtain ⟨g0, g1, g2, g3, g4⟩ := hat
      simp only at g0 g1 g2 g3 g4
      have hp0 : 0 ≤ p := hp.1
      have hp1 : p < 512 := hp.2
      have HS1 : Hid (∀ ob, Seen (wr.alloc ob) W3.heap.size k (seenT tch k)) := fun ob => Seen.keep HS.out (bel_alloc (Below.refl _ _) _)
      clear hB he hp
      by_cases hin : p ∈ seenT tch k
      · go_wp2_with (first | (at_lookup; refine wpList_seen rfl _ _ rfl W3.heap.size k (seenT tch k) rfl (HS1.out _) p (by first | rfl | simp) (by omega) (by omega) ?_; rw [decide_eq_true hin]))
        go_ret
        exact ⟨rfl, bel_alloc (bel_trans B3.out HB.out) _⟩
      · go_wp2_with (first | (at_lookup; refine wpList_seen rfl _ _ rfl W3.heap.size k (seenT tch k) rfl (HS1.out _) p (by first | rfl | simp) (by omega) (by omega) ?_; rw [decide_eq_false hin]) | (at_mapUpdate; refine wpList_see rfl _ _ _ rfl W3.heap.size k (seenT tch k) rfl (HS1.out _) p (by first | rfl | simp) rfl (by omega) (by omega) (by omega) ?_; intro w6 hs6 hgr6))
        exact ⟨⟨k + 1, by omega, by go_num, fun i j hi hj => by
          by_cases e : j = k
          · subst e
            intro he
            exact hin (seenT_mem.2 ⟨i, hi, he.trans HEK.out⟩)
          · exact HP.out i j hi (by omega), by rw [seenT, HEK.out]; exact hs6, (bel_alloc HB.out _).grown hgr6 (by simp; omega) (fun j hj => by cases hj; exact Nat.le_refl _)⟩, by simp [intOf]; omega⟩
    · obtain rfl : k = cnt := by omega
      have HU : Hid (∀ i j, i < j → j < k → (tth tch i).2.2.1 ≠ (tth tch j).2.2.1) := HP.out
      have HA2 : Hid (∀ q, q < k → nth ms (tth tch q).2.2.1.toNat = nth ds q) := HAT.out HP.out
      have nl : ¬ (k : Int) < tch.length := by have := HTL.out; omega
      have Q2 := P2.keep HB.out
      obtain ⟨f0, f1, f2, f3, -, -, -, -, sf⟩ := Q2.four
      clear HP HS hsz hB
      go_wp2
      clear f0 f1 f2 f3 sf Q2
      go_loopw [14, 15, 69] (fun _ _ s69 wx => ∃ q : Nat, q ≤ k ∧ s69 = .int .i64 q ∧ Below W3.heap.size W3 wx) (fun _ _ s69 _ => k - (intOf s69).toNat)
      case atStart => exact ⟨0, Nat.zero_le _, rfl, HB.out⟩
      case round =>
        clear HB nl
        obtain ⟨q, hq, rfl, hB⟩ := hrel
        have HB : Hid (Below W3.heap.size W3 wr) := hB
        by_cases hlt : q < k
        · have hlt1 : (q : Int) < tch.length := by have := HTL.out; omega
          obtain ⟨b2, o2, cc, he2, hb2, hat⟩ := (HT3.out.keep hB).at (k := q) (by have := HTL.out; omega)
          simp only [Value.slice.injEq, true_and] at he2
          obtain ⟨rfl, rfl⟩ := he2
          obtain ⟨p, z, hp, he⟩ := HEA.out q hlt
          have HV : Hid (nth ms p.toNat = nth ds q) := by have := HA2.out q hlt; rw [he] at this; exact this
          rw [he] at hat
          obtain ⟨g0, g1, g2, g3, g4⟩ := hat
          simp only at g0 g1 g2 g3 g4
          obtain ⟨p, rfl⟩ : ∃ p' : Nat, p = p' := ⟨p.toNat, by omega⟩
          have hp1 : (p : Int) < 512 := hp.2
          have B6 : Hid (Below W3.heap.size W3 (wr.alloc (.cells #[.int .i64 d, .int .i64 ((o : Int) + q), .int .i64 p, .bool true, .int .i64 z] 92))) := bel_alloc hB _
          have XF := Box.newAt (w := wr) rfl 92 #[.int .i64 d, .int .i64 ((o : Int) + q), .int .i64 p, .bool true, .int .i64 z]
          clear hB he hp
          go_upto_region 16 with fail
          clear g0 g1 g2 g3 g4 HB
          generalize (wr.alloc (.cells #[.int .i64 d, .int .i64 ((o : Int) + q), .int .i64 p, .bool true, .int .i64 z] 92)) = W6 at *
          generalize wr.heap.size = Q6 at *
          obtain ⟨t0, t1, t2, t3, t4⟩ := XF.blk.five
          have sF := XF.lt
          obtain ⟨n0, -, sn⟩ := (P0.keep B6.out).one
          have XX := X2.keep B6.out
          obtain ⟨x0, x1, x2, x3, x4⟩ := XX.blk.five
          have sx := XX.lt
          obtain ⟨bm, om, cm, em, hbm, hcm⟩ := (HS3.out.keep B6.out).open512 (chk_ok HMS.out).1
          simp only [Value.slice.injEq] at em
          obtain ⟨rfl, hml, rfl⟩ := em
          rw [hml] at n0
          obtain ⟨b9, o9, hda, hb9, hc9⟩ : ∃ b o, da = some ⟨b, o, none⟩ ∧ b < W6.heap.size ∧ ∀ i, i < ds.length → W6.cell? ⟨b, o + i, none⟩ = some (.int .i64 (nth ds i)) := by
            obtain ⟨a', c', e', _, hh⟩ := HD.out.keep (bel_trans B3.out B6.out)
            simp only [Value.slice.injEq] at e'
            obtain ⟨rfl, -, -⟩ := e'
            rcases hh with hh | ⟨b, o, rfl, h1, h2⟩
            · have := HDL.out; rw [hh] at this; simp at this; omega
            · exact ⟨b, o, rfl, h1, h2⟩
          subst hda
          have u1 := hcm p (by omega)
          have u2 := hc9 q (by have := HDL.out; omega)
          have hv := HV.out
          rw [Int.toNat_natCast] at hv
          rw [hv] at u1
          clear hv hcm hc9 hml
          generalize nth ds q = t at u1 u2
          have hq1 : (q : Int) < ds.length := by have := HDL.out; omega
          have hp0 : (0 : Int) ≤ p := by omega
          have hq0 : (0 : Int) ≤ q := by omega
          go_quiet (fail)
          go_wp2
          exact ⟨⟨q + 1, by omega, by go_num, bel_drewN B6.out _⟩, by simp [intOf]; omega⟩
        · obtain rfl : q = k := by omega
          have nl : ¬ (q : Int) < tch.length := by have := HTL.out; omega
          have Q2 := P2.keep hB
          obtain ⟨f0, f1, f2, f3, -, -, -, -, sf⟩ := Q2.four
          clear hB
          go_wp2
          clear f0 f1 f2 f3 sf Q2
          go_loopw [17, 18, 19, 20, 21, 22, 23, 24, 90] (fun _ _ _ _ _ _ _ _ s90 wx => ∃ j : Nat, j ≤ q ∧ s90 = .int .i64 j ∧ (∀ i, i < j → (goT ms ⟨mo1, ba1, l1, op1, oh1, ot1, st1, fe1, fp1, fh1, ft1, lo1⟩ d (((o + i) / 8 : Nat) : Int) false).2 = ((tth tch i).2.2.1 / 8, 0) ∧ (goT ms (Br.with ⟨mo1, ba1, l1, op1, oh1, ot1, st1, fe1, fp1, fh1, ft1, lo1⟩ []) d (((o + i) / 8 : Nat) : Int) false).2 = ((tth tch i).2.2.1 / 8, 0)) ∧ Below W3.heap.size W3 wx) (fun _ _ _ _ _ _ _ _ s90 _ => q - (intOf s90).toNat)
          case atStart => exact ⟨0, Nat.zero_le _, rfl, fun i hi => absurd hi (Nat.not_lt_zero _), HB.out⟩
          case round =>
            obtain ⟨j, hj, rfl, hpre, hB⟩ := hrel
            have HP3 : Hid (∀ i, i < j → _) := hpre
            have HB4 : Hid (Below W3.heap.size W3 wr) := hB
            have ho5 : o + q ≤ 512 := HG1.out.2.2
            clear hpre HB nl
            by_cases hlt : j < q
            · have hlt1 : (j : Int) < tch.length := by have := HTL.out; omega
              obtain ⟨b2, o2, cc, he2, hb2, hat⟩ := (HT3.out.keep hB).at (k := j) (by have := HTL.out; omega)
              simp only [Value.slice.injEq, true_and] at he2
              obtain ⟨rfl, rfl⟩ := he2
              obtain ⟨p, z, hp, he⟩ := HEA.out j hlt
              have HEJ : Hid ((tth tch j).2.2.1 = p) := by show _ = _; rw [he]
              rw [he] at hat
              obtain ⟨g0, g1, g2, g3, g4⟩ := hat
              simp only at g0 g1 g2 g3 g4
              obtain ⟨p, rfl⟩ : ∃ p' : Nat, p = p' := ⟨p.toNat, by omega⟩
              have B6 : Hid (Below W3.heap.size W3 (wr.alloc (.cells #[.int .i64 d, .int .i64 ((o : Int) + j), .int .i64 p, .bool true, .int .i64 z] 92))) := bel_alloc hB _
              have XF := Box.newAt (w := wr) rfl 92 #[.int .i64 d, .int .i64 ((o : Int) + j), .int .i64 p, .bool true, .int .i64 z]
              have hp1 : (p : Int) < 512 := hp.2
              clear hB he hp
              go_upto_region 22 with fail
              clear g0 g1 g2 g3 g4 HB4
              generalize (wr.alloc (.cells #[.int .i64 d, .int .i64 ((o : Int) + j), .int .i64 p, .bool true, .int .i64 z] 92)) = W6 at *
              generalize wr.heap.size = Q6 at *
              obtain ⟨t0, t1, t2, t3, t4⟩ := XF.blk.five
              have sF := XF.lt
              obtain ⟨n0, -, sn⟩ := (P0.keep B6.out).one
              have XX := X2.keep B6.out
              obtain ⟨x0, x1, x2, x3, x4⟩ := XX.blk.five
              have sx := XX.lt
              obtain ⟨⟨r0, r1, r2, r3, r4, r5, r6, r7, r8, r9, r10, r11⟩, sr⟩ := (P1.keep B6.out).twelve
              have hpg : ((o : Int) + j) / 8 = (((o + j) / 8 : Nat) : Int) := by omega
              have hpi : 0 ≤ (((o + j) / 8 : Nat) : Int) ∧ (((o + j) / 8 : Nat) : Int) ≤ 63 := by omega
              have HPG : Hid (((o : Int) + j) / 8 = (((o + j) / 8 : Nat) : Int)) := hpg
              obtain ⟨pg, hpe⟩ : ∃ pg : Int, (((o + j) / 8 : Nat) : Int) = pg := ⟨_, rfl⟩
              rw [hpe] at hpi
              obtain ⟨⟨c4, y4, f4⟩, h4⟩ : ∃ R, goT ms (Br.with ⟨mo1, ba1, l1, op1, oh1, ot1, st1, fe1, fp1, fh1, ft1, lo1⟩ []) d pg false = R := ⟨_, rfl⟩
              obtain ⟨⟨⟨mo5, ba5, l5, op5, oh5, ot5, st5, fe5, fp5, fh5, ft5, lo5⟩, z5, g5⟩, h5⟩ : ∃ R, goT ms ⟨mo1, ba1, l1, op1, oh1, ot1, st1, fe1, fp1, fh1, ft1, lo1⟩ d pg false = R := ⟨_, rfl⟩
              have HE4 : Hid (thE ms (Br.with ⟨mo1, ba1, l1, op1, oh1, ot1, st1, fe1, fp1, fh1, ft1, lo1⟩ []) d pg = 0) := thE_mk HMS.out (chkB_with HCB.out chkC_nil) HG2.out hpi
              have HR4 : Hid (thR ms (Br.with ⟨mo1, ba1, l1, op1, oh1, ot1, st1, fe1, fp1, fh1, ft1, lo1⟩ []) d pg false = (c4, y4, f4)) := by show _ = _; rw [thR, if_pos HE4.out]; exact h4
              have HE5 : Hid (thE ms ⟨mo1, ba1, l1, op1, oh1, ot1, st1, fe1, fp1, fh1, ft1, lo1⟩ d pg = 0) := thE_mk HMS.out HCB.out HG2.out hpi
              have HR5 : Hid (thR ms ⟨mo1, ba1, l1, op1, oh1, ot1, st1, fe1, fp1, fh1, ft1, lo1⟩ d pg false = (⟨mo5, ba5, l5, op5, oh5, ot5, st5, fe5, fp5, fh5, ft5, lo5⟩, z5, g5)) := by show _ = _; rw [thR, if_pos HE5.out]; exact h5
              have H4 : Hid (_ = (c4, y4, f4)) := h4
              have H5 : Hid (_ = ((⟨mo5, ba5, l5, op5, oh5, ot5, st5, fe5, fp5, fh5, ft5, lo5⟩, z5, g5) : Br × Int × Int)) := h5
              have HPE : Hid ((((o + j) / 8 : Nat) : Int) = pg) := hpe
              clear h4 h5 hpe hpi hpg
              go_wp2_with fail
              rw [HPG.out, HPE.out]
              refine (plain_at (HS3.out.keep B6.out) (HL3.out.keep B6.out) HE4.out HR4.out).mono ?_
              rintro e w7 ⟨rfl, b7⟩
              have B7 : Hid (Below W3.heap.size W3 w7) := bel_trans B6.out b7
              replace XF := XF.keep b7
              clear b7 B6 t0 t1 t2 t3 t4 sF n0 sn XX x0 x1 x2 x3 x4 sx r0 r1 r2 r3 r4 r5 r6 r7 r8 r9 r10 r11 sr
              obtain ⟨t0, t1, t2, t3, t4⟩ := XF.blk.five
              have sF := XF.lt
              obtain ⟨n0, -, sn⟩ := (P0.keep B7.out).one
              have XX := X2.keep B7.out
              obtain ⟨x0, x1, x2, x3, x4⟩ := XX.blk.five
              have sx := XX.lt
              obtain ⟨⟨r0, r1, r2, r3, r4, r5, r6, r7, r8, r9, r10, r11⟩, sr⟩ := (P1.keep B7.out).twelve
              go_wp2_with fail
              rw [HPG.out, HPE.out]
              refine (through_at (HS3.out.keep B7.out) (HL3.out.keep B7.out) HE5.out HR5.out).mono ?_
              rintro e w8 ⟨va5, vk5, rfl, -, b8⟩
              have B8 : Hid (Below W3.heap.size W3 (w8.alloc (.cells #[.int .i64 mo5, .int .i64 ba5, .slice va5 l5.length vk5, .int .i64 op5, .int .i64 oh5, .int .i64 ot5, .bool st5, .int .i64 fe5, .int .i64 fp5, .int .i64 fh5, .int .i64 ft5, .bool lo5] 44))) := bel_alloc (bel_trans B7.out b8) _
              replace XF := XF.keep b8
              clear b8 B7 t0 t1 t2 t3 t4 sF n0 sn XX x0 x1 x2 x3 x4 sx r0 r1 r2 r3 r4 r5 r6 r7 r8 r9 r10 r11 sr
              obtain ⟨t0, t1, t2, t3, t4⟩ := XF.blk.five
              have sF := XF.lt
              by_cases hf4 : f4 = 0
              rotate_left
              · have hq1 : (f4 != 0) = true := by simpa using hf4
                go_wp2
                go_ret
                exact ⟨rfl, bel_trans B3.out B8.out⟩
              subst hf4
              by_cases hg5 : g5 = 0
              rotate_left
              · have hq1 : (g5 != 0) = true := by simpa using hg5
                go_wp2
                go_ret
                exact ⟨rfl, bel_trans B3.out B8.out⟩
              subst hg5
              by_cases hy : y4 = (p : Int) / 8
              rotate_left
              · have hq1 : (y4 != (p : Int) / 8) = true := by simpa using hy
                go_wp2
                go_ret
                exact ⟨rfl, bel_trans B3.out B8.out⟩
              have HY0 : Hid (y4 = (p : Int) / 8) := hy
              have hq0 : (y4 != (p : Int) / 8) = false := by simpa using hy
              clear hy
              by_cases hz : z5 = y4
              rotate_left
              · have hq1 : (z5 != y4) = true := by simpa using hz
                go_wp2
                go_ret
                exact ⟨rfl, bel_trans B3.out B8.out⟩
              subst hz
              have HYZ : Hid (z5 = (p : Int) / 8) := HY0.out
              go_wp2
              exact ⟨⟨j + 1, by omega, by go_num, fun i hi => by
                by_cases e : i = j
                · subst e
                  rw [HPE.out, H4.out, H5.out, HEJ.out, HYZ.out]
                  exact ⟨rfl, rfl⟩
                · exact HP3.out i (by omega), B8.out⟩, by simp [intOf]; omega⟩
            · obtain rfl : j = q := by omega
              have nl : ¬ (j : Int) < tch.length := by have := HTL.out; omega
              obtain ⟨hE9, ⟨mo6, ba6, l6, op6, oh6, ot6, st6, fe6, fp6, fh6, ft6, lo6⟩, tch6, hR9⟩ := do_back HE.out HR.out HU.out HP3.out
              have HE9 : Hid (_ = _) := hE9
              have HR9 : Hid (_ = _) := hR9
              clear hE9 hR9
              obtain ⟨n0, -, sn⟩ := (P0.keep hB).one
              have XX := X2.keep hB
              obtain ⟨x0, x1, x2, x3, x4⟩ := XX.blk.five
              have sx := XX.lt
              obtain ⟨⟨r0, r1, r2, r3, r4, r5, r6, r7, r8, r9, r10, r11⟩, sr⟩ := (P1.keep hB).twelve
              have S9 := HS3.out.keep hB
              have L9 := HL3.out.keep hB
              have HD9 : Hid (Sl wr _ ds) := HD.out.keep (bel_trans B3.out hB)
              have hdd : (decide ((0 : Int) = 0) && decide ((0 : Int) = 0)) = true := rfl
              go_wp2_with fail
              refine (do_at S9 L9 (Sl.nil _ _ _) HE9.out HR9.out hdd).mono ?_
              rintro e w9 ⟨ma6, mc6, va6, vk6, da6, dc6, ta6, tc6, rfl, hS6, hL6, hD6, hT6, b6, -, -, -, -⟩
              clear n0 sn x0 x1 x2 x3 x4 sx r0 r1 r2 r3 r4 r5 r6 r7 r8 r9 r10 r11 sr
              have BA : Hid (Below w9.heap.size w9 (((w9.alloc (.cells #[.slice ma6 ms.length mc6] 39)).alloc (.cells #[.int .i64 mo6, .int .i64 ba6, .slice va6 l6.length vk6, .int .i64 op6, .int .i64 oh6, .int .i64 ot6, .bool st6, .int .i64 fe6, .int .i64 fp6, .int .i64 fh6, .int .i64 ft6, .bool lo6] 44)).alloc (.cells #[.bool true, .slice da6 ds.length dc6, .int .i64 0, .slice ta6 tch6.length tc6] 82))) := bel_alloc (bel_alloc (bel_alloc (Below.refl _ _) _) _) _
              have Y9 := Box.newAt (w := (w9.alloc (.cells #[.slice ma6 ms.length mc6] 39)).alloc (.cells #[.int .i64 mo6, .int .i64 ba6, .slice va6 l6.length vk6, .int .i64 op6, .int .i64 oh6, .int .i64 ot6, .bool st6, .int .i64 fe6, .int .i64 fp6, .int .i64 fh6, .int .i64 ft6, .bool lo6] 44)) (n := w9.heap.size + 1 + 1) (by simp) 82 #[.bool true, .slice da6 ds.length dc6, .int .i64 0, .slice ta6 tch6.length tc6]
              have X9 := XX.keep (bel_trans b6 BA.out)
              have HBF : Hid (Below w.heap.size w (((w9.alloc (.cells #[.slice ma6 ms.length mc6] 39)).alloc (.cells #[.int .i64 mo6, .int .i64 ba6, .slice va6 l6.length vk6, .int .i64 op6, .int .i64 oh6, .int .i64 ot6, .bool st6, .int .i64 fe6, .int .i64 fp6, .int .i64 fh6, .int .i64 ft6, .bool lo6] 44)).alloc (.cells #[.bool true, .slice da6 ds.length dc6, .int .i64 0, .slice ta6 tch6.length tc6] 82))) := bel_trans (bel_trans (bel_trans B3.out HB4.out) b6) BA.out
              have D9 : Hid (Sl (((w9.alloc (.cells #[.slice ma6 ms.length mc6] 39)).alloc (.cells #[.int .i64 mo6, .int .i64 ba6, .slice va6 l6.length vk6, .int .i64 op6, .int .i64 oh6, .int .i64 ot6, .bool st6, .int .i64 fe6, .int .i64 fp6, .int .i64 fh6, .int .i64 ft6, .bool lo6] 44)).alloc (.cells #[.bool true, .slice da6 ds.length dc6, .int .i64 0, .slice ta6 tch6.length tc6] 82)) _ ds) := HD9.out.keep (bel_trans b6 BA.out)
              have D6 : Hid (Sl (((w9.alloc (.cells #[.slice ma6 ms.length mc6] 39)).alloc (.cells #[.int .i64 mo6, .int .i64 ba6, .slice va6 l6.length vk6, .int .i64 op6, .int .i64 oh6, .int .i64 ot6, .bool st6, .int .i64 fe6, .int .i64 fp6, .int .i64 fh6, .int .i64 ft6, .bool lo6] 44)).alloc (.cells #[.bool true, .slice da6 ds.length dc6, .int .i64 0, .slice ta6 tch6.length tc6] 82)) _ ds) := hD6.keep BA.out
              clear hS6 hL6 hD6 hT6 b6 BA XX
              go_upto_region 30 with fail
              generalize (((w9.alloc (.cells #[.slice ma6 ms.length mc6] 39)).alloc (.cells #[.int .i64 mo6, .int .i64 ba6, .slice va6 l6.length vk6, .int .i64 op6, .int .i64 oh6, .int .i64 ot6, .bool st6, .int .i64 fe6, .int .i64 fp6, .int .i64 fh6, .int .i64 ft6, .bool lo6] 44)).alloc (.cells #[.bool true, .slice da6 ds.length dc6, .int .i64 0, .slice ta6 tch6.length tc6] 82)) = U9 at *
              generalize w9.heap.size = M9 at *
              obtain ⟨x0, x1, x2, x3, x4⟩ := X9.blk.five
              have sx := X9.lt
              obtain ⟨f0, f1, f2, f3, -, -, -, -, sf⟩ := Y9.four
              have CQ := equal_any _ _ ds ds U9 D6.out D9.out
              rw [decide_eq_true rfl] at CQ
              go_wp2_with fail
              refine CQ.mono ?_
              rintro e w10 ⟨rfl, nn, rfl⟩
              go_wp2
              go_ret
              exact ⟨rfl, bel_drewN HBF.out _⟩
end Go.Proofs.Ytefcdcneenjbgab
/-
  What the openers share.
-/
namespace Go.Proofs.Ytefcdcneenjbgab
open Go.ChangeShapes Go.WideShapes Go.ChangeAt Go.RowKit

theorem law_own : ownKnob Try.prog.godebug = none := by kernel_rfl
theorem law_laidOut : laidOutB Try.prog = true := by kernel_rfl
theorem int_cells : Try.prog.cellsOf 3 = 1 := by kernel_rfl
theorem bool_cells : Try.prog.cellsOf 4 = 1 := by kernel_rfl

theorem array5 {cs : List Value} (h : cs.length = 5) : ∃ c0 c1 c2 c3 c4, cs = [c0, c1, c2, c3, c4] := by
  match cs, h with
  | [c0, c1, c2, c3, c4], _ => exact ⟨c0, c1, c2, c3, c4, rfl⟩
theorem array3 {cs : List Value} (h : cs.length = 3) : ∃ c0 c1 c2, cs = [c0, c1, c2] := by
  match cs, h with
  | [c0, c1, c2], _ => exact ⟨c0, c1, c2, rfl⟩
theorem array4 {cs : List Value} (h : cs.length = 4) : ∃ c0 c1 c2 c3, cs = [c0, c1, c2, c3] := by
  match cs, h with
  | [c0, c1, c2, c3], _ => exact ⟨c0, c1, c2, c3, rfl⟩

section
variable {H : Type} {enc : TypeId × Value → H} {W : World}

theorem cell_int {n : Nat} {c : Value} {y : Option (DataW H × List MemPlace)} (h : DataW.trod enc Try.prog W 0 (fun _ => true) true n 3 [c] = y) (hy : y ≠ none) : ∃ a, c = .int .i64 a := by
  cases y with
  | none => exact absurd rfl hy
  | some y =>
    obtain ⟨a, e, _⟩ := DataW.trod_int Try.underlying3 h
    exact ⟨a, by simpa using e⟩
theorem cell_bool {n : Nat} {c : Value} {y : Option (DataW H × List MemPlace)} (h : DataW.trod enc Try.prog W 0 (fun _ => true) true n 4 [c] = y) (hy : y ≠ none) : ∃ a, c = .bool a := by
  cases y with
  | none => exact absurd rfl hy
  | some y =>
    obtain ⟨a, e, _⟩ := DataW.trod_bool Try.underlying4 h
    exact ⟨a, by simpa using e⟩

set_option maxRecDepth 100000 in
theorem cell_intw {n : Nat} {c : Value} {y : Option (DataW H × List MemPlace)} (h : DataW.trod enc Try.prog W 0 (fun _ => true) true n 3 [c] = y) (hy : y ≠ none) : ∃ a, c = .int .i64 a ∧ -9223372036854775808 ≤ a ∧ a ≤ 9223372036854775807 := by
  cases y with
  | none => exact absurd rfl hy
  | some y =>
    obtain ⟨a, e, _, hw⟩ := DataW.trod_int Try.underlying3 h
    refine ⟨a, by simpa using e, ?_⟩
    simp only [Lit.wf, Bool.and_eq_true, decide_eq_true_eq] at hw
    exact hw

end
end Go.Proofs.Ytefcdcneenjbgab
/-
  A memory that comes in as an argument reads as a list of numbers (Sl).
-/
namespace Go.Proofs.Ytefcdcneenjbgab
open Go.ChangeShapes Go.WideShapes Go.ChangeAt Go.RowKit

theorem mem_cells : Try.prog.cellsOf 39 = 1 := by kernel_rfl
theorem slice_cells : Try.prog.cellsOf 37 = 1 := by kernel_rfl

/-- A cell that reads as a slice of numbers. -/
theorem open_row {H : Type} {enc : TypeId × Value → H} {W : World} {fuel : Nat} {c0 : Value} {x : DataW H × List MemPlace}
    (h : DataW.trod enc Try.prog W 0 (fun _ => true) true fuel 37 [c0] = some x) : ∃ zs, Sl W c0 zs := by
  rcases open_ints Try.underlying37 Try.underlying3 int_cells h with ⟨hcs, _⟩ | ⟨a, len, cap, zs, hcs, _, hl, hm, hz, _, hcell, _⟩
  · simp only [List.cons.injEq, and_true] at hcs
    subst hcs
    exact ⟨[], Sl.nil _ _ _⟩
  · simp only [List.cons.injEq, and_true] at hcs
    subst hcs
    simp only [if_true] at hz
    by_cases h0 : len = 0
    · subst h0
      exact ⟨[], Sl.nil _ _ _⟩
    · obtain ⟨b, off, spot⟩ := a
      have hc := hcell 0 (by omega)
      have hspot : spot = none := by simpa [Addr.add] using World.cell?_spot hc
      subst hspot
      have hlen : (zs.take len).length = len := by simp; omega
      refine ⟨zs.take len, _, cap, by rw [hlen], by omega, .inr ⟨b, off, rfl, ?_, fun i hi => ?_⟩⟩
      · have := World.block_lt_of_cell? W _ hc
        simpa [Addr.add] using this
      · have ha : Addr.add ⟨b, off, none⟩ i = ⟨b, off + i, none⟩ := by unfold Addr.add; split <;> simp_all
        have := hcell i (by omega)
        rw [ha] at this
        rw [this]
        have hi' : i < len := by omega
        simp [nth, hi']

set_option maxRecDepth 100000 in
theorem open_mem {H : Type} {enc : TypeId × Value → H} {W : World} {b0 : Nat} {v : Value} {d : DataW H} {p : List MemPlace} (hv : Value.okWide Try.prog W .any b0 39 v)
    (h : DataW.Trod enc Try.prog W 0 (fun _ => true) true 39 v d p) : ∃ v0 zs, v = .agg #[v0] ∧ Sl W v0 zs := by
  obtain ⟨cs, rfl, hsz⟩ := okWide_struct Try.underlying39 hv
  rw [mem_cells] at hsz
  obtain ⟨l⟩ := cs
  match l, hsz with
  | [c0], _ =>
    obtain ⟨fuel, hf⟩ := h
    obtain ⟨y0, n, _, _, h0⟩ := trod_struct1 Try.underlying39 hf
    obtain ⟨zs, hs⟩ := open_row (c0 := c0) (by simpa [Value.cells, slice_cells] using h0)
    exact ⟨c0, zs, rfl, hs⟩
end Go.Proofs.Ytefcdcneenjbgab
/-
  An order that comes in as an argument is written out.
-/
namespace Go.Proofs.Ytefcdcneenjbgab
open Go.ChangeShapes Go.WideShapes Go.ChangeAt Go.RowKit

theorem ord_cells : Try.prog.cellsOf 23 = 3 := by kernel_rfl

section
variable {H : Type} {enc : TypeId × Value → H} {W : World}

set_option maxRecDepth 100000 in
theorem open_ord {b0 : Nat} {v : Value} {d : DataW H} {p : List MemPlace} (hv : Value.okWide Try.prog W .any b0 23 v) (h : DataW.Trod enc Try.prog W 0 (fun _ => true) true 23 v d p) :
    ∃ a b n, v = .agg #[.int .i64 a, .int .i64 b, .int .i64 n] ∧ (-9223372036854775808 ≤ a ∧ a ≤ 9223372036854775807) := by
  obtain ⟨cs, rfl, _⟩ := okWide_struct Try.underlying23 hv
  obtain ⟨fuel, hf⟩ := h
  obtain ⟨xs, n, _, _, hl, hlen, hf⟩ := DataW.trod_struct Try.underlying23 hf
  rw [ord_cells] at hl
  obtain ⟨l⟩ := cs
  simp only [Value.cells] at hl hf
  obtain ⟨c0, c1, c2, rfl⟩ := array3 hl
  have some_at : ∀ i, i < 3 → xs[i]? ≠ none := fun i hi => by
    rw [List.getElem?_eq_getElem (by rw [hlen]; exact hi)]; simp
  obtain ⟨a, rfl, ha⟩ := cell_intw (by simpa [int_cells] using hf 0 _ rfl) (some_at 0 (by omega))
  obtain ⟨b, rfl⟩ := cell_int (by simpa [int_cells] using hf 1 _ rfl) (some_at 1 (by omega))
  obtain ⟨q, rfl⟩ := cell_int (by simpa [int_cells] using hf 2 _ rfl) (some_at 2 (by omega))
  exact ⟨a, b, q, rfl, ha⟩

set_option maxRecDepth 100000 in
theorem open_odr {b0 : Nat} {v : Value} {d : DataW H} {p : List MemPlace} (hv : Value.okWide Try.prog W .any b0 23 v) (h : DataW.Trod enc Try.prog W 0 (fun _ => true) true 23 v d p) :
    ∃ a b n, v = .agg #[.int .i64 a, .int .i64 b, .int .i64 n] := by
  obtain ⟨a, b, n, e, _⟩ := open_ord hv h
  exact ⟨a, b, n, e⟩
end
end Go.Proofs.Ytefcdcneenjbgab
/-
  Lines, a line, an order that come in as arguments are written out.
-/
namespace Go.Proofs.Ytefcdcneenjbgab
open Go.ChangeShapes Go.WideShapes Go.ChangeAt Go.RowKit

theorem line_cells : Try.prog.cellsOf 68 = 5 := by kernel_rfl

section
variable {H : Type} {enc : TypeId × Value → H} {W : World}

set_option maxRecDepth 100000 in
/-- The cells of a line. -/
theorem line_open {fuel : Nat} {cs : List Value} {x : DataW H × List MemPlace} (h : DataW.trod enc Try.prog W 0 (fun _ => true) true fuel 68 cs = some x) :
    ∃ y : Ln, cs = [.int .i64 y.1, .int .i64 y.2.1, .int .i64 y.2.2.1, .bool y.2.2.2.1, .bool y.2.2.2.2] := by
  obtain ⟨xs, n, _, _, hl, hlen, hf⟩ := DataW.trod_struct Try.underlying68 h
  rw [line_cells] at hl
  obtain ⟨c0, c1, c2, c3, c4, rfl⟩ := array5 hl
  have some_at : ∀ i, i < 5 → xs[i]? ≠ none := fun i hi => by
    rw [List.getElem?_eq_getElem (by rw [hlen]; exact hi)]; simp
  obtain ⟨a, rfl⟩ := cell_int (by simpa [int_cells] using hf 0 _ rfl) (some_at 0 (by omega))
  obtain ⟨b, rfl⟩ := cell_int (by simpa [int_cells] using hf 1 _ rfl) (some_at 1 (by omega))
  obtain ⟨c, rfl⟩ := cell_int (by simpa [int_cells] using hf 2 _ rfl) (some_at 2 (by omega))
  obtain ⟨d, rfl⟩ := cell_bool (by simpa [bool_cells] using hf 3 _ rfl) (some_at 3 (by omega))
  obtain ⟨p, rfl⟩ := cell_bool (by simpa [bool_cells] using hf 4 _ rfl) (some_at 4 (by omega))
  exact ⟨(a, b, c, d, p), rfl⟩
set_option maxRecDepth 100000 in
theorem open_line {b0 : Nat} {v : Value} {d : DataW H} {p : List MemPlace} (hv : Value.okWide Try.prog W .any b0 68 v) (h : DataW.Trod enc Try.prog W 0 (fun _ => true) true 68 v d p) :
    ∃ a b c e n, v = .agg #[.int .i64 a, .int .i64 b, .int .i64 c, .bool e, .bool n] := by
  obtain ⟨cs, rfl, _⟩ := okWide_struct Try.underlying68 hv
  obtain ⟨fuel, hf⟩ := h
  obtain ⟨y, hc⟩ := line_open hf
  obtain ⟨l⟩ := cs
  simp only [Value.cells] at hc
  exact ⟨_, _, _, _, _, by rw [hc]⟩
theorem choose_len {P : Nat → Ln → Prop} : ∀ n, (∀ i, i < n → ∃ y, P i y) → ∃ l : List Ln, l.length = n ∧ ∀ i, i < n → P i (lth l i)
  | 0, _ => ⟨[], rfl, fun i hi => absurd hi (Nat.not_lt_zero _)⟩
  | n + 1, h => by
    obtain ⟨l, hl, hp⟩ := choose_len n fun i hi => h i (by omega)
    obtain ⟨y, hy⟩ := h n (by omega)
    refine ⟨l ++ [y], by simp [hl], fun i hi => ?_⟩
    by_cases e : i = n
    · subst e
      have : lth (l ++ [y]) i = y := by simp [lth, ← hl]
      rw [this]; exact hy
    · have : lth (l ++ [y]) i = lth l i := by
        have hi' : i < l.length := by omega
        simp [lth, List.getElem?_append_left hi']
      rw [this]; exact hp i (by omega)

set_option maxRecDepth 100000 in
/-- A cell that reads as a slice of lines. -/
theorem lines_row {fuel : Nat} {c0 : Value} {x : DataW H × List MemPlace} (h : DataW.trod enc Try.prog W 0 (fun _ => true) true fuel 40 [c0] = some x) : ∃ l, Ls W c0 l := by
  rcases Deep.open_slice Try.underlying40 h with ⟨hcs, _⟩ | ⟨a, len, cap, m, n, D, Pl, hcs, hb, hl, hm, hmm, _, hx⟩
  · simp only [List.cons.injEq, and_true] at hcs
    subst hcs
    exact ⟨[], Ls.nothing _⟩
  · simp only [List.cons.injEq, and_true] at hcs
    subst hcs
    simp only [if_true] at hmm
    rw [line_cells] at hx
    by_cases h0 : len = 0
    · subst h0
      exact ⟨[], Ls.nil _ _ _ hm⟩
    · obtain ⟨b, off, spot⟩ := a
      have each : ∀ i, i < len → ∃ y : Ln, ∀ j u, (j < 5 ∧ [Value.int .i64 y.1, .int .i64 y.2.1, .int .i64 y.2.2.1, .bool y.2.2.2.1, .bool y.2.2.2.2][j]? = some u) → W.cell? ((⟨b, off, spot⟩ : Addr).add (i * 5 + j)) = some u := by
        intro i hi
        obtain ⟨cs', h1, h2⟩ := hx i (by omega)
        obtain ⟨y, rfl⟩ := line_open h2
        obtain ⟨_, _, hcell⟩ := World.cells?_some h1
        refine ⟨y, fun j u ⟨hj, hu⟩ => ?_⟩
        have := hcell j (by omega)
        rw [Deep.add_add, hu] at this
        exact this
      obtain ⟨l, hlen, hp⟩ := choose_len (P := fun i y => ∀ j u, (j < 5 ∧ [Value.int .i64 y.1, .int .i64 y.2.1, .int .i64 y.2.2.1, .bool y.2.2.2.1, .bool y.2.2.2.2][j]? = some u) → W.cell? ((⟨b, off, spot⟩ : Addr).add (i * 5 + j)) = some u) len each
      have hc := hp 0 (by omega) 0 _ ⟨by omega, rfl⟩
      have hspot : spot = none := by simpa [Addr.add] using World.cell?_spot hc
      subst hspot
      have ha : ∀ i, Addr.add ⟨b, off, none⟩ i = ⟨b, off + i, none⟩ := fun i => by unfold Addr.add; split <;> simp_all
      refine ⟨l, _, cap, by rw [hlen], by omega, hm, .inr ⟨b, off, rfl, ?_, fun i hi => ?_⟩⟩
      · have := World.block_lt_of_cell? W _ hc
        simpa [Addr.add] using this
      · rw [hlen] at hi
        have hq := hp i hi
        refine ⟨?_, ?_, ?_, ?_, ?_⟩
        · have := hq 0 _ ⟨by omega, rfl⟩; rw [ha] at this; exact this
        · have := hq 1 _ ⟨by omega, rfl⟩; rw [ha, ← Nat.add_assoc] at this; exact this
        · have := hq 2 _ ⟨by omega, rfl⟩; rw [ha, ← Nat.add_assoc] at this; exact this
        · have := hq 3 _ ⟨by omega, rfl⟩; rw [ha, ← Nat.add_assoc] at this; exact this
        · have := hq 4 _ ⟨by omega, rfl⟩; rw [ha, ← Nat.add_assoc] at this; exact this
set_option maxRecDepth 100000 in
theorem open_lines {b0 : Nat} {v : Value} {d : DataW H} {p : List MemPlace} (hv : Value.okWide Try.prog W .any b0 40 v) (h : DataW.Trod enc Try.prog W 0 (fun _ => true) true 40 v d p) :
    ∃ l, Ls W v l := by
  obtain ⟨fuel, hf⟩ := h
  have hone : v.cells.toList = [v] := by
    simp only [Value.okWide, Try.underlying40, Cell.okWide] at hv
    cases v <;> simp_all [Value.cells, Cell.ok]
  rw [hone] at hf
  exact lines_row hf
end
end Go.Proofs.Ytefcdcneenjbgab
/-
  A ring that comes in as an argument is written out.
-/
namespace Go.Proofs.Ytefcdcneenjbgab
open Go.ChangeShapes Go.WideShapes Go.ChangeAt Go.RowKit

theorem ring_cells : Try.prog.cellsOf 42 = 3 := by kernel_rfl
section
variable {H : Type} {enc : TypeId × Value → H} {W : World}
set_option maxRecDepth 100000 in
/-- The cells of a ring. -/
theorem ring_open {fuel : Nat} {cs : List Value} {x : DataW H × List MemPlace} (h : DataW.trod enc Try.prog W 0 (fun _ => true) true fuel 42 cs = some x) :
    ∃ a b p, cs = [.int .i64 a, .int .i64 b, .int .i64 p] := by
  obtain ⟨xs, n, _, _, hl, hlen, hf⟩ := DataW.trod_struct Try.underlying42 h
  rw [ring_cells] at hl
  obtain ⟨c0, c1, c2, rfl⟩ := array3 hl
  have some_at : ∀ i, i < 3 → xs[i]? ≠ none := fun i hi => by
    rw [List.getElem?_eq_getElem (by rw [hlen]; exact hi)]; simp
  obtain ⟨a, rfl⟩ := cell_int (by simpa [int_cells] using hf 0 _ rfl) (some_at 0 (by omega))
  obtain ⟨b, rfl⟩ := cell_int (by simpa [int_cells] using hf 1 _ rfl) (some_at 1 (by omega))
  obtain ⟨p, rfl⟩ := cell_int (by simpa [int_cells] using hf 2 _ rfl) (some_at 2 (by omega))
  exact ⟨a, b, p, rfl⟩
set_option maxRecDepth 100000 in
theorem open_ring {b0 : Nat} {v : Value} {d : DataW H} {p : List MemPlace} (hv : Value.okWide Try.prog W .any b0 42 v) (h : DataW.Trod enc Try.prog W 0 (fun _ => true) true 42 v d p) :
    ∃ a b n, v = .agg #[.int .i64 a, .int .i64 b, .int .i64 n] := by
  obtain ⟨cs, rfl, _⟩ := okWide_struct Try.underlying42 hv
  obtain ⟨fuel, hf⟩ := h
  obtain ⟨a, b, n, hc⟩ := ring_open hf
  obtain ⟨l⟩ := cs
  simp only [Value.cells] at hc
  exact ⟨a, b, n, by rw [hc]⟩
end
end Go.Proofs.Ytefcdcneenjbgab
/-
  A bridge that comes in as an argument is written out.
-/
namespace Go.Proofs.Ytefcdcneenjbgab
open Go.ChangeShapes Go.WideShapes Go.ChangeAt Go.RowKit

theorem bri_cells : Try.prog.cellsOf 44 = 12 := by kernel_rfl
theorem lines_cells : Try.prog.cellsOf 40 = 1 := by kernel_rfl
theorem array12 {cs : List Value} (h : cs.length = 12) : ∃ c0 c1 c2 c3 c4 c5 c6 c7 c8 c9 c10 c11, cs = [c0, c1, c2, c3, c4, c5, c6, c7, c8, c9, c10, c11] := by
  match cs, h with
  | [c0, c1, c2, c3, c4, c5, c6, c7, c8, c9, c10, c11], _ => exact ⟨c0, c1, c2, c3, c4, c5, c6, c7, c8, c9, c10, c11, rfl⟩
section
variable {H : Type} {enc : TypeId × Value → H} {W : World}
set_option maxRecDepth 100000 in
theorem open_bri {b0 : Nat} {v : Value} {d : DataW H} {p : List MemPlace} (hv : Value.okWide Try.prog W .any b0 44 v) (h : DataW.Trod enc Try.prog W 0 (fun _ => true) true 44 v d p) :
    ∃ mo ba op oh ot fe fp fh ft st lo vc l, v = .agg #[.int .i64 mo, .int .i64 ba, vc, .int .i64 op, .int .i64 oh, .int .i64 ot, .bool st, .int .i64 fe, .int .i64 fp, .int .i64 fh, .int .i64 ft, .bool lo] ∧ Ls W vc l := by
  obtain ⟨cs, rfl, _⟩ := okWide_struct Try.underlying44 hv
  obtain ⟨fuel, hf⟩ := h
  obtain ⟨xs, n, _, _, hl, hlen, hf⟩ := DataW.trod_struct Try.underlying44 hf
  rw [bri_cells] at hl
  obtain ⟨l⟩ := cs
  simp only [Value.cells] at hl hf
  obtain ⟨c0, c1, c2, c3, c4, c5, c6, c7, c8, c9, c10, c11, rfl⟩ := array12 hl
  have some_at : ∀ i, i < 8 → ∃ y, xs[i]? = some y := fun i hi => by
    rw [List.getElem?_eq_getElem (by rw [hlen]; exact hi)]; simp
  have ne_at : ∀ i, i < 8 → xs[i]? ≠ none := fun i hi => by
    obtain ⟨y, hy⟩ := some_at i hi; rw [hy]; simp
  obtain ⟨mo, rfl⟩ := cell_int (by simpa [int_cells, bool_cells, lines_cells, ring_cells] using hf 0 _ rfl) (ne_at 0 (by omega))
  obtain ⟨ba, rfl⟩ := cell_int (by simpa [int_cells, bool_cells, lines_cells, ring_cells] using hf 1 _ rfl) (ne_at 1 (by omega))
  obtain ⟨y2, hy2⟩ := some_at 2 (by omega)
  obtain ⟨l, hL⟩ := lines_row (c0 := c2) (x := y2) (by rw [← hy2]; simpa [int_cells, bool_cells, lines_cells, ring_cells] using hf 2 _ rfl)
  obtain ⟨y3, hy3⟩ := some_at 3 (by omega)
  obtain ⟨op, oh, ot, e3⟩ := ring_open (cs := [c3, c4, c5]) (x := y3) (by rw [← hy3]; simpa [int_cells, bool_cells, lines_cells, ring_cells] using hf 3 _ rfl)
  obtain ⟨st, rfl⟩ := cell_bool (by simpa [int_cells, bool_cells, lines_cells, ring_cells] using hf 4 _ rfl) (ne_at 4 (by omega))
  obtain ⟨fe, rfl⟩ := cell_int (by simpa [int_cells, bool_cells, lines_cells, ring_cells] using hf 5 _ rfl) (ne_at 5 (by omega))
  obtain ⟨y6, hy6⟩ := some_at 6 (by omega)
  obtain ⟨fp, fh, ft, e6⟩ := ring_open (cs := [c8, c9, c10]) (x := y6) (by rw [← hy6]; simpa [int_cells, bool_cells, lines_cells, ring_cells] using hf 6 _ rfl)
  obtain ⟨lo, rfl⟩ := cell_bool (by simpa [int_cells, bool_cells, lines_cells, ring_cells] using hf 7 _ rfl) (ne_at 7 (by omega))
  simp only [List.cons.injEq, and_true] at e3 e6
  obtain ⟨rfl, rfl, rfl⟩ := e3
  obtain ⟨rfl, rfl, rfl⟩ := e6
  exact ⟨mo, ba, op, oh, ot, fe, fp, fh, ft, st, lo, c2, l, rfl, hL⟩
end
end Go.Proofs.Ytefcdcneenjbgab
/-
  A slice of numbers that comes in as an argument reads as a list, with its room (Slc).
-/
namespace Go.Proofs.Ytefcdcneenjbgab
open Go.ChangeShapes Go.WideShapes Go.ChangeAt Go.RowKit

section
variable {H : Type} {enc : TypeId × Value → H} {W : World}
set_option maxRecDepth 100000 in
theorem lst_row {fuel : Nat} {c0 : Value} {x : DataW H × List MemPlace} (h : DataW.trod enc Try.prog W 0 (fun _ => true) true fuel 37 [c0] = some x) : ∃ zs, Slc W c0 zs := by
  rcases open_ints Try.underlying37 Try.underlying3 int_cells h with ⟨hcs, _⟩ | ⟨a, len, cap, zs, hcs, _, hl, hm, hz, _, hcell, _⟩
  · simp only [List.cons.injEq, and_true] at hcs
    subst hcs
    exact ⟨[], Sl.nil _ _ _, _, _, rfl, by simp, by simp [maxLen]⟩
  · simp only [List.cons.injEq, and_true] at hcs
    subst hcs
    simp only [if_true] at hz
    by_cases h0 : len = 0
    · subst h0
      exact ⟨[], Sl.nil _ _ _, _, _, rfl, by simp, by omega⟩
    · obtain ⟨b, off, spot⟩ := a
      have hc := hcell 0 (by omega)
      have hspot : spot = none := by simpa [Addr.add] using World.cell?_spot hc
      subst hspot
      have hlen : (zs.take len).length = len := by simp; omega
      refine ⟨zs.take len, ⟨_, cap, by rw [hlen], by omega, .inr ⟨b, off, rfl, ?_, fun i hi => ?_⟩⟩, _, cap, by rw [hlen], by omega, by omega⟩
      · have := World.block_lt_of_cell? W _ hc
        simpa [Addr.add] using this
      · have ha : Addr.add ⟨b, off, none⟩ i = ⟨b, off + i, none⟩ := by unfold Addr.add; split <;> simp_all
        have := hcell i (by omega)
        rw [ha] at this
        rw [this]
        have hi' : i < len := by omega
        simp [nth, hi']
set_option maxRecDepth 100000 in
theorem open_lst {b0 : Nat} {v : Value} {d : DataW H} {p : List MemPlace} (hv : Value.okWide Try.prog W .any b0 37 v) (h : DataW.Trod enc Try.prog W 0 (fun _ => true) true 37 v d p) :
    ∃ l, Slc W v l := by
  obtain ⟨fuel, hf⟩ := h
  have hone : v.cells.toList = [v] := by
    simp only [Value.okWide, Try.underlying37, Cell.okWide] at hv
    cases v <;> simp_all [Value.cells, Cell.ok]
  rw [hone] at hf
  exact lst_row hf
end
end Go.Proofs.Ytefcdcneenjbgab
