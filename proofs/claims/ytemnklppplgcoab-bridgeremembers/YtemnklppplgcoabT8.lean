/-
  Laid together: SameB, ShutWalk, RemWalk, Open0, Open, OpenO.
-/
import Derived.Test.YtemnklppplgcoabT7
import Derived.Deep.CutRange
import Derived.ProofKit
import Derived.OpenShut
import Derived.ShutString
import Derived.ChangeOld
/-
  bridge.Same and drawbridgeref.SameBridge: are two bridges alike? Nothing that was there turns.
-/
namespace Go.Proofs.Ytemnklppplgcoab
open Go.RowKit

/-- Are they alike? -/
def sameBr (a b : Br) : Bool :=
  decide (a.mode = b.mode) && (decide (a.base = b.base) && (decide (a.cache = b.cache) && (decide (a.op = b.op) && (decide (a.oh = b.oh) && (decide (a.ot = b.ot) && (decide (a.stop = b.stop) && (decide (a.fen = b.fen) && (decide (a.fp = b.fp) && (decide (a.fh = b.fh) && (decide (a.ft = b.ft) && decide (a.lost = b.lost)))))))))))
theorem sameBr_self (b : Br) : sameBr b b = true := by simp [sameBr]
theorem sameBr_eq {a b : Br} (h : sameBr a b = true) : a = b := by
  simp only [sameBr, Bool.and_eq_true, decide_eq_true_eq] at h
  obtain ⟨h0, h1, h2, h3, h4, h5, h6, h7, h8, h9, h10, h11⟩ := h
  cases a; cases b
  simp_all
theorem sameBr_ne {a b : Br} (h : ¬ a = b) : sameBr a b = false := by
  cases hs : sameBr a b
  · rfl
  · exact absurd (sameBr_eq hs) h

set_option maxHeartbeats 4000000 in
theorem bSame_any (mo ba op oh ot fe fp fh ft : Int) (st lo : Bool) (vc : Value) (l : List Ln) (mo1 ba1 op1 oh1 ot1 fe1 fp1 fh1 ft1 : Int) (st1 lo1 : Bool) (vc1 : Value) (l1 : List Ln) (w : World) (h : Ls w vc l) (h1 : Ls w vc1 l1) :
    Calls Try.prog 26 #[.agg #[.int .i64 mo, .int .i64 ba, vc, .int .i64 op, .int .i64 oh, .int .i64 ot, .bool st, .int .i64 fe, .int .i64 fp, .int .i64 fh, .int .i64 ft, .bool lo], .agg #[.int .i64 mo1, .int .i64 ba1, vc1, .int .i64 op1, .int .i64 oh1, .int .i64 ot1, .bool st1, .int .i64 fe1, .int .i64 fp1, .int .i64 fh1, .int .i64 ft1, .bool lo1]] w fun e w' => e = .returned (.bool (sameBr ⟨mo, ba, l, op, oh, ot, st, fe, fp, fh, ft, lo⟩ ⟨mo1, ba1, l1, op1, oh1, ot1, st1, fe1, fp1, fh1, ft1, lo1⟩)) ∧ Below w.heap.size w w' := by
  have HS : Hid (Ls w vc l) := h
  have HS1 : Hid (Ls w vc1 l1) := h1
  obtain ⟨va, vk, rfl, -⟩ := h.shape
  obtain ⟨va1, vk1, rfl, -⟩ := h1.shape
  clear h h1
  by_cases hd : mo = mo1
  rotate_left
  · have HE : Hid (sameBr ⟨mo, ba, l, op, oh, ot, st, fe, fp, fh, ft, lo⟩ ⟨mo1, ba1, l1, op1, oh1, ot1, st1, fe1, fp1, fh1, ft1, lo1⟩ = false) := by show _ = _; simp [sameBr, hd]
    have hq : (mo == mo1) = false := by simpa using hd
    go_enter Try.func26, Try.ntmps26
    go_wp2_with fail
    go_ret
    exact ⟨ret_bool HE.out.symm, by first | exact bel_alloc (bel_alloc (Below.refl _ _) _) _ | exact bel_drewN (bel_alloc (bel_alloc (Below.refl _ _) _) _) _⟩
  subst hd
  by_cases hd : ba = ba1
  rotate_left
  · have HE : Hid (sameBr ⟨mo, ba, l, op, oh, ot, st, fe, fp, fh, ft, lo⟩ ⟨mo, ba1, l1, op1, oh1, ot1, st1, fe1, fp1, fh1, ft1, lo1⟩ = false) := by show _ = _; simp [sameBr, hd]
    have hq : (ba == ba1) = false := by simpa using hd
    go_enter Try.func26, Try.ntmps26
    go_wp2_with fail
    go_ret
    exact ⟨ret_bool HE.out.symm, by first | exact bel_alloc (bel_alloc (Below.refl _ _) _) _ | exact bel_drewN (bel_alloc (bel_alloc (Below.refl _ _) _) _) _⟩
  subst hd
  by_cases hd : l = l1
  rotate_left
  · have HE : Hid (sameBr ⟨mo, ba, l, op, oh, ot, st, fe, fp, fh, ft, lo⟩ ⟨mo, ba, l1, op1, oh1, ot1, st1, fe1, fp1, fh1, ft1, lo1⟩ = false) := by show _ = _; simp [sameBr, hd]
    have hq : decide (l = l1) = false := by simpa using hd
    go_enter Try.func26, Try.ntmps26
    go_wp2_with (go_at_call 38; refine (equalL_any _ _ l l1 _ (HS.out.keep (bel_alloc (bel_alloc (Below.refl _ _) _) _)) (HS1.out.keep (bel_alloc (bel_alloc (Below.refl _ _) _) _))).mono ?_; rintro e w' ⟨rfl, n, rfl⟩)
    go_ret
    exact ⟨ret_bool HE.out.symm, by first | exact bel_alloc (bel_alloc (Below.refl _ _) _) _ | exact bel_drewN (bel_alloc (bel_alloc (Below.refl _ _) _) _) _⟩
  subst hd
  by_cases hd : op = op1
  rotate_left
  · have HE : Hid (sameBr ⟨mo, ba, l, op, oh, ot, st, fe, fp, fh, ft, lo⟩ ⟨mo, ba, l, op1, oh1, ot1, st1, fe1, fp1, fh1, ft1, lo1⟩ = false) := by show _ = _; simp [sameBr, hd]
    have hq : (op == op1) = false := by simpa using hd
    go_enter Try.func26, Try.ntmps26
    go_wp2_with (go_at_call 38; refine (equalL_any _ _ l l _ (HS.out.keep (bel_alloc (bel_alloc (Below.refl _ _) _) _)) (HS1.out.keep (bel_alloc (bel_alloc (Below.refl _ _) _) _))).mono ?_; rintro e w' ⟨rfl, n, rfl⟩)
    go_ret
    exact ⟨ret_bool HE.out.symm, by first | exact bel_alloc (bel_alloc (Below.refl _ _) _) _ | exact bel_drewN (bel_alloc (bel_alloc (Below.refl _ _) _) _) _⟩
  subst hd
  by_cases hd : oh = oh1
  rotate_left
  · have HE : Hid (sameBr ⟨mo, ba, l, op, oh, ot, st, fe, fp, fh, ft, lo⟩ ⟨mo, ba, l, op, oh1, ot1, st1, fe1, fp1, fh1, ft1, lo1⟩ = false) := by show _ = _; simp [sameBr, hd]
    have hq : (oh == oh1) = false := by simpa using hd
    go_enter Try.func26, Try.ntmps26
    go_wp2_with (go_at_call 38; refine (equalL_any _ _ l l _ (HS.out.keep (bel_alloc (bel_alloc (Below.refl _ _) _) _)) (HS1.out.keep (bel_alloc (bel_alloc (Below.refl _ _) _) _))).mono ?_; rintro e w' ⟨rfl, n, rfl⟩)
    go_ret
    exact ⟨ret_bool HE.out.symm, by first | exact bel_alloc (bel_alloc (Below.refl _ _) _) _ | exact bel_drewN (bel_alloc (bel_alloc (Below.refl _ _) _) _) _⟩
  subst hd
  by_cases hd : ot = ot1
  rotate_left
  · have HE : Hid (sameBr ⟨mo, ba, l, op, oh, ot, st, fe, fp, fh, ft, lo⟩ ⟨mo, ba, l, op, oh, ot1, st1, fe1, fp1, fh1, ft1, lo1⟩ = false) := by show _ = _; simp [sameBr, hd]
    have hq : (ot == ot1) = false := by simpa using hd
    go_enter Try.func26, Try.ntmps26
    go_wp2_with (go_at_call 38; refine (equalL_any _ _ l l _ (HS.out.keep (bel_alloc (bel_alloc (Below.refl _ _) _) _)) (HS1.out.keep (bel_alloc (bel_alloc (Below.refl _ _) _) _))).mono ?_; rintro e w' ⟨rfl, n, rfl⟩)
    go_ret
    exact ⟨ret_bool HE.out.symm, by first | exact bel_alloc (bel_alloc (Below.refl _ _) _) _ | exact bel_drewN (bel_alloc (bel_alloc (Below.refl _ _) _) _) _⟩
  subst hd
  by_cases hd : st = st1
  rotate_left
  · have HE : Hid (sameBr ⟨mo, ba, l, op, oh, ot, st, fe, fp, fh, ft, lo⟩ ⟨mo, ba, l, op, oh, ot, st1, fe1, fp1, fh1, ft1, lo1⟩ = false) := by show _ = _; simp [sameBr, hd]
    have hq : (st == st1) = false := by simpa using hd
    go_enter Try.func26, Try.ntmps26
    go_wp2_with (go_at_call 38; refine (equalL_any _ _ l l _ (HS.out.keep (bel_alloc (bel_alloc (Below.refl _ _) _) _)) (HS1.out.keep (bel_alloc (bel_alloc (Below.refl _ _) _) _))).mono ?_; rintro e w' ⟨rfl, n, rfl⟩)
    go_ret
    exact ⟨ret_bool HE.out.symm, by first | exact bel_alloc (bel_alloc (Below.refl _ _) _) _ | exact bel_drewN (bel_alloc (bel_alloc (Below.refl _ _) _) _) _⟩
  subst hd
  by_cases hd : fe = fe1
  rotate_left
  · have HE : Hid (sameBr ⟨mo, ba, l, op, oh, ot, st, fe, fp, fh, ft, lo⟩ ⟨mo, ba, l, op, oh, ot, st, fe1, fp1, fh1, ft1, lo1⟩ = false) := by show _ = _; simp [sameBr, hd]
    have hq : (fe == fe1) = false := by simpa using hd
    go_enter Try.func26, Try.ntmps26
    go_wp2_with (go_at_call 38; refine (equalL_any _ _ l l _ (HS.out.keep (bel_alloc (bel_alloc (Below.refl _ _) _) _)) (HS1.out.keep (bel_alloc (bel_alloc (Below.refl _ _) _) _))).mono ?_; rintro e w' ⟨rfl, n, rfl⟩)
    go_ret
    exact ⟨ret_bool HE.out.symm, by first | exact bel_alloc (bel_alloc (Below.refl _ _) _) _ | exact bel_drewN (bel_alloc (bel_alloc (Below.refl _ _) _) _) _⟩
  subst hd
  by_cases hd : fp = fp1
  rotate_left
  · have HE : Hid (sameBr ⟨mo, ba, l, op, oh, ot, st, fe, fp, fh, ft, lo⟩ ⟨mo, ba, l, op, oh, ot, st, fe, fp1, fh1, ft1, lo1⟩ = false) := by show _ = _; simp [sameBr, hd]
    have hq : (fp == fp1) = false := by simpa using hd
    go_enter Try.func26, Try.ntmps26
    go_wp2_with (go_at_call 38; refine (equalL_any _ _ l l _ (HS.out.keep (bel_alloc (bel_alloc (Below.refl _ _) _) _)) (HS1.out.keep (bel_alloc (bel_alloc (Below.refl _ _) _) _))).mono ?_; rintro e w' ⟨rfl, n, rfl⟩)
    go_ret
    exact ⟨ret_bool HE.out.symm, by first | exact bel_alloc (bel_alloc (Below.refl _ _) _) _ | exact bel_drewN (bel_alloc (bel_alloc (Below.refl _ _) _) _) _⟩
  subst hd
  by_cases hd : fh = fh1
  rotate_left
  · have HE : Hid (sameBr ⟨mo, ba, l, op, oh, ot, st, fe, fp, fh, ft, lo⟩ ⟨mo, ba, l, op, oh, ot, st, fe, fp, fh1, ft1, lo1⟩ = false) := by show _ = _; simp [sameBr, hd]
    have hq : (fh == fh1) = false := by simpa using hd
    go_enter Try.func26, Try.ntmps26
    go_wp2_with (go_at_call 38; refine (equalL_any _ _ l l _ (HS.out.keep (bel_alloc (bel_alloc (Below.refl _ _) _) _)) (HS1.out.keep (bel_alloc (bel_alloc (Below.refl _ _) _) _))).mono ?_; rintro e w' ⟨rfl, n, rfl⟩)
    go_ret
    exact ⟨ret_bool HE.out.symm, by first | exact bel_alloc (bel_alloc (Below.refl _ _) _) _ | exact bel_drewN (bel_alloc (bel_alloc (Below.refl _ _) _) _) _⟩
  subst hd
  by_cases hd : ft = ft1
  rotate_left
  · have HE : Hid (sameBr ⟨mo, ba, l, op, oh, ot, st, fe, fp, fh, ft, lo⟩ ⟨mo, ba, l, op, oh, ot, st, fe, fp, fh, ft1, lo1⟩ = false) := by show _ = _; simp [sameBr, hd]
    have hq : (ft == ft1) = false := by simpa using hd
    go_enter Try.func26, Try.ntmps26
    go_wp2_with (go_at_call 38; refine (equalL_any _ _ l l _ (HS.out.keep (bel_alloc (bel_alloc (Below.refl _ _) _) _)) (HS1.out.keep (bel_alloc (bel_alloc (Below.refl _ _) _) _))).mono ?_; rintro e w' ⟨rfl, n, rfl⟩)
    go_ret
    exact ⟨ret_bool HE.out.symm, by first | exact bel_alloc (bel_alloc (Below.refl _ _) _) _ | exact bel_drewN (bel_alloc (bel_alloc (Below.refl _ _) _) _) _⟩
  subst hd
  by_cases hd : lo = lo1
  rotate_left
  · have HE : Hid (sameBr ⟨mo, ba, l, op, oh, ot, st, fe, fp, fh, ft, lo⟩ ⟨mo, ba, l, op, oh, ot, st, fe, fp, fh, ft, lo1⟩ = false) := by show _ = _; simp [sameBr, hd]
    have hq : (lo == lo1) = false := by simpa using hd
    go_enter Try.func26, Try.ntmps26
    go_wp2_with (go_at_call 38; refine (equalL_any _ _ l l _ (HS.out.keep (bel_alloc (bel_alloc (Below.refl _ _) _) _)) (HS1.out.keep (bel_alloc (bel_alloc (Below.refl _ _) _) _))).mono ?_; rintro e w' ⟨rfl, n, rfl⟩)
    go_ret
    exact ⟨ret_bool HE.out.symm, by first | exact bel_alloc (bel_alloc (Below.refl _ _) _) _ | exact bel_drewN (bel_alloc (bel_alloc (Below.refl _ _) _) _) _⟩
  subst hd
  have HE : Hid (sameBr ⟨mo, ba, l, op, oh, ot, st, fe, fp, fh, ft, lo⟩ ⟨mo, ba, l, op, oh, ot, st, fe, fp, fh, ft, lo⟩ = true) := sameBr_self _
  go_enter Try.func26, Try.ntmps26
  go_wp2_with (go_at_call 38; refine (equalL_any _ _ l l _ (HS.out.keep (bel_alloc (bel_alloc (Below.refl _ _) _) _)) (HS1.out.keep (bel_alloc (bel_alloc (Below.refl _ _) _) _))).mono ?_; rintro e w' ⟨rfl, n, rfl⟩)
  go_ret
  exact ⟨ret_bool HE.out.symm, by first | exact bel_alloc (bel_alloc (Below.refl _ _) _) _ | exact bel_drewN (bel_alloc (bel_alloc (Below.refl _ _) _) _) _⟩

set_option maxHeartbeats 4000000 in
theorem sameBridge_any (mo ba op oh ot fe fp fh ft : Int) (st lo : Bool) (vc : Value) (l : List Ln) (mo1 ba1 op1 oh1 ot1 fe1 fp1 fh1 ft1 : Int) (st1 lo1 : Bool) (vc1 : Value) (l1 : List Ln) (w : World) (h : Ls w vc l) (h1 : Ls w vc1 l1) :
    Calls Try.prog 27 #[.agg #[.int .i64 mo, .int .i64 ba, vc, .int .i64 op, .int .i64 oh, .int .i64 ot, .bool st, .int .i64 fe, .int .i64 fp, .int .i64 fh, .int .i64 ft, .bool lo], .agg #[.int .i64 mo1, .int .i64 ba1, vc1, .int .i64 op1, .int .i64 oh1, .int .i64 ot1, .bool st1, .int .i64 fe1, .int .i64 fp1, .int .i64 fh1, .int .i64 ft1, .bool lo1]] w fun e w' => e = .returned (.bool (sameBr ⟨mo, ba, l, op, oh, ot, st, fe, fp, fh, ft, lo⟩ ⟨mo1, ba1, l1, op1, oh1, ot1, st1, fe1, fp1, fh1, ft1, lo1⟩)) ∧ Below w.heap.size w w' := by
  have HS : Hid (Ls w vc l) := h
  have HS1 : Hid (Ls w vc1 l1) := h1
  obtain ⟨va, vk, rfl, -⟩ := h.shape
  obtain ⟨va1, vk1, rfl, -⟩ := h1.shape
  clear h h1
  by_cases hd : mo = mo1
  rotate_left
  · have HE : Hid (sameBr ⟨mo, ba, l, op, oh, ot, st, fe, fp, fh, ft, lo⟩ ⟨mo1, ba1, l1, op1, oh1, ot1, st1, fe1, fp1, fh1, ft1, lo1⟩ = false) := by show _ = _; simp [sameBr, hd]
    have hq : (mo == mo1) = false := by simpa using hd
    go_enter Try.func27, Try.ntmps27
    go_wp2_with fail
    go_ret
    exact ⟨ret_bool HE.out.symm, by first | exact bel_alloc (bel_alloc (Below.refl _ _) _) _ | exact bel_drewN (bel_alloc (bel_alloc (Below.refl _ _) _) _) _⟩
  subst hd
  by_cases hd : ba = ba1
  rotate_left
  · have HE : Hid (sameBr ⟨mo, ba, l, op, oh, ot, st, fe, fp, fh, ft, lo⟩ ⟨mo, ba1, l1, op1, oh1, ot1, st1, fe1, fp1, fh1, ft1, lo1⟩ = false) := by show _ = _; simp [sameBr, hd]
    have hq : (ba == ba1) = false := by simpa using hd
    go_enter Try.func27, Try.ntmps27
    go_wp2_with fail
    go_ret
    exact ⟨ret_bool HE.out.symm, by first | exact bel_alloc (bel_alloc (Below.refl _ _) _) _ | exact bel_drewN (bel_alloc (bel_alloc (Below.refl _ _) _) _) _⟩
  subst hd
  by_cases hd : l = l1
  rotate_left
  · have HE : Hid (sameBr ⟨mo, ba, l, op, oh, ot, st, fe, fp, fh, ft, lo⟩ ⟨mo, ba, l1, op1, oh1, ot1, st1, fe1, fp1, fh1, ft1, lo1⟩ = false) := by show _ = _; simp [sameBr, hd]
    have hq : decide (l = l1) = false := by simpa using hd
    go_enter Try.func27, Try.ntmps27
    go_wp2_with (go_at_call 38; refine (equalL_any _ _ l l1 _ (HS.out.keep (bel_alloc (bel_alloc (Below.refl _ _) _) _)) (HS1.out.keep (bel_alloc (bel_alloc (Below.refl _ _) _) _))).mono ?_; rintro e w' ⟨rfl, n, rfl⟩)
    go_ret
    exact ⟨ret_bool HE.out.symm, by first | exact bel_alloc (bel_alloc (Below.refl _ _) _) _ | exact bel_drewN (bel_alloc (bel_alloc (Below.refl _ _) _) _) _⟩
  subst hd
  by_cases hd : op = op1
  rotate_left
  · have HE : Hid (sameBr ⟨mo, ba, l, op, oh, ot, st, fe, fp, fh, ft, lo⟩ ⟨mo, ba, l, op1, oh1, ot1, st1, fe1, fp1, fh1, ft1, lo1⟩ = false) := by show _ = _; simp [sameBr, hd]
    have hq : (op == op1) = false := by simpa using hd
    go_enter Try.func27, Try.ntmps27
    go_wp2_with (go_at_call 38; refine (equalL_any _ _ l l _ (HS.out.keep (bel_alloc (bel_alloc (Below.refl _ _) _) _)) (HS1.out.keep (bel_alloc (bel_alloc (Below.refl _ _) _) _))).mono ?_; rintro e w' ⟨rfl, n, rfl⟩)
    go_ret
    exact ⟨ret_bool HE.out.symm, by first | exact bel_alloc (bel_alloc (Below.refl _ _) _) _ | exact bel_drewN (bel_alloc (bel_alloc (Below.refl _ _) _) _) _⟩
  subst hd
  by_cases hd : oh = oh1
  rotate_left
  · have HE : Hid (sameBr ⟨mo, ba, l, op, oh, ot, st, fe, fp, fh, ft, lo⟩ ⟨mo, ba, l, op, oh1, ot1, st1, fe1, fp1, fh1, ft1, lo1⟩ = false) := by show _ = _; simp [sameBr, hd]
    have hq : (oh == oh1) = false := by simpa using hd
    go_enter Try.func27, Try.ntmps27
    go_wp2_with (go_at_call 38; refine (equalL_any _ _ l l _ (HS.out.keep (bel_alloc (bel_alloc (Below.refl _ _) _) _)) (HS1.out.keep (bel_alloc (bel_alloc (Below.refl _ _) _) _))).mono ?_; rintro e w' ⟨rfl, n, rfl⟩)
    go_ret
    exact ⟨ret_bool HE.out.symm, by first | exact bel_alloc (bel_alloc (Below.refl _ _) _) _ | exact bel_drewN (bel_alloc (bel_alloc (Below.refl _ _) _) _) _⟩
  subst hd
  by_cases hd : ot = ot1
  rotate_left
  · have HE : Hid (sameBr ⟨mo, ba, l, op, oh, ot, st, fe, fp, fh, ft, lo⟩ ⟨mo, ba, l, op, oh, ot1, st1, fe1, fp1, fh1, ft1, lo1⟩ = false) := by show _ = _; simp [sameBr, hd]
    have hq : (ot == ot1) = false := by simpa using hd
    go_enter Try.func27, Try.ntmps27
    go_wp2_with (go_at_call 38; refine (equalL_any _ _ l l _ (HS.out.keep (bel_alloc (bel_alloc (Below.refl _ _) _) _)) (HS1.out.keep (bel_alloc (bel_alloc (Below.refl _ _) _) _))).mono ?_; rintro e w' ⟨rfl, n, rfl⟩)
    go_ret
    exact ⟨ret_bool HE.out.symm, by first | exact bel_alloc (bel_alloc (Below.refl _ _) _) _ | exact bel_drewN (bel_alloc (bel_alloc (Below.refl _ _) _) _) _⟩
  subst hd
  by_cases hd : st = st1
  rotate_left
  · have HE : Hid (sameBr ⟨mo, ba, l, op, oh, ot, st, fe, fp, fh, ft, lo⟩ ⟨mo, ba, l, op, oh, ot, st1, fe1, fp1, fh1, ft1, lo1⟩ = false) := by show _ = _; simp [sameBr, hd]
    have hq : (st == st1) = false := by simpa using hd
    go_enter Try.func27, Try.ntmps27
    go_wp2_with (go_at_call 38; refine (equalL_any _ _ l l _ (HS.out.keep (bel_alloc (bel_alloc (Below.refl _ _) _) _)) (HS1.out.keep (bel_alloc (bel_alloc (Below.refl _ _) _) _))).mono ?_; rintro e w' ⟨rfl, n, rfl⟩)
    go_ret
    exact ⟨ret_bool HE.out.symm, by first | exact bel_alloc (bel_alloc (Below.refl _ _) _) _ | exact bel_drewN (bel_alloc (bel_alloc (Below.refl _ _) _) _) _⟩
  subst hd
  by_cases hd : fe = fe1
  rotate_left
  · have HE : Hid (sameBr ⟨mo, ba, l, op, oh, ot, st, fe, fp, fh, ft, lo⟩ ⟨mo, ba, l, op, oh, ot, st, fe1, fp1, fh1, ft1, lo1⟩ = false) := by show _ = _; simp [sameBr, hd]
    have hq : (fe == fe1) = false := by simpa using hd
    go_enter Try.func27, Try.ntmps27
    go_wp2_with (go_at_call 38; refine (equalL_any _ _ l l _ (HS.out.keep (bel_alloc (bel_alloc (Below.refl _ _) _) _)) (HS1.out.keep (bel_alloc (bel_alloc (Below.refl _ _) _) _))).mono ?_; rintro e w' ⟨rfl, n, rfl⟩)
    go_ret
    exact ⟨ret_bool HE.out.symm, by first | exact bel_alloc (bel_alloc (Below.refl _ _) _) _ | exact bel_drewN (bel_alloc (bel_alloc (Below.refl _ _) _) _) _⟩
  subst hd
  by_cases hd : fp = fp1
  rotate_left
  · have HE : Hid (sameBr ⟨mo, ba, l, op, oh, ot, st, fe, fp, fh, ft, lo⟩ ⟨mo, ba, l, op, oh, ot, st, fe, fp1, fh1, ft1, lo1⟩ = false) := by show _ = _; simp [sameBr, hd]
    have hq : (fp == fp1) = false := by simpa using hd
    go_enter Try.func27, Try.ntmps27
    go_wp2_with (go_at_call 38; refine (equalL_any _ _ l l _ (HS.out.keep (bel_alloc (bel_alloc (Below.refl _ _) _) _)) (HS1.out.keep (bel_alloc (bel_alloc (Below.refl _ _) _) _))).mono ?_; rintro e w' ⟨rfl, n, rfl⟩)
    go_ret
    exact ⟨ret_bool HE.out.symm, by first | exact bel_alloc (bel_alloc (Below.refl _ _) _) _ | exact bel_drewN (bel_alloc (bel_alloc (Below.refl _ _) _) _) _⟩
  subst hd
  by_cases hd : fh = fh1
  rotate_left
  · have HE : Hid (sameBr ⟨mo, ba, l, op, oh, ot, st, fe, fp, fh, ft, lo⟩ ⟨mo, ba, l, op, oh, ot, st, fe, fp, fh1, ft1, lo1⟩ = false) := by show _ = _; simp [sameBr, hd]
    have hq : (fh == fh1) = false := by simpa using hd
    go_enter Try.func27, Try.ntmps27
    go_wp2_with (go_at_call 38; refine (equalL_any _ _ l l _ (HS.out.keep (bel_alloc (bel_alloc (Below.refl _ _) _) _)) (HS1.out.keep (bel_alloc (bel_alloc (Below.refl _ _) _) _))).mono ?_; rintro e w' ⟨rfl, n, rfl⟩)
    go_ret
    exact ⟨ret_bool HE.out.symm, by first | exact bel_alloc (bel_alloc (Below.refl _ _) _) _ | exact bel_drewN (bel_alloc (bel_alloc (Below.refl _ _) _) _) _⟩
  subst hd
  by_cases hd : ft = ft1
  rotate_left
  · have HE : Hid (sameBr ⟨mo, ba, l, op, oh, ot, st, fe, fp, fh, ft, lo⟩ ⟨mo, ba, l, op, oh, ot, st, fe, fp, fh, ft1, lo1⟩ = false) := by show _ = _; simp [sameBr, hd]
    have hq : (ft == ft1) = false := by simpa using hd
    go_enter Try.func27, Try.ntmps27
    go_wp2_with (go_at_call 38; refine (equalL_any _ _ l l _ (HS.out.keep (bel_alloc (bel_alloc (Below.refl _ _) _) _)) (HS1.out.keep (bel_alloc (bel_alloc (Below.refl _ _) _) _))).mono ?_; rintro e w' ⟨rfl, n, rfl⟩)
    go_ret
    exact ⟨ret_bool HE.out.symm, by first | exact bel_alloc (bel_alloc (Below.refl _ _) _) _ | exact bel_drewN (bel_alloc (bel_alloc (Below.refl _ _) _) _) _⟩
  subst hd
  by_cases hd : lo = lo1
  rotate_left
  · have HE : Hid (sameBr ⟨mo, ba, l, op, oh, ot, st, fe, fp, fh, ft, lo⟩ ⟨mo, ba, l, op, oh, ot, st, fe, fp, fh, ft, lo1⟩ = false) := by show _ = _; simp [sameBr, hd]
    have hq : (lo == lo1) = false := by simpa using hd
    go_enter Try.func27, Try.ntmps27
    go_wp2_with (go_at_call 38; refine (equalL_any _ _ l l _ (HS.out.keep (bel_alloc (bel_alloc (Below.refl _ _) _) _)) (HS1.out.keep (bel_alloc (bel_alloc (Below.refl _ _) _) _))).mono ?_; rintro e w' ⟨rfl, n, rfl⟩)
    go_ret
    exact ⟨ret_bool HE.out.symm, by first | exact bel_alloc (bel_alloc (Below.refl _ _) _) _ | exact bel_drewN (bel_alloc (bel_alloc (Below.refl _ _) _) _) _⟩
  subst hd
  have HE : Hid (sameBr ⟨mo, ba, l, op, oh, ot, st, fe, fp, fh, ft, lo⟩ ⟨mo, ba, l, op, oh, ot, st, fe, fp, fh, ft, lo⟩ = true) := sameBr_self _
  go_enter Try.func27, Try.ntmps27
  go_wp2_with (go_at_call 38; refine (equalL_any _ _ l l _ (HS.out.keep (bel_alloc (bel_alloc (Below.refl _ _) _) _)) (HS1.out.keep (bel_alloc (bel_alloc (Below.refl _ _) _) _))).mono ?_; rintro e w' ⟨rfl, n, rfl⟩)
  go_ret
  exact ⟨ret_bool HE.out.symm, by first | exact bel_alloc (bel_alloc (Below.refl _ _) _) _ | exact bel_drewN (bel_alloc (bel_alloc (Below.refl _ _) _) _) _⟩
end Go.Proofs.Ytemnklppplgcoab
/-
  The walk of BridgeShut: while the bridge is off, or bare.
-/
namespace Go.Proofs.Ytemnklppplgcoab
open Go.RowKit

theorem at8_any (k : Int) (w : World) :
    Calls Try.prog 34 #[.int .i64 k, .int .i64 8] w fun e w' => e = .returned (.int .i64 (k % 8)) ∧ w' = w := by
  have b1 : -8 < k.tmod 8 := Int.lt_tmod_of_pos k (by decide)
  have b2 : k.tmod 8 < 8 := Int.tmod_lt_of_pos k (by decide)
  have HM : Hid (k.tmod 8 = k - 8 * k.tdiv 8) := Int.tmod_def k 8
  by_cases h : k.tmod 8 < 0
  · go_enter Try.func34, Try.ntmps34
    go_wp2
    go_ret
    exact ⟨ret_int (by have := HM.out; omega), rfl⟩
  · go_enter Try.func34, Try.ntmps34
    go_wp2
    go_ret
    exact ⟨ret_int (by have := HM.out; omega), rfl⟩

theorem at_of (k n : Int) (w : World) (hn : n = 8 ∨ n = 64) :
    Calls Try.prog 34 #[.int .i64 k, .int .i64 n] w fun e w' => e = .returned (.int .i64 (k % n)) ∧ w' = w := by
  rcases hn with rfl | rfl
  · exact at8_any k w
  · exact at64_any k w

theorem thE_off (zs : List Int) (ba : Int) (l : List Ln) (op oh ot : Int) (st : Bool) (fe fp fh ft : Int) (lo : Bool) (d p : Int) : thE zs ⟨1, ba, l, op, oh, ot, st, fe, fp, fh, ft, lo⟩ d p = thE zs ⟨0, ba, l, op, oh, ot, st, fe, fp, fh, ft, lo⟩ d p := by
  have : chkB ⟨1, ba, l, op, oh, ot, st, fe, fp, fh, ft, lo⟩ = chkB ⟨0, ba, l, op, oh, ot, st, fe, fp, fh, ft, lo⟩ := by simp [chkB, rngBr]
  rw [thE, thE, bothB, bothB, this]

set_option maxHeartbeats 4000000 in
theorem bridgeShut_walk (v : Value) (zs : List Int) (mo ba op oh ot fe fp fh ft : Int) (st lo : Bool) (vc : Value) (l : List Ln) (dv pg : Int) (wt : Bool) (w : World) (hs : Sl w v zs) (h : Ls w vc l) :
    Calls Try.prog 8 #[.agg #[v], .agg #[.int .i64 mo, .int .i64 ba, vc, .int .i64 op, .int .i64 oh, .int .i64 ot, .bool st, .int .i64 fe, .int .i64 fp, .int .i64 fh, .int .i64 ft, .bool lo], .int .i64 dv, .int .i64 pg, .bool wt] w fun e w' => e = .returned (.bool true) ∧ Below w.heap.size w w' := by
  have HS : Hid (Ls w vc l) := h
  obtain ⟨va, vk, rfl, -⟩ := h.shape
  have HM : Hid (Sl w v zs) := hs
  obtain ⟨ma, mc, rfl⟩ := hs.shape
  clear h hs
  obtain ⟨d, hd⟩ : ∃ d, dv % 8 = d := ⟨_, rfl⟩
  obtain ⟨p, hp⟩ : ∃ p, pg % 64 = p := ⟨_, rfl⟩
  have HD : Hid (dv % 8 = d) := hd
  have HP : Hid (pg % 64 = p) := hp
  clear hd hp
  obtain ⟨E, hE⟩ : ∃ E, thE zs ⟨0, ba, l, op, oh, ot, st, fe, fp, fh, ft, lo⟩ d p = E := ⟨_, rfl⟩
  have HE : Hid (_ = _) := hE
  have HE1 : Hid (thE zs ⟨1, ba, l, op, oh, ot, st, fe, fp, fh, ft, lo⟩ d p = E) := (thE_off ..).trans hE
  clear hE
  have BA : Hid (Below w.heap.size w _) := bel_alloc (bel_alloc (Below.refl w.heap.size w) (.cells #[.slice ma zs.length mc] 39)) (.cells #[.int .i64 0, .int .i64 ba, .slice va l.length vk, .int .i64 op, .int .i64 oh, .int .i64 ot, .bool st, .int .i64 fe, .int .i64 fp, .int .i64 fh, .int .i64 ft, .bool lo] 44)
  by_cases h0 : E = 0
  rotate_left
  · have HR0 : Hid (thR zs ⟨0, ba, l, op, oh, ot, st, fe, fp, fh, ft, lo⟩ d p wt = (B0, 0, 0)) := if_neg (by rw [HE.out]; exact h0)
    have HR1 : Hid (thR zs ⟨1, ba, l, op, oh, ot, st, fe, fp, fh, ft, lo⟩ d p wt = (B0, 0, 0)) := if_neg (by rw [HE1.out]; exact h0)
    have hq : (E != 0) = true := by simpa using h0
    go_enter Try.func8, Try.ntmps8
    go_wp2_with (go_at_call 34; refine (at_of _ _ _ (by decide)).mono ?_; rintro e w' ⟨rfl, rfl⟩; first | rw [HD.out] | rw [HP.out])
    refine (through_at (HM.out.keep BA.out) (HS.out.keep BA.out) HE.out HR0.out).mono ?_
    rintro e w1 ⟨va1, vk1, rfl, -, b1⟩
    have X0 := ((Box.newAt (n := w.heap.size) rfl 39 #[.slice ma zs.length mc]).past _).keep b1
    have X1 := (Box.newAt (n := w.heap.size + 1) (by simp) 44 #[.int .i64 0, .int .i64 ba, .slice va l.length vk, .int .i64 op, .int .i64 oh, .int .i64 ot, .bool st, .int .i64 fe, .int .i64 fp, .int .i64 fh, .int .i64 ft, .bool lo]).keep b1
    have B1 : Hid (Below w.heap.size w w1) := bel_trans BA.out b1
    clear b1 BA
    obtain ⟨m0, -, s0⟩ := X0.one
    obtain ⟨⟨q0, q1, q2, q3, q4, q5, q6, q7, q8, q9, q10, q11⟩, s1⟩ := X1.twelve
    obtain ⟨y0, -⟩ := X1.marks
    go_wp2_with fail
    have B2 : Hid (Below w.heap.size w ((w1.setCell ⟨w.heap.size + 1, 0, none⟩ (.int .i64 1)).alloc (.cells #[.int .i64 0, .int .i64 0, .slice va1 0 vk1, .int .i64 0, .int .i64 0, .int .i64 0, .bool false, .int .i64 0, .int .i64 0, .int .i64 0, .int .i64 0, .bool false] 44))) := bel_alloc (bel_set (p := ⟨w.heap.size + 1, 0, none⟩) (by dsimp only; omega) B1.out _) _
    refine (through_at (HM.out.keep B2.out) (HS.out.keep B2.out) HE1.out HR1.out).mono ?_
    rintro e w2 ⟨va2, vk2, rfl, -, b2⟩
    have B3 : Hid (Below w.heap.size w w2) := bel_trans B2.out b2
    clear b2 B1 B2 m0 s0 q0 q1 q2 q3 q4 q5 q6 q7 q8 q9 q10 q11 s1 y0
    go_wp2_with fail
    refine (crossed_true _).mono ?_
    rintro e w3 ⟨rfl, b3⟩
    have B4 : Hid (Below w.heap.size w w3) := bel_trans (bel_alloc B3.out _) b3
    clear b3 B3
    go_wp2_with fail
    refine (crossed_true _).mono ?_
    rintro e w4 ⟨rfl, b4⟩
    have B5 : Hid (Below w.heap.size w w4) := bel_trans B4.out b4
    clear b4 B4
    go_wp2
    go_ret
    exact ⟨rfl, B5.out⟩
  subst h0
  have HR0 : Hid (thR zs ⟨0, ba, l, op, oh, ot, st, fe, fp, fh, ft, lo⟩ d p wt = (⟨0, ba, l, op, oh, ot, st, fe, fp, fh, ft, lo⟩, 0, 1)) := by show _ = _; rw [thR, if_pos HE.out]; rfl
  have HR1 : Hid (thR zs ⟨1, ba, l, op, oh, ot, st, fe, fp, fh, ft, lo⟩ d p wt = (⟨1, ba, l, op, oh, ot, st, fe, fp, fh, ft, lo⟩, p, 0)) := by show _ = _; rw [thR, if_pos HE1.out]; rfl
  go_enter Try.func8, Try.ntmps8
  go_wp2_with (go_at_call 34; refine (at_of _ _ _ (by decide)).mono ?_; rintro e w' ⟨rfl, rfl⟩; first | rw [HD.out] | rw [HP.out])
  refine (through_at (HM.out.keep BA.out) (HS.out.keep BA.out) HE.out HR0.out).mono ?_
  rintro e w1 ⟨va1, vk1, rfl, hL1, b1⟩
  have X0 := ((Box.newAt (n := w.heap.size) rfl 39 #[.slice ma zs.length mc]).past _).keep b1
  have X1 := (Box.newAt (n := w.heap.size + 1) (by simp) 44 #[.int .i64 0, .int .i64 ba, .slice va l.length vk, .int .i64 op, .int .i64 oh, .int .i64 ot, .bool st, .int .i64 fe, .int .i64 fp, .int .i64 fh, .int .i64 ft, .bool lo]).keep b1
  have B1 : Hid (Below w.heap.size w w1) := bel_trans BA.out b1
  have HL1 : Hid (Ls ((w1.setCell ⟨w.heap.size + 1, 0, none⟩ (.int .i64 1)).alloc (.cells #[.int .i64 0, .int .i64 ba, .slice va1 l.length vk1, .int .i64 op, .int .i64 oh, .int .i64 ot, .bool st, .int .i64 fe, .int .i64 fp, .int .i64 fh, .int .i64 ft, .bool lo] 44)) (.slice va1 l.length vk1) l) := (hL1.putAt (hL1.apart X1) 0 _).alloc _
  have X1' : Box ((w1.setCell ⟨w.heap.size + 1, 0, none⟩ (.int .i64 1)).alloc (.cells #[.int .i64 0, .int .i64 ba, .slice va1 l.length vk1, .int .i64 op, .int .i64 oh, .int .i64 ot, .bool st, .int .i64 fe, .int .i64 fp, .int .i64 fh, .int .i64 ft, .bool lo] 44)) (w.heap.size + 1) 44 #[.int .i64 1, .int .i64 ba, .slice va l.length vk, .int .i64 op, .int .i64 oh, .int .i64 ot, .bool st, .int .i64 fe, .int .i64 fp, .int .i64 fh, .int .i64 ft, .bool lo] := (Box.set X1 0 (.int .i64 1)).past _
  have X2' : Box ((w1.setCell ⟨w.heap.size + 1, 0, none⟩ (.int .i64 1)).alloc (.cells #[.int .i64 0, .int .i64 ba, .slice va1 l.length vk1, .int .i64 op, .int .i64 oh, .int .i64 ot, .bool st, .int .i64 fe, .int .i64 fp, .int .i64 fh, .int .i64 ft, .bool lo] 44)) w1.heap.size 44 #[.int .i64 0, .int .i64 ba, .slice va1 l.length vk1, .int .i64 op, .int .i64 oh, .int .i64 ot, .bool st, .int .i64 fe, .int .i64 fp, .int .i64 fh, .int .i64 ft, .bool lo] := Box.newAt (by simp) _ _
  have B2 : Hid (Below w.heap.size w ((w1.setCell ⟨w.heap.size + 1, 0, none⟩ (.int .i64 1)).alloc (.cells #[.int .i64 0, .int .i64 ba, .slice va1 l.length vk1, .int .i64 op, .int .i64 oh, .int .i64 ot, .bool st, .int .i64 fe, .int .i64 fp, .int .i64 fh, .int .i64 ft, .bool lo] 44))) := bel_alloc (bel_set (p := ⟨w.heap.size + 1, 0, none⟩) (by dsimp only; omega) B1.out _) _
  clear b1 BA hL1 B1
  obtain ⟨m0, -, s0⟩ := X0.one
  obtain ⟨⟨q0, q1, q2, q3, q4, q5, q6, q7, q8, q9, q10, q11⟩, s1⟩ := X1.twelve
  obtain ⟨y0, -⟩ := X1.marks
  go_wp2_with fail
  clear m0 s0 q0 q1 q2 q3 q4 q5 q6 q7 q8 q9 q10 q11 s1 y0
  generalize ((w1.setCell ⟨w.heap.size + 1, 0, none⟩ (.int .i64 1)).alloc (.cells #[.int .i64 0, .int .i64 ba, .slice va1 l.length vk1, .int .i64 op, .int .i64 oh, .int .i64 ot, .bool st, .int .i64 fe, .int .i64 fp, .int .i64 fh, .int .i64 ft, .bool lo] 44)) = W2 at *
  generalize w1.heap.size = N at *
  refine (through_at (HM.out.keep B2.out) (HS.out.keep B2.out) HE1.out HR1.out).mono ?_
  rintro e w2 ⟨va2, vk2, rfl, hL2, b2⟩
  have X1 := (X1'.keep b2)
  have X2 := (X2'.keep b2)
  have HL1 : Hid (Ls _ (.slice va1 l.length vk1) l) := (HL1.out.keep b2)
  have B3 : Hid (Below w.heap.size w w2) := bel_trans B2.out b2
  clear b2 B2 X1' X2'
  go_wp2_with fail
  refine (crossed_true _).mono ?_
  rintro e w3 ⟨rfl, b3⟩
  have X1 := (X1.past _).keep b3
  have X2 := (X2.past _).keep b3
  have X3 := (Box.newAt (w := w2) rfl 44 #[.int .i64 1, .int .i64 ba, .slice va2 l.length vk2, .int .i64 op, .int .i64 oh, .int .i64 ot, .bool st, .int .i64 fe, .int .i64 fp, .int .i64 fh, .int .i64 ft, .bool lo]).keep b3
  have HL1 : Hid (Ls _ (.slice va1 l.length vk1) l) := (HL1.out.alloc _).keep b3
  have HL2 : Hid (Ls _ (.slice va2 l.length vk2) l) := (hL2.alloc _).keep b3
  have B4 : Hid (Below w.heap.size w w3) := bel_trans (bel_alloc B3.out _) b3
  have HSS : Hid (Ls w3 (.slice va l.length vk) l) := HS.out.keep B4.out
  clear b3 B3 hL2
  generalize w2.heap.size = O at *
  obtain ⟨⟨q0, q1, q2, q3, q4, q5, q6, q7, q8, q9, q10, q11⟩, s1⟩ := X1.twelve
  obtain ⟨⟨u0, u1, u2, u3, u4, u5, u6, u7, u8, u9, u10, u11⟩, s3⟩ := X3.twelve
  go_wp2_with fail
  refine (bSame_any _ _ _ _ _ _ _ _ _ _ _ _ l _ _ _ _ _ _ _ _ _ _ _ _ l _ HL2.out HSS.out).mono ?_
  rintro e w4 ⟨rfl, b4⟩
  rw [sameBr_self]
  clear q0 q1 q2 q3 q4 q5 q6 q7 q8 q9 q10 q11 s1 u0 u1 u2 u3 u4 u5 u6 u7 u8 u9 u10 u11 s3
  have X1 := X1.keep b4
  have X2 := X2.keep b4
  have B5 : Hid (Below w.heap.size w w4) := bel_trans B4.out b4
  have HL1 : Hid (Ls _ (.slice va1 l.length vk1) l) := HL1.out.keep b4
  have HSS : Hid (Ls _ (.slice va l.length vk) l) := HSS.out.keep b4
  clear b4 B4 HL2
  obtain ⟨⟨q0, q1, q2, q3, q4, q5, q6, q7, q8, q9, q10, q11⟩, s1⟩ := X1.twelve
  obtain ⟨⟨u0, u1, u2, u3, u4, u5, u6, u7, u8, u9, u10, u11⟩, s3⟩ := X2.twelve
  go_wp2_with fail
  refine (equalL_any _ _ l l _ HL1.out HSS.out).mono ?_
  rintro e w5 ⟨rfl, n, rfl⟩
  rw [decide_eq_true (rfl : l = l)]
  go_wp2
  go_ret
  exact ⟨rfl, bel_drewN B5.out _⟩
end Go.Proofs.Ytemnklppplgcoab
/-
  The walk of BridgeRemembers.
-/
namespace Go.Proofs.Ytemnklppplgcoab
open Go.RowKit

/-- What Through answers of right things: the lines alone may be others. -/
theorem thR_ways {zs : List Int} {mo ba op oh ot fe fp fh ft : Int} {st lo : Bool} {l : List Ln} {d p : Int} {wt : Bool} (hE : thE zs ⟨mo, ba, l, op, oh, ot, st, fe, fp, fh, ft, lo⟩ d p = 0) :
    ∃ l1 k f, thR zs ⟨mo, ba, l, op, oh, ot, st, fe, fp, fh, ft, lo⟩ d p wt = (⟨mo, ba, l1, op, oh, ot, st, fe, fp, fh, ft, lo⟩, k, f) ∧ goT zs ⟨mo, ba, l, op, oh, ot, st, fe, fp, fh, ft, lo⟩ d p wt = (⟨mo, ba, l1, op, oh, ot, st, fe, fp, fh, ft, lo⟩, k, f) ∧ chkB ⟨mo, ba, l1, op, oh, ot, st, fe, fp, fh, ft, lo⟩ = 0 ∧ (¬ f = 0 → l1 = l) := by
  obtain ⟨⟨c, k, f⟩, hg⟩ : ∃ x, goT zs ⟨mo, ba, l, op, oh, ot, st, fe, fp, fh, ft, lo⟩ d p wt = x := ⟨_, rfl⟩
  obtain ⟨h1, h2, _, _, l1, rfl⟩ := goT_good hE hg
  refine ⟨l1, k, f, by rw [thR, if_pos hE]; exact hg, hg, h1, fun hf => ?_⟩
  have := h2 hf
  simp only [Br.with, Br.mk.injEq, true_and, and_true] at this
  exact this

/-- What the statement asks of the reckoning alone. -/
theorem rem_math {zs ns : List Int} {mo ba op oh ot fe fp fh ft : Int} {st lo : Bool} {l : List Ln} {d p : Int} {wt : Bool} {l1 : List Ln} {k f : Int} (hE : thE zs ⟨mo, ba, l, op, oh, ot, st, fe, fp, fh, ft, lo⟩ d p = 0) (hn : chk ns = 0) (hg : goT zs ⟨mo, ba, l, op, oh, ot, st, fe, fp, fh, ft, lo⟩ d p wt = (⟨mo, ba, l1, op, oh, ot, st, fe, fp, fh, ft, lo⟩, k, f)) (hc : chkB ⟨mo, ba, l1, op, oh, ot, st, fe, fp, fh, ft, lo⟩ = 0) :
    thE ns ⟨mo, ba, l1, op, oh, ot, st, fe, fp, fh, ft, lo⟩ d p = 0 ∧ (0 ≤ fndC l1 d p → f = 0 → mo = 2 → thR ns ⟨mo, ba, l1, op, oh, ot, st, fe, fp, fh, ft, lo⟩ d p wt = (⟨mo, ba, l1, op, oh, ot, st, fe, fp, fh, ft, lo⟩, k, 0)) ∧
    ∃ l2 l3 j g Y, drE l1 3 = 0 ∧ drC l1 3 d p = l2 ∧ thE ns ⟨mo, ba, l2, op, oh, ot, st, fe, fp, fh, ft, lo⟩ d p = 0 ∧ thR ns ⟨mo, ba, l2, op, oh, ot, st, fe, fp, fh, ft, lo⟩ d p wt = (⟨mo, ba, l3, op, oh, ot, st, fe, fp, fh, ft, lo⟩, j, g) ∧ thE ns ⟨mo, ba, [], op, oh, ot, st, fe, fp, fh, ft, lo⟩ d p = 0 ∧ thR ns ⟨mo, ba, [], op, oh, ot, st, fe, fp, fh, ft, lo⟩ d p wt = (Y, j, g) := by
  obtain ⟨hk, hb, hd, hp⟩ := thE_ok hE
  have hc1 : chkC l1 = 0 := (chkB_ok hc).2.2.2.1
  have hE1 : thE ns ⟨mo, ba, l1, op, oh, ot, st, fe, fp, fh, ft, lo⟩ d p = 0 := thE_mk hn hc hd hp
  refine ⟨hE1, fun h1 h2 h3 => ?_, ?_⟩
  · subst h2
    rw [thR, if_pos hE1]
    exact goT_again hE hg h3 h1
  · have hdr : drE l1 3 = 0 := by rw [drE, if_pos hc1, if_pos (by omega)]
    have hE2 : thE ns ⟨mo, ba, (drC l1 3 d p), op, oh, ot, st, fe, fp, fh, ft, lo⟩ d p = 0 := thE_mk hn (chkB_with hc (drop_good hdr)) hd hp
    have hE3 : thE ns ⟨mo, ba, [], op, oh, ot, st, fe, fp, fh, ft, lo⟩ d p = 0 := thE_mk hn (chkB_with hc chkC_nil) hd hp
    obtain ⟨l3, j, g, hR, hG, _, _⟩ := thR_ways (wt := wt) hE2
    have hpl := goT_plain (b := ⟨mo, ba, l1, op, oh, ot, st, fe, fp, fh, ft, lo⟩) (wr := wt) hn hp (drop_none (d := d) (p := p) hc1)
    obtain ⟨⟨Y, j', g'⟩, hY⟩ : ∃ x, goT ns ⟨mo, ba, [], op, oh, ot, st, fe, fp, fh, ft, lo⟩ d p wt = x := ⟨_, rfl⟩
    have e1 : (goT ns ⟨mo, ba, (drC l1 3 d p), op, oh, ot, st, fe, fp, fh, ft, lo⟩ d p wt).2 = (goT ns ⟨mo, ba, [], op, oh, ot, st, fe, fp, fh, ft, lo⟩ d p wt).2 := hpl
    rw [hG, hY] at e1
    simp only [Prod.mk.injEq] at e1
    obtain ⟨rfl, rfl⟩ := e1
    exact ⟨_, l3, j, g, Y, hdr, rfl, hE2, hR, hE3, by rw [thR, if_pos hE3]; exact hY⟩

set_option maxHeartbeats 8000000 in
theorem bridgeRemembers_walk (v : Value) (zs : List Int) (mo ba op oh ot fe fp fh ft : Int) (st lo : Bool) (vc : Value) (l : List Ln) (dv pg : Int) (wt : Bool) (vn : Value) (ns : List Int) (w : World) (hs : Sl w v zs) (h : Ls w vc l) (hn : Sl w vn ns) :
    Calls Try.prog 7 #[.agg #[v], .agg #[.int .i64 mo, .int .i64 ba, vc, .int .i64 op, .int .i64 oh, .int .i64 ot, .bool st, .int .i64 fe, .int .i64 fp, .int .i64 fh, .int .i64 ft, .bool lo], .int .i64 dv, .int .i64 pg, .bool wt, .agg #[vn]] w fun e w' => e = .returned (.bool true) ∧ Below w.heap.size w w' := by
  have HS : Hid (Ls w vc l) := h
  obtain ⟨va, vk, rfl, -⟩ := h.shape
  have HM : Hid (Sl w v zs) := hs
  obtain ⟨ma, mc, rfl⟩ := hs.shape
  have HN : Hid (Sl w vn ns) := hn
  obtain ⟨na, nc, rfl⟩ := hn.shape
  clear h hs hn
  obtain ⟨d, hd⟩ : ∃ d, dv % 8 = d := ⟨_, rfl⟩
  obtain ⟨p, hp⟩ : ∃ p, pg % 64 = p := ⟨_, rfl⟩
  have HD : Hid (dv % 8 = d) := hd
  have HP : Hid (pg % 64 = p) := hp
  clear hd hp
  have BA : Hid (Below w.heap.size w _) := bel_alloc (bel_alloc (bel_alloc (Below.refl w.heap.size w) (.cells #[.slice ma zs.length mc] 39)) (.cells #[.int .i64 mo, .int .i64 ba, .slice va l.length vk, .int .i64 op, .int .i64 oh, .int .i64 ot, .bool st, .int .i64 fe, .int .i64 fp, .int .i64 fh, .int .i64 ft, .bool lo] 44)) (.cells #[.slice na ns.length nc] 39)
  by_cases h0 : thE zs ⟨mo, ba, l, op, oh, ot, st, fe, fp, fh, ft, lo⟩ d p = 0
  rotate_left
  · have HR0 : Hid (thR zs ⟨mo, ba, l, op, oh, ot, st, fe, fp, fh, ft, lo⟩ d p wt = (B0, 0, 0)) := if_neg h0
    obtain ⟨E, hE⟩ : ∃ E, thE zs ⟨mo, ba, l, op, oh, ot, st, fe, fp, fh, ft, lo⟩ d p = E := ⟨_, rfl⟩
    rw [hE] at h0
    have HE : Hid (_ = _) := hE
    have hq : (E != 0) = true := by simpa using h0
    clear hE
    go_enter Try.func7, Try.ntmps7
    go_wp2_with (go_at_call 34; refine (at_of _ _ _ (by decide)).mono ?_; rintro e w' ⟨rfl, rfl⟩; first | rw [HD.out] | rw [HP.out])
    refine (through_at (HM.out.keep BA.out) (HS.out.keep BA.out) HE.out HR0.out).mono ?_
    rintro e w1 ⟨va1, vk1, rfl, -, b1⟩
    have B1 : Hid (Below w.heap.size w w1) := bel_trans BA.out b1
    clear b1 BA
    go_wp2_with fail
    refine (crossed_true _).mono ?_
    rintro e w3 ⟨rfl, b3⟩
    have B4 : Hid (Below w.heap.size w w3) := bel_trans (bel_alloc B1.out _) b3
    clear b3 B1
    go_wp2_with fail
    refine (crossed_true _).mono ?_
    rintro e w4 ⟨rfl, b4⟩
    have B5 : Hid (Below w.heap.size w w4) := bel_trans B4.out b4
    clear b4 B4
    go_wp2
    go_ret
    exact ⟨rfl, B5.out⟩
  obtain ⟨l1, k, f, hR, hG, hC, hF⟩ := thR_ways (wt := wt) h0
  have HE : Hid (_ = _) := h0
  have HR : Hid (_ = _) := hR
  have HG : Hid (_ = _) := hG
  have HC : Hid (_ = _) := hC
  have HF : Hid (¬ f = 0 → l1 = l) := hF
  clear h0 hR hG hC hF
  go_enter Try.func7, Try.ntmps7
  go_wp2_with (go_at_call 34; refine (at_of _ _ _ (by decide)).mono ?_; rintro e w' ⟨rfl, rfl⟩; first | rw [HD.out] | rw [HP.out])
  refine (through_at (HM.out.keep BA.out) (HS.out.keep BA.out) HE.out HR.out).mono ?_
  rintro e w1 ⟨va1, vk1, rfl, hL1, b1⟩
  have XB := ((Box.newAt (n := w.heap.size + 1) (by simp) 44 #[.int .i64 mo, .int .i64 ba, .slice va l.length vk, .int .i64 op, .int .i64 oh, .int .i64 ot, .bool st, .int .i64 fe, .int .i64 fp, .int .i64 fh, .int .i64 ft, .bool lo]).past _).keep b1
  have XN := (Box.newAt (n := w.heap.size + 1 + 1) (by simp) 39 #[.slice na ns.length nc]).keep b1
  have B1 : Hid (Below w.heap.size w w1) := bel_trans BA.out b1
  have zN2 : w.heap.size + 1 + 1 < w1.heap.size := XN.lt
  clear b1 BA
  go_wp2_with fail
  refine (crossed_true _).mono ?_
  rintro e w2 ⟨rfl, b2⟩
  have XB := (XB.past _).keep b2
  have XN := (XN.past _).keep b2
  have XC := (Box.newAt (w := w1) rfl 44 #[.int .i64 mo, .int .i64 ba, .slice va1 l1.length vk1, .int .i64 op, .int .i64 oh, .int .i64 ot, .bool st, .int .i64 fe, .int .i64 fp, .int .i64 fh, .int .i64 ft, .bool lo]).keep b2
  have HL := (hL1.alloc _).keep b2
  have B2 : Hid (Below w.heap.size w w2) := bel_trans (bel_alloc B1.out _) b2
  have zN : w.heap.size ≤ w1.heap.size := B1.out.size
  clear b2 B1 hL1
  generalize w1.heap.size = N at *
  obtain ⟨m0, -, s0⟩ := XN.one
  go_wp2_with fail
  refine (check_any _ ns _ (HN.out.keep B2.out)).mono ?_
  rintro e w3 ⟨rfl, b3⟩
  have XB := XB.keep b3
  have XN := XN.keep b3
  have XC := XC.keep b3
  have HL := HL.keep b3
  have B3 : Hid (Below w.heap.size w w3) := bel_trans B2.out b3
  clear b3 B2 m0 s0
  by_cases hk : chk ns = 0
  rotate_left
  · have hq : (chk ns != 0) = true := by simpa using hk
    go_wp2_with fail
    refine (crossed_true _).mono ?_
    rintro e w4 ⟨rfl, b4⟩
    have B5 : Hid (Below w.heap.size w w4) := bel_trans B3.out b4
    clear b4 B3
    go_wp2
    go_ret
    exact ⟨rfl, B5.out⟩
  rw [hk]
  obtain ⟨hE1, hAgain, l2, l3, j, g, Y, hdr, hdc, hE2, hR2, hE3, hR3⟩ := rem_math HE.out hk HG.out HC.out
  have HE1 : Hid (_ = _) := hE1
  have HAg : Hid (0 ≤ fndC l1 d p → f = 0 → mo = 2 → _) := hAgain
  have Hdr : Hid (_ = _) := hdr
  have Hdc : Hid (_ = _) := hdc
  have HE2 : Hid (_ = _) := hE2
  have HR2 : Hid (_ = _) := hR2
  have HE3 : Hid (_ = _) := hE3
  have HR3 : Hid (_ = _) := hR3
  have HLc : Hid (Ls w3 _ l1) := HL
  clear hk hE1 hAgain hdr hdc hE2 hR2 hE3 hR3 HL HR HG HE
  go_upto_region 5 with fail
  go_cut [67] from 55 to 67 (fun s wx => s = .bool false ∧ Below w3.heap.size w3 wx)
  case first =>
    obtain ⟨⟨q0, q1, q2, q3, q4, q5, q6, q7, q8, q9, q10, q11⟩, sq⟩ := XC.twelve
    go_wp2_with fail
    refine (bCheck_any _ _ _ _ _ _ _ _ _ _ _ _ l1 _ HLc.out).mono ?_
    rintro e w4 ⟨rfl, b4⟩
    rw [HC.out]
    clear q0 q1 q2 q3 q4 q5 q6 q7 q8 q9 q10 q11 sq
    by_cases hf : f = 0
    · subst hf
      go_wp2
      go_meet
      exact ⟨rfl, b4⟩
    · have hl := HF.out hf
      subst hl
      have hq : (f != 0) = true := by simpa using hf
      have XB := XB.keep b4
      have XC := XC.keep b4
      have HL4 := HLc.out.keep b4
      have HS4 := HS.out.keep (bel_trans B3.out b4)
      have B4 : Hid (Below w3.heap.size w3 w4) := b4
      clear b4
      obtain ⟨⟨q0, q1, q2, q3, q4, q5, q6, q7, q8, q9, q10, q11⟩, sq⟩ := XC.twelve
      obtain ⟨⟨u0, u1, u2, u3, u4, u5, u6, u7, u8, u9, u10, u11⟩, su⟩ := XB.twelve
      go_wp2_with fail
      refine (bSame_any _ _ _ _ _ _ _ _ _ _ _ _ l1 _ _ _ _ _ _ _ _ _ _ _ _ l1 _ HS4 HL4).mono ?_
      rintro e w5 ⟨rfl, b5⟩
      rw [sameBr_self]
      have B5 : Hid (Below w3.heap.size w3 w5) := bel_trans B4.out b5
      clear b5
      go_wp2
      go_meet
      exact ⟨rfl, B5.out⟩
  case rest =>
    obtain ⟨rfl, bc⟩ := hcut
    obtain ⟨wA, rfl⟩ : ∃ wA, wA = wc := ⟨wc, rfl⟩
    have XB := XB.keep bc
    have XN := XN.keep bc
    have XC := XC.keep bc
    have HLA : Hid (Ls _ _ l1) := HLc.out.keep bc
    have BAA : Hid (Below w.heap.size w wA) := bel_trans B3.out bc
    clear bc HLc B3
    go_upto_region 7 with fail
    go_cut [82] from 68 to 82 (fun s wx => ∃ q, s = .bool q ∧ (q = true → 0 ≤ fndC l1 d p ∧ f = 0 ∧ mo = 2) ∧ Below wA.heap.size wA wx)
    case first =>
      obtain ⟨⟨q0, q1, q2, q3, q4, q5, q6, q7, q8, q9, q10, q11⟩, sq⟩ := XC.twelve
      go_wp2_with fail
      refine (cFind_any _ l1 d p _ HLA.out).mono ?_
      rintro e w5 ⟨rfl, b5⟩
      clear q0 q1 q2 q3 q4 q5 q6 q7 q8 q9 q10 q11 sq
      have XB := XB.keep b5
      obtain ⟨⟨u0, u1, u2, u3, u4, u5, u6, u7, u8, u9, u10, u11⟩, su⟩ := XB.twelve
      have B5 : Hid (Below wA.heap.size wA w5) := b5
      clear b5
      by_cases h1 : 0 ≤ fndC l1 d p
      rotate_left
      · have hq : decide (0 ≤ fndC l1 d p) = false := by simpa using h1
        clear h1
        go_wp2
        go_meet
        exact ⟨false, rfl, (fun h => Bool.noConfusion h), B5.out⟩
      by_cases h2 : f = 0
      rotate_left
      · have hq : (f == 0) = false := by simpa using h2
        clear h2
        go_wp2
        go_meet
        exact ⟨false, rfl, (fun h => Bool.noConfusion h), B5.out⟩
      by_cases h3 : mo = 2
      rotate_left
      · have hq : (mo == 2) = false := by simpa using h3
        subst h2
        clear h3
        go_wp2
        go_meet
        exact ⟨false, rfl, (fun h => Bool.noConfusion h), B5.out⟩
      subst h2 h3
      have HH : Hid (0 ≤ fndC l1 d p) := h1
      go_wp2
      go_meet
      exact ⟨true, rfl, (fun _ => ⟨HH.out, by first | rfl | trivial, by first | rfl | trivial⟩), B5.out⟩
    case rest =>
      obtain ⟨q, rfl, hq, bc⟩ := hcut
      obtain ⟨wB, rfl⟩ : ∃ wB, wB = wc := ⟨wc, rfl⟩
      have HQ : Hid (q = true → 0 ≤ fndC l1 d p ∧ f = 0 ∧ mo = 2) := hq
      have XB := XB.keep bc
      have XN := XN.keep bc
      have XC := XC.keep bc
      have HLB : Hid (Ls _ _ l1) := HLA.out.keep bc
      have BB : Hid (Below w.heap.size w wB) := bel_trans BAA.out bc
      clear bc HLA BAA hq
      go_upto_if 82 with fail
      go_cut [17, 18, 19, 20] from 83 to 110 (fun _ _ _ _ wx => Below wB.heap.size wB wx)
      case first =>
        cases q
        · go_wp2
          go_meet
          exact Below.refl _ _
        obtain ⟨g1, g2, g3⟩ := HQ.out rfl
        subst g2 g3
        have HRA : Hid (_ = _) := HAg.out g1 rfl rfl
        clear g1
        obtain ⟨m0, -, s0⟩ := XN.one
        obtain ⟨⟨q0, q1, q2, q3, q4, q5, q6, q7, q8, q9, q10, q11⟩, sq⟩ := XC.twelve
        go_wp2_with fail
        refine (through_at (HN.out.keep BB.out) HLB.out HE1.out HRA.out).mono ?_
        rintro e w6 ⟨va6, vk6, rfl, hL6, b6⟩
        clear q0 q1 q2 q3 q4 q5 q6 q7 q8 q9 q10 q11 sq m0 s0
        have XC := XC.keep b6
        have HL6 := HLB.out.keep b6
        have B6 : Hid (Below wB.heap.size wB w6) := b6
        clear b6
        obtain ⟨⟨q0, q1, q2, q3, q4, q5, q6, q7, q8, q9, q10, q11⟩, sq⟩ := XC.twelve
        go_wp2_with fail
        refine (bSame_any _ _ _ _ _ _ _ _ _ _ _ _ l1 _ _ _ _ _ _ _ _ _ _ _ _ l1 _ (HL6.alloc _) (hL6.alloc _)).mono ?_
        rintro e w7 ⟨rfl, b7⟩
        rw [sameBr_self]
        have B7 : Hid (Below wB.heap.size wB w7) := bel_trans (bel_alloc B6.out _) b7
        clear b7 hL6 HL6
        go_wp2
        go_meet
        exact B7.out
      case rest =>
        obtain ⟨wC, rfl⟩ : ∃ wC, wC = wc := ⟨wc, rfl⟩
        have XB := XB.keep hcut
        have XN := XN.keep hcut
        have XC := XC.keep hcut
        have HLC : Hid (Ls _ _ l1) := HLB.out.keep hcut
        have BC : Hid (Below w.heap.size w wC) := bel_trans BB.out hcut
        clear hcut HLB BB
        obtain ⟨⟨q0, q1, q2, q3, q4, q5, q6, q7, q8, q9, q10, q11⟩, sq⟩ := XC.twelve
        go_wp2_with fail
        refine (drop_at' HLC.out (by decide) (by decide) Hdr.out Hdc.out).mono ?_
        rintro e w6 ⟨b6, cap6, rfl, hL6, bb⟩
        clear q0 q1 q2 q3 q4 q5 q6 q7 q8 q9 q10 q11 sq
        have XB := XB.keep bb
        have XN := XN.keep bb
        have XC := XC.keep bb
        have AP : Hid (Apart _ _ _) := hL6.apart XC
        have HL7 : Hid (Ls (w6.setCell ⟨N, 2, none⟩ (.slice b6 l2.length cap6)) _ l2) := hL6.putAt AP.out 2 _
        have nB : ¬ w.heap.size + 1 = N := by omega
        have nN : ¬ w.heap.size + 1 + 1 = N := by omega
        have B6 : Hid (Below w.heap.size w w6) := bel_trans BC.out bb
        have B7 : Hid (Below w.heap.size w (w6.setCell ⟨N, 2, none⟩ (.slice b6 l2.length cap6))) := bel_set (p := ⟨N, 2, none⟩) zN B6.out _
        clear bb BC hL6 HLC
        obtain ⟨⟨q0, q1, q2, q3, q4, q5, q6, q7, q8, q9, q10, q11⟩, sq⟩ := XC.twelve
        obtain ⟨-, -, i2, -⟩ := XC.marks
        obtain ⟨m0, -, s0⟩ := XN.one
        go_wp2_with fail
        refine (through_at (HN.out.keep B7.out) HL7.out HE2.out HR2.out).mono ?_
        rintro e w8 ⟨va8, vk8, rfl, -, b8⟩
        have XB := (XB.other (p := ⟨N, 2, none⟩) nB (.slice b6 l2.length cap6)).keep b8
        have XN := (XN.other (p := ⟨N, 2, none⟩) nN (.slice b6 l2.length cap6)).keep b8
        have B8 : Hid (Below w.heap.size w w8) := bel_trans B7.out b8
        clear b8 B7 B6 HL7 q0 q1 q2 q3 q4 q5 q6 q7 q8 q9 q10 q11 sq i2 m0 s0 XC AP
        obtain ⟨m0, -, s0⟩ := XN.one
        obtain ⟨⟨q0, q1, q2, q3, q4, q5, q6, q7, q8, q9, q10, q11⟩, sq⟩ := XB.twelve
        go_wp2_with fail
        refine (plain_at (HN.out.keep (bel_alloc B8.out _)) (HS.out.keep (bel_alloc B8.out _)) HE3.out HR3.out).mono ?_
        rintro e w9 ⟨rfl, b9⟩
        have B9 : Hid (Below w.heap.size w w9) := bel_trans (bel_alloc B8.out _) b9
        clear b9 B8 q0 q1 q2 q3 q4 q5 q6 q7 q8 q9 q10 q11 sq m0 s0
        go_wp2
        go_ret
        exact ⟨rfl, B9.out⟩
end Go.Proofs.Ytemnklppplgcoab
/-
  What the openers share.
-/
namespace Go.Proofs.Ytemnklppplgcoab
open Go.ChangeShapes Go.WideShapes Go.ChangeAt Go.RowKit

theorem law_own : ownKnob Try.prog.godebug = none := by kernel_rfl
theorem law_laidOut : laidOutB Try.prog = true := by kernel_rfl
theorem int_cells : Try.prog.cellsOf 3 = 1 := by kernel_rfl
theorem bool_cells : Try.prog.cellsOf 4 = 1 := by kernel_rfl

theorem array5 {cs : List Value} (h : cs.length = 5) : ∃ c0 c1 c2 c3 c4, cs = [c0, c1, c2, c3, c4] := by
  match cs, h with
  | [c0, c1, c2, c3, c4], _ => exact ⟨c0, c1, c2, c3, c4, rfl⟩
theorem array3 {cs : List Value} (h : cs.length = 3) : ∃ c0 c1 c2, cs = [c0, c1, c2] := by
  match cs, h with
  | [c0, c1, c2], _ => exact ⟨c0, c1, c2, rfl⟩
theorem array4 {cs : List Value} (h : cs.length = 4) : ∃ c0 c1 c2 c3, cs = [c0, c1, c2, c3] := by
  match cs, h with
  | [c0, c1, c2, c3], _ => exact ⟨c0, c1, c2, c3, rfl⟩

section
variable {H : Type} {enc : TypeId × Value → H} {W : World}

theorem cell_int {n : Nat} {c : Value} {y : Option (DataW H × List MemPlace)} (h : DataW.trod enc Try.prog W 0 (fun _ => true) true n 3 [c] = y) (hy : y ≠ none) : ∃ a, c = .int .i64 a := by
  cases y with
  | none => exact absurd rfl hy
  | some y =>
    obtain ⟨a, e, _⟩ := DataW.trod_int Try.underlying3 h
    exact ⟨a, by simpa using e⟩
theorem cell_bool {n : Nat} {c : Value} {y : Option (DataW H × List MemPlace)} (h : DataW.trod enc Try.prog W 0 (fun _ => true) true n 4 [c] = y) (hy : y ≠ none) : ∃ a, c = .bool a := by
  cases y with
  | none => exact absurd rfl hy
  | some y =>
    obtain ⟨a, e, _⟩ := DataW.trod_bool Try.underlying4 h
    exact ⟨a, by simpa using e⟩

set_option maxRecDepth 100000 in
theorem cell_intw {n : Nat} {c : Value} {y : Option (DataW H × List MemPlace)} (h : DataW.trod enc Try.prog W 0 (fun _ => true) true n 3 [c] = y) (hy : y ≠ none) : ∃ a, c = .int .i64 a ∧ -9223372036854775808 ≤ a ∧ a ≤ 9223372036854775807 := by
  cases y with
  | none => exact absurd rfl hy
  | some y =>
    obtain ⟨a, e, _, hw⟩ := DataW.trod_int Try.underlying3 h
    refine ⟨a, by simpa using e, ?_⟩
    simp only [Lit.wf, Bool.and_eq_true, decide_eq_true_eq] at hw
    exact hw

end
end Go.Proofs.Ytemnklppplgcoab
/-
  A memory that comes in as an argument reads as a list of numbers (Sl).
-/
namespace Go.Proofs.Ytemnklppplgcoab
open Go.ChangeShapes Go.WideShapes Go.ChangeAt Go.RowKit

theorem mem_cells : Try.prog.cellsOf 39 = 1 := by kernel_rfl
theorem slice_cells : Try.prog.cellsOf 37 = 1 := by kernel_rfl

/-- A cell that reads as a slice of numbers. -/
theorem open_row {H : Type} {enc : TypeId × Value → H} {W : World} {fuel : Nat} {c0 : Value} {x : DataW H × List MemPlace}
    (h : DataW.trod enc Try.prog W 0 (fun _ => true) true fuel 37 [c0] = some x) : ∃ zs, Sl W c0 zs := by
  rcases open_ints Try.underlying37 Try.underlying3 int_cells h with ⟨hcs, _⟩ | ⟨a, len, cap, zs, hcs, _, hl, hm, hz, _, hcell, _⟩
  · simp only [List.cons.injEq, and_true] at hcs
    subst hcs
    exact ⟨[], Sl.nil _ _ _⟩
  · simp only [List.cons.injEq, and_true] at hcs
    subst hcs
    simp only [if_true] at hz
    by_cases h0 : len = 0
    · subst h0
      exact ⟨[], Sl.nil _ _ _⟩
    · obtain ⟨b, off, spot⟩ := a
      have hc := hcell 0 (by omega)
      have hspot : spot = none := by simpa [Addr.add] using World.cell?_spot hc
      subst hspot
      have hlen : (zs.take len).length = len := by simp; omega
      refine ⟨zs.take len, _, cap, by rw [hlen], by omega, .inr ⟨b, off, rfl, ?_, fun i hi => ?_⟩⟩
      · have := World.block_lt_of_cell? W _ hc
        simpa [Addr.add] using this
      · have ha : Addr.add ⟨b, off, none⟩ i = ⟨b, off + i, none⟩ := by unfold Addr.add; split <;> simp_all
        have := hcell i (by omega)
        rw [ha] at this
        rw [this]
        have hi' : i < len := by omega
        simp [nth, hi']

set_option maxRecDepth 100000 in
theorem open_mem {H : Type} {enc : TypeId × Value → H} {W : World} {b0 : Nat} {v : Value} {d : DataW H} {p : List MemPlace} (hv : Value.okWide Try.prog W .any b0 39 v)
    (h : DataW.Trod enc Try.prog W 0 (fun _ => true) true 39 v d p) : ∃ v0 zs, v = .agg #[v0] ∧ Sl W v0 zs := by
  obtain ⟨cs, rfl, hsz⟩ := okWide_struct Try.underlying39 hv
  rw [mem_cells] at hsz
  obtain ⟨l⟩ := cs
  match l, hsz with
  | [c0], _ =>
    obtain ⟨fuel, hf⟩ := h
    obtain ⟨y0, n, _, _, h0⟩ := trod_struct1 Try.underlying39 hf
    obtain ⟨zs, hs⟩ := open_row (c0 := c0) (by simpa [Value.cells, slice_cells] using h0)
    exact ⟨c0, zs, rfl, hs⟩
end Go.Proofs.Ytemnklppplgcoab
/-
  An order that comes in as an argument is written out.
-/
namespace Go.Proofs.Ytemnklppplgcoab
open Go.ChangeShapes Go.WideShapes Go.ChangeAt Go.RowKit

theorem ord_cells : Try.prog.cellsOf 23 = 3 := by kernel_rfl

section
variable {H : Type} {enc : TypeId × Value → H} {W : World}

set_option maxRecDepth 100000 in
theorem open_ord {b0 : Nat} {v : Value} {d : DataW H} {p : List MemPlace} (hv : Value.okWide Try.prog W .any b0 23 v) (h : DataW.Trod enc Try.prog W 0 (fun _ => true) true 23 v d p) :
    ∃ a b n, v = .agg #[.int .i64 a, .int .i64 b, .int .i64 n] ∧ (-9223372036854775808 ≤ a ∧ a ≤ 9223372036854775807) := by
  obtain ⟨cs, rfl, _⟩ := okWide_struct Try.underlying23 hv
  obtain ⟨fuel, hf⟩ := h
  obtain ⟨xs, n, _, _, hl, hlen, hf⟩ := DataW.trod_struct Try.underlying23 hf
  rw [ord_cells] at hl
  obtain ⟨l⟩ := cs
  simp only [Value.cells] at hl hf
  obtain ⟨c0, c1, c2, rfl⟩ := array3 hl
  have some_at : ∀ i, i < 3 → xs[i]? ≠ none := fun i hi => by
    rw [List.getElem?_eq_getElem (by rw [hlen]; exact hi)]; simp
  obtain ⟨a, rfl, ha⟩ := cell_intw (by simpa [int_cells] using hf 0 _ rfl) (some_at 0 (by omega))
  obtain ⟨b, rfl⟩ := cell_int (by simpa [int_cells] using hf 1 _ rfl) (some_at 1 (by omega))
  obtain ⟨q, rfl⟩ := cell_int (by simpa [int_cells] using hf 2 _ rfl) (some_at 2 (by omega))
  exact ⟨a, b, q, rfl, ha⟩

set_option maxRecDepth 100000 in
theorem open_odr {b0 : Nat} {v : Value} {d : DataW H} {p : List MemPlace} (hv : Value.okWide Try.prog W .any b0 23 v) (h : DataW.Trod enc Try.prog W 0 (fun _ => true) true 23 v d p) :
    ∃ a b n, v = .agg #[.int .i64 a, .int .i64 b, .int .i64 n] := by
  obtain ⟨a, b, n, e, _⟩ := open_ord hv h
  exact ⟨a, b, n, e⟩
end
end Go.Proofs.Ytemnklppplgcoab
