/-
  bridge.Same and drawbridgeref.SameBridge: are two bridges alike? Nothing that was there turns.
-/
import Derived.Test.YtemnklppplgcoabBridge1
import Derived.Test.YtemnklppplgcoabEqualL
namespace Go.Proofs.Ytemnklppplgcoab
open Go.RowKit

/-- Are they alike? -/
def sameBr (a b : Br) : Bool :=
  decide (a.mode = b.mode) && (decide (a.base = b.base) && (decide (a.cache = b.cache) && (decide (a.op = b.op) && (decide (a.oh = b.oh) && (decide (a.ot = b.ot) && (decide (a.stop = b.stop) && (decide (a.fen = b.fen) && (decide (a.fp = b.fp) && (decide (a.fh = b.fh) && (decide (a.ft = b.ft) && decide (a.lost = b.lost)))))))))))
theorem sameBr_self (b : Br) : sameBr b b = true := by simp [sameBr]
theorem sameBr_eq {a b : Br} (h : sameBr a b = true) : a = b := by
  simp only [sameBr, Bool.and_eq_true, decide_eq_true_eq] at h
  obtain ⟨h0, h1, h2, h3, h4, h5, h6, h7, h8, h9, h10, h11⟩ := h
  cases a; cases b
  simp_all
theorem sameBr_ne {a b : Br} (h : ¬ a = b) : sameBr a b = false := by
  cases hs : sameBr a b
  · rfl
  · exact absurd (sameBr_eq hs) h

set_option maxHeartbeats 4000000 in
theorem bSame_any (mo ba op oh ot fe fp fh ft : Int) (st lo : Bool) (vc : Value) (l : List Ln) (mo1 ba1 op1 oh1 ot1 fe1 fp1 fh1 ft1 : Int) (st1 lo1 : Bool) (vc1 : Value) (l1 : List Ln) (w : World) (h : Ls w vc l) (h1 : Ls w vc1 l1) :
    Calls Try.prog 26 #[.agg #[.int .i64 mo, .int .i64 ba, vc, .int .i64 op, .int .i64 oh, .int .i64 ot, .bool st, .int .i64 fe, .int .i64 fp, .int .i64 fh, .int .i64 ft, .bool lo], .agg #[.int .i64 mo1, .int .i64 ba1, vc1, .int .i64 op1, .int .i64 oh1, .int .i64 ot1, .bool st1, .int .i64 fe1, .int .i64 fp1, .int .i64 fh1, .int .i64 ft1, .bool lo1]] w fun e w' => e = .returned (.bool (sameBr ⟨mo, ba, l, op, oh, ot, st, fe, fp, fh, ft, lo⟩ ⟨mo1, ba1, l1, op1, oh1, ot1, st1, fe1, fp1, fh1, ft1, lo1⟩)) ∧ Below w.heap.size w w' := by
  have HS : Hid (Ls w vc l) := h
  have HS1 : Hid (Ls w vc1 l1) := h1
  obtain ⟨va, vk, rfl, -⟩ := h.shape
  obtain ⟨va1, vk1, rfl, -⟩ := h1.shape
  clear h h1
  by_cases hd : mo = mo1
  rotate_left
  · have HE : Hid (sameBr ⟨mo, ba, l, op, oh, ot, st, fe, fp, fh, ft, lo⟩ ⟨mo1, ba1, l1, op1, oh1, ot1, st1, fe1, fp1, fh1, ft1, lo1⟩ = false) := by show _ = _; simp [sameBr, hd]
    have hq : (mo == mo1) = false := by simpa using hd
    go_enter Try.func26, Try.ntmps26
    go_wp2_with fail
    go_ret
    exact ⟨ret_bool HE.out.symm, by first | exact bel_alloc (bel_alloc (Below.refl _ _) _) _ | exact bel_drewN (bel_alloc (bel_alloc (Below.refl _ _) _) _) _⟩
  subst hd
  by_cases hd : ba = ba1
  rotate_left
  · have HE : Hid (sameBr ⟨mo, ba, l, op, oh, ot, st, fe, fp, fh, ft, lo⟩ ⟨mo, ba1, l1, op1, oh1, ot1, st1, fe1, fp1, fh1, ft1, lo1⟩ = false) := by show _ = _; simp [sameBr, hd]
    have hq : (ba == ba1) = false := by simpa using hd
    go_enter Try.func26, Try.ntmps26
    go_wp2_with fail
    go_ret
    exact ⟨ret_bool HE.out.symm, by first | exact bel_alloc (bel_alloc (Below.refl _ _) _) _ | exact bel_drewN (bel_alloc (bel_alloc (Below.refl _ _) _) _) _⟩
  subst hd
  by_cases hd : l = l1
  rotate_left
  · have HE : Hid (sameBr ⟨mo, ba, l, op, oh, ot, st, fe, fp, fh, ft, lo⟩ ⟨mo, ba, l1, op1, oh1, ot1, st1, fe1, fp1, fh1, ft1, lo1⟩ = false) := by show _ = _; simp [sameBr, hd]
    have hq : decide (l = l1) = false := by simpa using hd
    go_enter Try.func26, Try.ntmps26
    go_wp2_with (go_at_call 38; refine (equalL_any _ _ l l1 _ (HS.out.keep (bel_alloc (bel_alloc (Below.refl _ _) _) _)) (HS1.out.keep (bel_alloc (bel_alloc (Below.refl _ _) _) _))).mono ?_; rintro e w' ⟨rfl, n, rfl⟩)
    go_ret
    exact ⟨ret_bool HE.out.symm, by first | exact bel_alloc (bel_alloc (Below.refl _ _) _) _ | exact bel_drewN (bel_alloc (bel_alloc (Below.refl _ _) _) _) _⟩
  subst hd
  by_cases hd : op = op1
  rotate_left
  · have HE : Hid (sameBr ⟨mo, ba, l, op, oh, ot, st, fe, fp, fh, ft, lo⟩ ⟨mo, ba, l, op1, oh1, ot1, st1, fe1, fp1, fh1, ft1, lo1⟩ = false) := by show _ = _; simp [sameBr, hd]
    have hq : (op == op1) = false := by simpa using hd
    go_enter Try.func26, Try.ntmps26
    go_wp2_with (go_at_call 38; refine (equalL_any _ _ l l _ (HS.out.keep (bel_alloc (bel_alloc (Below.refl _ _) _) _)) (HS1.out.keep (bel_alloc (bel_alloc (Below.refl _ _) _) _))).mono ?_; rintro e w' ⟨rfl, n, rfl⟩)
    go_ret
    exact ⟨ret_bool HE.out.symm, by first | exact bel_alloc (bel_alloc (Below.refl _ _) _) _ | exact bel_drewN (bel_alloc (bel_alloc (Below.refl _ _) _) _) _⟩
  subst hd
  by_cases hd : oh = oh1
  rotate_left
  · have HE : Hid (sameBr ⟨mo, ba, l, op, oh, ot, st, fe, fp, fh, ft, lo⟩ ⟨mo, ba, l, op, oh1, ot1, st1, fe1, fp1, fh1, ft1, lo1⟩ = false) := by show _ = _; simp [sameBr, hd]
    have hq : (oh == oh1) = false := by simpa using hd
    go_enter Try.func26, Try.ntmps26
    go_wp2_with (go_at_call 38; refine (equalL_any _ _ l l _ (HS.out.keep (bel_alloc (bel_alloc (Below.refl _ _) _) _)) (HS1.out.keep (bel_alloc (bel_alloc (Below.refl _ _) _) _))).mono ?_; rintro e w' ⟨rfl, n, rfl⟩)
    go_ret
    exact ⟨ret_bool HE.out.symm, by first | exact bel_alloc (bel_alloc (Below.refl _ _) _) _ | exact bel_drewN (bel_alloc (bel_alloc (Below.refl _ _) _) _) _⟩
  subst hd
  by_cases hd : ot = ot1
  rotate_left
  · have HE : Hid (sameBr ⟨mo, ba, l, op, oh, ot, st, fe, fp, fh, ft, lo⟩ ⟨mo, ba, l, op, oh, ot1, st1, fe1, fp1, fh1, ft1, lo1⟩ = false) := by show _ = _; simp [sameBr, hd]
    have hq : (ot == ot1) = false := by simpa using hd
    go_enter Try.func26, Try.ntmps26
    go_wp2_with (go_at_call 38; refine (equalL_any _ _ l l _ (HS.out.keep (bel_alloc (bel_alloc (Below.refl _ _) _) _)) (HS1.out.keep (bel_alloc (bel_alloc (Below.refl _ _) _) _))).mono ?_; rintro e w' ⟨rfl, n, rfl⟩)
    go_ret
    exact ⟨ret_bool HE.out.symm, by first | exact bel_alloc (bel_alloc (Below.refl _ _) _) _ | exact bel_drewN (bel_alloc (bel_alloc (Below.refl _ _) _) _) _⟩
  subst hd
  by_cases hd : st = st1
  rotate_left
  · have HE : Hid (sameBr ⟨mo, ba, l, op, oh, ot, st, fe, fp, fh, ft, lo⟩ ⟨mo, ba, l, op, oh, ot, st1, fe1, fp1, fh1, ft1, lo1⟩ = false) := by show _ = _; simp [sameBr, hd]
    have hq : (st == st1) = false := by simpa using hd
    go_enter Try.func26, Try.ntmps26
    go_wp2_with (go_at_call 38; refine (equalL_any _ _ l l _ (HS.out.keep (bel_alloc (bel_alloc (Below.refl _ _) _) _)) (HS1.out.keep (bel_alloc (bel_alloc (Below.refl _ _) _) _))).mono ?_; rintro e w' ⟨rfl, n, rfl⟩)
    go_ret
    exact ⟨ret_bool HE.out.symm, by first | exact bel_alloc (bel_alloc (Below.refl _ _) _) _ | exact bel_drewN (bel_alloc (bel_alloc (Below.refl _ _) _) _) _⟩
  subst hd
  by_cases hd : fe = fe1
  rotate_left
  · have HE : Hid (sameBr ⟨mo, ba, l, op, oh, ot, st, fe, fp, fh, ft, lo⟩ ⟨mo, ba, l, op, oh, ot, st, fe1, fp1, fh1, ft1, lo1⟩ = false) := by show _ = _; simp [sameBr, hd]
    have hq : (fe == fe1) = false := by simpa using hd
    go_enter Try.func26, Try.ntmps26
    go_wp2_with (go_at_call 38; refine (equalL_any _ _ l l _ (HS.out.keep (bel_alloc (bel_alloc (Below.refl _ _) _) _)) (HS1.out.keep (bel_alloc (bel_alloc (Below.refl _ _) _) _))).mono ?_; rintro e w' ⟨rfl, n, rfl⟩)
    go_ret
    exact ⟨ret_bool HE.out.symm, by first | exact bel_alloc (bel_alloc (Below.refl _ _) _) _ | exact bel_drewN (bel_alloc (bel_alloc (Below.refl _ _) _) _) _⟩
  subst hd
  by_cases hd : fp = fp1
  rotate_left
  · have HE : Hid (sameBr ⟨mo, ba, l, op, oh, ot, st, fe, fp, fh, ft, lo⟩ ⟨mo, ba, l, op, oh, ot, st, fe, fp1, fh1, ft1, lo1⟩ = false) := by show _ = _; simp [sameBr, hd]
    have hq : (fp == fp1) = false := by simpa using hd
    go_enter Try.func26, Try.ntmps26
    go_wp2_with (go_at_call 38; refine (equalL_any _ _ l l _ (HS.out.keep (bel_alloc (bel_alloc (Below.refl _ _) _) _)) (HS1.out.keep (bel_alloc (bel_alloc (Below.refl _ _) _) _))).mono ?_; rintro e w' ⟨rfl, n, rfl⟩)
    go_ret
    exact ⟨ret_bool HE.out.symm, by first | exact bel_alloc (bel_alloc (Below.refl _ _) _) _ | exact bel_drewN (bel_alloc (bel_alloc (Below.refl _ _) _) _) _⟩
  subst hd
  by_cases hd : fh = fh1
  rotate_left
  · have HE : Hid (sameBr ⟨mo, ba, l, op, oh, ot, st, fe, fp, fh, ft, lo⟩ ⟨mo, ba, l, op, oh, ot, st, fe, fp, fh1, ft1, lo1⟩ = false) := by show _ = _; simp [sameBr, hd]
    have hq : (fh == fh1) = false := by simpa using hd
    go_enter Try.func26, Try.ntmps26
    go_wp2_with (go_at_call 38; refine (equalL_any _ _ l l _ (HS.out.keep (bel_alloc (bel_alloc (Below.refl _ _) _) _)) (HS1.out.keep (bel_alloc (bel_alloc (Below.refl _ _) _) _))).mono ?_; rintro e w' ⟨rfl, n, rfl⟩)
    go_ret
    exact ⟨ret_bool HE.out.symm, by first | exact bel_alloc (bel_alloc (Below.refl _ _) _) _ | exact bel_drewN (bel_alloc (bel_alloc (Below.refl _ _) _) _) _⟩
  subst hd
  by_cases hd : ft = ft1
  rotate_left
  · have HE : Hid (sameBr ⟨mo, ba, l, op, oh, ot, st, fe, fp, fh, ft, lo⟩ ⟨mo, ba, l, op, oh, ot, st, fe, fp, fh, ft1, lo1⟩ = false) := by show _ = _; simp [sameBr, hd]
    have hq : (ft == ft1) = false := by simpa using hd
    go_enter Try.func26, Try.ntmps26
    go_wp2_with (go_at_call 38; refine (equalL_any _ _ l l _ (HS.out.keep (bel_alloc (bel_alloc (Below.refl _ _) _) _)) (HS1.out.keep (bel_alloc (bel_alloc (Below.refl _ _) _) _))).mono ?_; rintro e w' ⟨rfl, n, rfl⟩)
    go_ret
    exact ⟨ret_bool HE.out.symm, by first | exact bel_alloc (bel_alloc (Below.refl _ _) _) _ | exact bel_drewN (bel_alloc (bel_alloc (Below.refl _ _) _) _) _⟩
  subst hd
  by_cases hd : lo = lo1
  rotate_left
  · have HE : Hid (sameBr ⟨mo, ba, l, op, oh, ot, st, fe, fp, fh, ft, lo⟩ ⟨mo, ba, l, op, oh, ot, st, fe, fp, fh, ft, lo1⟩ = false) := by show _ = _; simp [sameBr, hd]
    have hq : (lo == lo1) = false := by simpa using hd
    go_enter Try.func26, Try.ntmps26
    go_wp2_with (go_at_call 38; refine (equalL_any _ _ l l _ (HS.out.keep (bel_alloc (bel_alloc (Below.refl _ _) _) _)) (HS1.out.keep (bel_alloc (bel_alloc (Below.refl _ _) _) _))).mono ?_; rintro e w' ⟨rfl, n, rfl⟩)
    go_ret
    exact ⟨ret_bool HE.out.symm, by first | exact bel_alloc (bel_alloc (Below.refl _ _) _) _ | exact bel_drewN (bel_alloc (bel_alloc (Below.refl _ _) _) _) _⟩
  subst hd
  have HE : Hid (sameBr ⟨mo, ba, l, op, oh, ot, st, fe, fp, fh, ft, lo⟩ ⟨mo, ba, l, op, oh, ot, st, fe, fp, fh, ft, lo⟩ = true) := sameBr_self _
  go_enter Try.func26, Try.ntmps26
  go_wp2_with (go_at_call 38; refine (equalL_any _ _ l l _ (HS.out.keep (bel_alloc (bel_alloc (Below.refl _ _) _) _)) (HS1.out.keep (bel_alloc (bel_alloc (Below.refl _ _) _) _))).mono ?_; rintro e w' ⟨rfl, n, rfl⟩)
  go_ret
  exact ⟨ret_bool HE.out.symm, by first | exact bel_alloc (bel_alloc (Below.refl _ _) _) _ | exact bel_drewN (bel_alloc (bel_alloc (Below.refl _ _) _) _) _⟩

set_option maxHeartbeats 4000000 in
theorem sameBridge_any (mo ba op oh ot fe fp fh ft : Int) (st lo : Bool) (vc : Value) (l : List Ln) (mo1 ba1 op1 oh1 ot1 fe1 fp1 fh1 ft1 : Int) (st1 lo1 : Bool) (vc1 : Value) (l1 : List Ln) (w : World) (h : Ls w vc l) (h1 : Ls w vc1 l1) :
    Calls Try.prog 27 #[.agg #[.int .i64 mo, .int .i64 ba, vc, .int .i64 op, .int .i64 oh, .int .i64 ot, .bool st, .int .i64 fe, .int .i64 fp, .int .i64 fh, .int .i64 ft, .bool lo], .agg #[.int .i64 mo1, .int .i64 ba1, vc1, .int .i64 op1, .int .i64 oh1, .int .i64 ot1, .bool st1, .int .i64 fe1, .int .i64 fp1, .int .i64 fh1, .int .i64 ft1, .bool lo1]] w fun e w' => e = .returned (.bool (sameBr ⟨mo, ba, l, op, oh, ot, st, fe, fp, fh, ft, lo⟩ ⟨mo1, ba1, l1, op1, oh1, ot1, st1, fe1, fp1, fh1, ft1, lo1⟩)) ∧ Below w.heap.size w w' := by
  have HS : Hid (Ls w vc l) := h
  have HS1 : Hid (Ls w vc1 l1) := h1
  obtain ⟨va, vk, rfl, -⟩ := h.shape
  obtain ⟨va1, vk1, rfl, -⟩ := h1.shape
  clear h h1
  by_cases hd : mo = mo1
  rotate_left
  · have HE : Hid (sameBr ⟨mo, ba, l, op, oh, ot, st, fe, fp, fh, ft, lo⟩ ⟨mo1, ba1, l1, op1, oh1, ot1, st1, fe1, fp1, fh1, ft1, lo1⟩ = false) := by show _ = _; simp [sameBr, hd]
    have hq : (mo == mo1) = false := by simpa using hd
    go_enter Try.func27, Try.ntmps27
    go_wp2_with fail
    go_ret
    exact ⟨ret_bool HE.out.symm, by first | exact bel_alloc (bel_alloc (Below.refl _ _) _) _ | exact bel_drewN (bel_alloc (bel_alloc (Below.refl _ _) _) _) _⟩
  subst hd
  by_cases hd : ba = ba1
  rotate_left
  · have HE : Hid (sameBr ⟨mo, ba, l, op, oh, ot, st, fe, fp, fh, ft, lo⟩ ⟨mo, ba1, l1, op1, oh1, ot1, st1, fe1, fp1, fh1, ft1, lo1⟩ = false) := by show _ = _; simp [sameBr, hd]
    have hq : (ba == ba1) = false := by simpa using hd
    go_enter Try.func27, Try.ntmps27
    go_wp2_with fail
    go_ret
    exact ⟨ret_bool HE.out.symm, by first | exact bel_alloc (bel_alloc (Below.refl _ _) _) _ | exact bel_drewN (bel_alloc (bel_alloc (Below.refl _ _) _) _) _⟩
  subst hd
  by_cases hd : l = l1
  rotate_left
  · have HE : Hid (sameBr ⟨mo, ba, l, op, oh, ot, st, fe, fp, fh, ft, lo⟩ ⟨mo, ba, l1, op1, oh1, ot1, st1, fe1, fp1, fh1, ft1, lo1⟩ = false) := by show _ = _; simp [sameBr, hd]
    have hq : decide (l = l1) = false := by simpa using hd
    go_enter Try.func27, Try.ntmps27
    go_wp2_with (go_at_call 38; refine (equalL_any _ _ l l1 _ (HS.out.keep (bel_alloc (bel_alloc (Below.refl _ _) _) _)) (HS1.out.keep (bel_alloc (bel_alloc (Below.refl _ _) _) _))).mono ?_; rintro e w' ⟨rfl, n, rfl⟩)
    go_ret
    exact ⟨ret_bool HE.out.symm, by first | exact bel_alloc (bel_alloc (Below.refl _ _) _) _ | exact bel_drewN (bel_alloc (bel_alloc (Below.refl _ _) _) _) _⟩
  subst hd
  by_cases hd : op = op1
  rotate_left
  · have HE : Hid (sameBr ⟨mo, ba, l, op, oh, ot, st, fe, fp, fh, ft, lo⟩ ⟨mo, ba, l, op1, oh1, ot1, st1, fe1, fp1, fh1, ft1, lo1⟩ = false) := by show _ = _; simp [sameBr, hd]
    have hq : (op == op1) = false := by simpa using hd
    go_enter Try.func27, Try.ntmps27
    go_wp2_with (go_at_call 38; refine (equalL_any _ _ l l _ (HS.out.keep (bel_alloc (bel_alloc (Below.refl _ _) _) _)) (HS1.out.keep (bel_alloc (bel_alloc (Below.refl _ _) _) _))).mono ?_; rintro e w' ⟨rfl, n, rfl⟩)
    go_ret
    exact ⟨ret_bool HE.out.symm, by first | exact bel_alloc (bel_alloc (Below.refl _ _) _) _ | exact bel_drewN (bel_alloc (bel_alloc (Below.refl _ _) _) _) _⟩
  subst hd
  by_cases hd : oh = oh1
  rotate_left
  · have HE : Hid (sameBr ⟨mo, ba, l, op, oh, ot, st, fe, fp, fh, ft, lo⟩ ⟨mo, ba, l, op, oh1, ot1, st1, fe1, fp1, fh1, ft1, lo1⟩ = false) := by show _ = _; simp [sameBr, hd]
    have hq : (oh == oh1) = false := by simpa using hd
    go_enter Try.func27, Try.ntmps27
    go_wp2_with (go_at_call 38; refine (equalL_any _ _ l l _ (HS.out.keep (bel_alloc (bel_alloc (Below.refl _ _) _) _)) (HS1.out.keep (bel_alloc (bel_alloc (Below.refl _ _) _) _))).mono ?_; rintro e w' ⟨rfl, n, rfl⟩)
    go_ret
    exact ⟨ret_bool HE.out.symm, by first | exact bel_alloc (bel_alloc (Below.refl _ _) _) _ | exact bel_drewN (bel_alloc (bel_alloc (Below.refl _ _) _) _) _⟩
  subst hd
  by_cases hd : ot = ot1
  rotate_left
  · have HE : Hid (sameBr ⟨mo, ba, l, op, oh, ot, st, fe, fp, fh, ft, lo⟩ ⟨mo, ba, l, op, oh, ot1, st1, fe1, fp1, fh1, ft1, lo1⟩ = false) := by show _ = _; simp [sameBr, hd]
    have hq : (ot == ot1) = false := by simpa using hd
    go_enter Try.func27, Try.ntmps27
    go_wp2_with (go_at_call 38; refine (equalL_any _ _ l l _ (HS.out.keep (bel_alloc (bel_alloc (Below.refl _ _) _) _)) (HS1.out.keep (bel_alloc (bel_alloc (Below.refl _ _) _) _))).mono ?_; rintro e w' ⟨rfl, n, rfl⟩)
    go_ret
    exact ⟨ret_bool HE.out.symm, by first | exact bel_alloc (bel_alloc (Below.refl _ _) _) _ | exact bel_drewN (bel_alloc (bel_alloc (Below.refl _ _) _) _) _⟩
  subst hd
  by_cases hd : st = st1
  rotate_left
  · have HE : Hid (sameBr ⟨mo, ba, l, op, oh, ot, st, fe, fp, fh, ft, lo⟩ ⟨mo, ba, l, op, oh, ot, st1, fe1, fp1, fh1, ft1, lo1⟩ = false) := by show _ = _; simp [sameBr, hd]
    have hq : (st == st1) = false := by simpa using hd
    go_enter Try.func27, Try.ntmps27
    go_wp2_with (go_at_call 38; refine (equalL_any _ _ l l _ (HS.out.keep (bel_alloc (bel_alloc (Below.refl _ _) _) _)) (HS1.out.keep (bel_alloc (bel_alloc (Below.refl _ _) _) _))).mono ?_; rintro e w' ⟨rfl, n, rfl⟩)
    go_ret
    exact ⟨ret_bool HE.out.symm, by first | exact bel_alloc (bel_alloc (Below.refl _ _) _) _ | exact bel_drewN (bel_alloc (bel_alloc (Below.refl _ _) _) _) _⟩
  subst hd
  by_cases hd : fe = fe1
  rotate_left
  · have HE : Hid (sameBr ⟨mo, ba, l, op, oh, ot, st, fe, fp, fh, ft, lo⟩ ⟨mo, ba, l, op, oh, ot, st, fe1, fp1, fh1, ft1, lo1⟩ = false) := by show _ = _; simp [sameBr, hd]
    have hq : (fe == fe1) = false := by simpa using hd
    go_enter Try.func27, Try.ntmps27
    go_wp2_with (go_at_call 38; refine (equalL_any _ _ l l _ (HS.out.keep (bel_alloc (bel_alloc (Below.refl _ _) _) _)) (HS1.out.keep (bel_alloc (bel_alloc (Below.refl _ _) _) _))).mono ?_; rintro e w' ⟨rfl, n, rfl⟩)
    go_ret
    exact ⟨ret_bool HE.out.symm, by first | exact bel_alloc (bel_alloc (Below.refl _ _) _) _ | exact bel_drewN (bel_alloc (bel_alloc (Below.refl _ _) _) _) _⟩
  subst hd
  by_cases hd : fp = fp1
  rotate_left
  · have HE : Hid (sameBr ⟨mo, ba, l, op, oh, ot, st, fe, fp, fh, ft, lo⟩ ⟨mo, ba, l, op, oh, ot, st, fe, fp1, fh1, ft1, lo1⟩ = false) := by show _ = _; simp [sameBr, hd]
    have hq : (fp == fp1) = false := by simpa using hd
    go_enter Try.func27, Try.ntmps27
    go_wp2_with (go_at_call 38; refine (equalL_any _ _ l l _ (HS.out.keep (bel_alloc (bel_alloc (Below.refl _ _) _) _)) (HS1.out.keep (bel_alloc (bel_alloc (Below.refl _ _) _) _))).mono ?_; rintro e w' ⟨rfl, n, rfl⟩)
    go_ret
    exact ⟨ret_bool HE.out.symm, by first | exact bel_alloc (bel_alloc (Below.refl _ _) _) _ | exact bel_drewN (bel_alloc (bel_alloc (Below.refl _ _) _) _) _⟩
  subst hd
  by_cases hd : fh = fh1
  rotate_left
  · have HE : Hid (sameBr ⟨mo, ba, l, op, oh, ot, st, fe, fp, fh, ft, lo⟩ ⟨mo, ba, l, op, oh, ot, st, fe, fp, fh1, ft1, lo1⟩ = false) := by show _ = _; simp [sameBr, hd]
    have hq : (fh == fh1) = false := by simpa using hd
    go_enter Try.func27, Try.ntmps27
    go_wp2_with (go_at_call 38; refine (equalL_any _ _ l l _ (HS.out.keep (bel_alloc (bel_alloc (Below.refl _ _) _) _)) (HS1.out.keep (bel_alloc (bel_alloc (Below.refl _ _) _) _))).mono ?_; rintro e w' ⟨rfl, n, rfl⟩)
    go_ret
    exact ⟨ret_bool HE.out.symm, by first | exact bel_alloc (bel_alloc (Below.refl _ _) _) _ | exact bel_drewN (bel_alloc (bel_alloc (Below.refl _ _) _) _) _⟩
  subst hd
  by_cases hd : ft = ft1
  rotate_left
  · have HE : Hid (sameBr ⟨mo, ba, l, op, oh, ot, st, fe, fp, fh, ft, lo⟩ ⟨mo, ba, l, op, oh, ot, st, fe, fp, fh, ft1, lo1⟩ = false) := by show _ = _; simp [sameBr, hd]
    have hq : (ft == ft1) = false := by simpa using hd
    go_enter Try.func27, Try.ntmps27
    go_wp2_with (go_at_call 38; refine (equalL_any _ _ l l _ (HS.out.keep (bel_alloc (bel_alloc (Below.refl _ _) _) _)) (HS1.out.keep (bel_alloc (bel_alloc (Below.refl _ _) _) _))).mono ?_; rintro e w' ⟨rfl, n, rfl⟩)
    go_ret
    exact ⟨ret_bool HE.out.symm, by first | exact bel_alloc (bel_alloc (Below.refl _ _) _) _ | exact bel_drewN (bel_alloc (bel_alloc (Below.refl _ _) _) _) _⟩
  subst hd
  by_cases hd : lo = lo1
  rotate_left
  · have HE : Hid (sameBr ⟨mo, ba, l, op, oh, ot, st, fe, fp, fh, ft, lo⟩ ⟨mo, ba, l, op, oh, ot, st, fe, fp, fh, ft, lo1⟩ = false) := by show _ = _; simp [sameBr, hd]
    have hq : (lo == lo1) = false := by simpa using hd
    go_enter Try.func27, Try.ntmps27
    go_wp2_with (go_at_call 38; refine (equalL_any _ _ l l _ (HS.out.keep (bel_alloc (bel_alloc (Below.refl _ _) _) _)) (HS1.out.keep (bel_alloc (bel_alloc (Below.refl _ _) _) _))).mono ?_; rintro e w' ⟨rfl, n, rfl⟩)
    go_ret
    exact ⟨ret_bool HE.out.symm, by first | exact bel_alloc (bel_alloc (Below.refl _ _) _) _ | exact bel_drewN (bel_alloc (bel_alloc (Below.refl _ _) _) _) _⟩
  subst hd
  have HE : Hid (sameBr ⟨mo, ba, l, op, oh, ot, st, fe, fp, fh, ft, lo⟩ ⟨mo, ba, l, op, oh, ot, st, fe, fp, fh, ft, lo⟩ = true) := sameBr_self _
  go_enter Try.func27, Try.ntmps27
  go_wp2_with (go_at_call 38; refine (equalL_any _ _ l l _ (HS.out.keep (bel_alloc (bel_alloc (Below.refl _ _) _) _)) (HS1.out.keep (bel_alloc (bel_alloc (Below.refl _ _) _) _))).mono ?_; rintro e w' ⟨rfl, n, rfl⟩)
  go_ret
  exact ⟨ret_bool HE.out.symm, by first | exact bel_alloc (bel_alloc (Below.refl _ _) _) _ | exact bel_drewN (bel_alloc (bel_alloc (Below.refl _ _) _) _) _⟩
end Go.Proofs.Ytemnklppplgcoab
