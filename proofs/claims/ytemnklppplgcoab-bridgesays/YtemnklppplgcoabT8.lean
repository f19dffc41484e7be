/-
  Laid together: SameB, ShutWalk, CheckCR, Ring4, CheckBR, Digits.
-/
import Derived.Test.YtemnklppplgcoabT7
/-
  bridge.Same and drawbridgeref.SameBridge: are two bridges alike? Nothing that was there turns.
-/
namespace Go.Proofs.Ytemnklppplgcoab
open Go.RowKit

/-- Are they alike? -/
def sameBr (a b : Br) : Bool :=
  decide (a.mode = b.mode) && (decide (a.base = b.base) && (decide (a.cache = b.cache) && (decide (a.op = b.op) && (decide (a.oh = b.oh) && (decide (a.ot = b.ot) && (decide (a.stop = b.stop) && (decide (a.fen = b.fen) && (decide (a.fp = b.fp) && (decide (a.fh = b.fh) && (decide (a.ft = b.ft) && decide (a.lost = b.lost)))))))))))
theorem sameBr_self (b : Br) : sameBr b b = true := by simp [sameBr]
theorem sameBr_eq {a b : Br} (h : sameBr a b = true) : a = b := by
  simp only [sameBr, Bool.and_eq_true, decide_eq_true_eq] at h
  obtain ⟨h0, h1, h2, h3, h4, h5, h6, h7, h8, h9, h10, h11⟩ := h
  cases a; cases b
  simp_all
theorem sameBr_ne {a b : Br} (h : ¬ a = b) : sameBr a b = false := by
  cases hs : sameBr a b
  · rfl
  · exact absurd (sameBr_eq hs) h

set_option maxHeartbeats 4000000 in
theorem bSame_any (mo ba op oh ot fe fp fh ft : Int) (st lo : Bool) (vc : Value) (l : List Ln) (mo1 ba1 op1 oh1 ot1 fe1 fp1 fh1 ft1 : Int) (st1 lo1 : Bool) (vc1 : Value) (l1 : List Ln) (w : World) (h : Ls w vc l) (h1 : Ls w vc1 l1) :
    Calls Try.prog 26 #[.agg #[.int .i64 mo, .int .i64 ba, vc, .int .i64 op, .int .i64 oh, .int .i64 ot, .bool st, .int .i64 fe, .int .i64 fp, .int .i64 fh, .int .i64 ft, .bool lo], .agg #[.int .i64 mo1, .int .i64 ba1, vc1, .int .i64 op1, .int .i64 oh1, .int .i64 ot1, .bool st1, .int .i64 fe1, .int .i64 fp1, .int .i64 fh1, .int .i64 ft1, .bool lo1]] w fun e w' => e = .returned (.bool (sameBr ⟨mo, ba, l, op, oh, ot, st, fe, fp, fh, ft, lo⟩ ⟨mo1, ba1, l1, op1, oh1, ot1, st1, fe1, fp1, fh1, ft1, lo1⟩)) ∧ Below w.heap.size w w' := by
  have HS : Hid (Ls w vc l) := h
  have HS1 : Hid (Ls w vc1 l1) := h1
  obtain ⟨va, vk, rfl, -⟩ := h.shape
  obtain ⟨va1, vk1, rfl, -⟩ := h1.shape
  clear h h1
  by_cases hd : mo = mo1
  rotate_left
  · have HE : Hid (sameBr ⟨mo, ba, l, op, oh, ot, st, fe, fp, fh, ft, lo⟩ ⟨mo1, ba1, l1, op1, oh1, ot1, st1, fe1, fp1, fh1, ft1, lo1⟩ = false) := by show _ = _; simp [sameBr, hd]
    have hq : (mo == mo1) = false := by simpa using hd
    go_enter Try.func26, Try.ntmps26
    go_wp2_with fail
    go_ret
    exact ⟨ret_bool HE.out.symm, by first | exact bel_alloc (bel_alloc (Below.refl _ _) _) _ | exact bel_drewN (bel_alloc (bel_alloc (Below.refl _ _) _) _) _⟩
  subst hd
  by_cases hd : ba = ba1
  rotate_left
  · have HE : Hid (sameBr ⟨mo, ba, l, op, oh, ot, st, fe, fp, fh, ft, lo⟩ ⟨mo, ba1, l1, op1, oh1, ot1, st1, fe1, fp1, fh1, ft1, lo1⟩ = false) := by show _ = _; simp [sameBr, hd]
    have hq : (ba == ba1) = false := by simpa using hd
    go_enter Try.func26, Try.ntmps26
    go_wp2_with fail
    go_ret
    exact ⟨ret_bool HE.out.symm, by first | exact bel_alloc (bel_alloc (Below.refl _ _) _) _ | exact bel_drewN (bel_alloc (bel_alloc (Below.refl _ _) _) _) _⟩
  subst hd
  by_cases hd : l = l1
  rotate_left
  · have HE : Hid (sameBr ⟨mo, ba, l, op, oh, ot, st, fe, fp, fh, ft, lo⟩ ⟨mo, ba, l1, op1, oh1, ot1, st1, fe1, fp1, fh1, ft1, lo1⟩ = false) := by show _ = _; simp [sameBr, hd]
    have hq : decide (l = l1) = false := by simpa using hd
    go_enter Try.func26, Try.ntmps26
    go_wp2_with (go_at_call 38; refine (equalL_any _ _ l l1 _ (HS.out.keep (bel_alloc (bel_alloc (Below.refl _ _) _) _)) (HS1.out.keep (bel_alloc (bel_alloc (Below.refl _ _) _) _))).mono ?_; rintro e w' ⟨rfl, n, rfl⟩)
    go_ret
    exact ⟨ret_bool HE.out.symm, by first | exact bel_alloc (bel_alloc (Below.refl _ _) _) _ | exact bel_drewN (bel_alloc (bel_alloc (Below.refl _ _) _) _) _⟩
  subst hd
  by_cases hd : op = op1
  rotate_left
  · have HE : Hid (sameBr ⟨mo, ba, l, op, oh, ot, st, fe, fp, fh, ft, lo⟩ ⟨mo, ba, l, op1, oh1, ot1, st1, fe1, fp1, fh1, ft1, lo1⟩ = false) := by show _ = _; simp [sameBr, hd]
    have hq : (op == op1) = false := by simpa using hd
    go_enter Try.func26, Try.ntmps26
    go_wp2_with (go_at_call 38; refine (equalL_any _ _ l l _ (HS.out.keep (bel_alloc (bel_alloc (Below.refl _ _) _) _)) (HS1.out.keep (bel_alloc (bel_alloc (Below.refl _ _) _) _))).mono ?_; rintro e w' ⟨rfl, n, rfl⟩)
    go_ret
    exact ⟨ret_bool HE.out.symm, by first | exact bel_alloc (bel_alloc (Below.refl _ _) _) _ | exact bel_drewN (bel_alloc (bel_alloc (Below.refl _ _) _) _) _⟩
  subst hd
  by_cases hd : oh = oh1
  rotate_left
  · have HE : Hid (sameBr ⟨mo, ba, l, op, oh, ot, st, fe, fp, fh, ft, lo⟩ ⟨mo, ba, l, op, oh1, ot1, st1, fe1, fp1, fh1, ft1, lo1⟩ = false) := by show _ = _; simp [sameBr, hd]
    have hq : (oh == oh1) = false := by simpa using hd
    go_enter Try.func26, Try.ntmps26
    go_wp2_with (go_at_call 38; refine (equalL_any _ _ l l _ (HS.out.keep (bel_alloc (bel_alloc (Below.refl _ _) _) _)) (HS1.out.keep (bel_alloc (bel_alloc (Below.refl _ _) _) _))).mono ?_; rintro e w' ⟨rfl, n, rfl⟩)
    go_ret
    exact ⟨ret_bool HE.out.symm, by first | exact bel_alloc (bel_alloc (Below.refl _ _) _) _ | exact bel_drewN (bel_alloc (bel_alloc (Below.refl _ _) _) _) _⟩
  subst hd
  by_cases hd : ot = ot1
  rotate_left
  · have HE : Hid (sameBr ⟨mo, ba, l, op, oh, ot, st, fe, fp, fh, ft, lo⟩ ⟨mo, ba, l, op, oh, ot1, st1, fe1, fp1, fh1, ft1, lo1⟩ = false) := by show _ = _; simp [sameBr, hd]
    have hq : (ot == ot1) = false := by simpa using hd
    go_enter Try.func26, Try.ntmps26
    go_wp2_with (go_at_call 38; refine (equalL_any _ _ l l _ (HS.out.keep (bel_alloc (bel_alloc (Below.refl _ _) _) _)) (HS1.out.keep (bel_alloc (bel_alloc (Below.refl _ _) _) _))).mono ?_; rintro e w' ⟨rfl, n, rfl⟩)
    go_ret
    exact ⟨ret_bool HE.out.symm, by first | exact bel_alloc (bel_alloc (Below.refl _ _) _) _ | exact bel_drewN (bel_alloc (bel_alloc (Below.refl _ _) _) _) _⟩
  subst hd
  by_cases hd : st = st1
  rotate_left
  · have HE : Hid (sameBr ⟨mo, ba, l, op, oh, ot, st, fe, fp, fh, ft, lo⟩ ⟨mo, ba, l, op, oh, ot, st1, fe1, fp1, fh1, ft1, lo1⟩ = false) := by show _ = _; simp [sameBr, hd]
    have hq : (st == st1) = false := by simpa using hd
    go_enter Try.func26, Try.ntmps26
    go_wp2_with (go_at_call 38; refine (equalL_any _ _ l l _ (HS.out.keep (bel_alloc (bel_alloc (Below.refl _ _) _) _)) (HS1.out.keep (bel_alloc (bel_alloc (Below.refl _ _) _) _))).mono ?_; rintro e w' ⟨rfl, n, rfl⟩)
    go_ret
    exact ⟨ret_bool HE.out.symm, by first | exact bel_alloc (bel_alloc (Below.refl _ _) _) _ | exact bel_drewN (bel_alloc (bel_alloc (Below.refl _ _) _) _) _⟩
  subst hd
  by_cases hd : fe = fe1
  rotate_left
  · have HE : Hid (sameBr ⟨mo, ba, l, op, oh, ot, st, fe, fp, fh, ft, lo⟩ ⟨mo, ba, l, op, oh, ot, st, fe1, fp1, fh1, ft1, lo1⟩ = false) := by show _ = _; simp [sameBr, hd]
    have hq : (fe == fe1) = false := by simpa using hd
    go_enter Try.func26, Try.ntmps26
    go_wp2_with (go_at_call 38; refine (equalL_any _ _ l l _ (HS.out.keep (bel_alloc (bel_alloc (Below.refl _ _) _) _)) (HS1.out.keep (bel_alloc (bel_alloc (Below.refl _ _) _) _))).mono ?_; rintro e w' ⟨rfl, n, rfl⟩)
    go_ret
    exact ⟨ret_bool HE.out.symm, by first | exact bel_alloc (bel_alloc (Below.refl _ _) _) _ | exact bel_drewN (bel_alloc (bel_alloc (Below.refl _ _) _) _) _⟩
  subst hd
  by_cases hd : fp = fp1
  rotate_left
  · have HE : Hid (sameBr ⟨mo, ba, l, op, oh, ot, st, fe, fp, fh, ft, lo⟩ ⟨mo, ba, l, op, oh, ot, st, fe, fp1, fh1, ft1, lo1⟩ = false) := by show _ = _; simp [sameBr, hd]
    have hq : (fp == fp1) = false := by simpa using hd
    go_enter Try.func26, Try.ntmps26
    go_wp2_with (go_at_call 38; refine (equalL_any _ _ l l _ (HS.out.keep (bel_alloc (bel_alloc (Below.refl _ _) _) _)) (HS1.out.keep (bel_alloc (bel_alloc (Below.refl _ _) _) _))).mono ?_; rintro e w' ⟨rfl, n, rfl⟩)
    go_ret
    exact ⟨ret_bool HE.out.symm, by first | exact bel_alloc (bel_alloc (Below.refl _ _) _) _ | exact bel_drewN (bel_alloc (bel_alloc (Below.refl _ _) _) _) _⟩
  subst hd
  by_cases hd : fh = fh1
  rotate_left
  · have HE : Hid (sameBr ⟨mo, ba, l, op, oh, ot, st, fe, fp, fh, ft, lo⟩ ⟨mo, ba, l, op, oh, ot, st, fe, fp, fh1, ft1, lo1⟩ = false) := by show _ = _; simp [sameBr, hd]
    have hq : (fh == fh1) = false := by simpa using hd
    go_enter Try.func26, Try.ntmps26
    go_wp2_with (go_at_call 38; refine (equalL_any _ _ l l _ (HS.out.keep (bel_alloc (bel_alloc (Below.refl _ _) _) _)) (HS1.out.keep (bel_alloc (bel_alloc (Below.refl _ _) _) _))).mono ?_; rintro e w' ⟨rfl, n, rfl⟩)
    go_ret
    exact ⟨ret_bool HE.out.symm, by first | exact bel_alloc (bel_alloc (Below.refl _ _) _) _ | exact bel_drewN (bel_alloc (bel_alloc (Below.refl _ _) _) _) _⟩
  subst hd
  by_cases hd : ft = ft1
  rotate_left
  · have HE : Hid (sameBr ⟨mo, ba, l, op, oh, ot, st, fe, fp, fh, ft, lo⟩ ⟨mo, ba, l, op, oh, ot, st, fe, fp, fh, ft1, lo1⟩ = false) := by show _ = _; simp [sameBr, hd]
    have hq : (ft == ft1) = false := by simpa using hd
    go_enter Try.func26, Try.ntmps26
    go_wp2_with (go_at_call 38; refine (equalL_any _ _ l l _ (HS.out.keep (bel_alloc (bel_alloc (Below.refl _ _) _) _)) (HS1.out.keep (bel_alloc (bel_alloc (Below.refl _ _) _) _))).mono ?_; rintro e w' ⟨rfl, n, rfl⟩)
    go_ret
    exact ⟨ret_bool HE.out.symm, by first | exact bel_alloc (bel_alloc (Below.refl _ _) _) _ | exact bel_drewN (bel_alloc (bel_alloc (Below.refl _ _) _) _) _⟩
  subst hd
  by_cases hd : lo = lo1
  rotate_left
  · have HE : Hid (sameBr ⟨mo, ba, l, op, oh, ot, st, fe, fp, fh, ft, lo⟩ ⟨mo, ba, l, op, oh, ot, st, fe, fp, fh, ft, lo1⟩ = false) := by show _ = _; simp [sameBr, hd]
    have hq : (lo == lo1) = false := by simpa using hd
    go_enter Try.func26, Try.ntmps26
    go_wp2_with (go_at_call 38; refine (equalL_any _ _ l l _ (HS.out.keep (bel_alloc (bel_alloc (Below.refl _ _) _) _)) (HS1.out.keep (bel_alloc (bel_alloc (Below.refl _ _) _) _))).mono ?_; rintro e w' ⟨rfl, n, rfl⟩)
    go_ret
    exact ⟨ret_bool HE.out.symm, by first | exact bel_alloc (bel_alloc (Below.refl _ _) _) _ | exact bel_drewN (bel_alloc (bel_alloc (Below.refl _ _) _) _) _⟩
  subst hd
  have HE : Hid (sameBr ⟨mo, ba, l, op, oh, ot, st, fe, fp, fh, ft, lo⟩ ⟨mo, ba, l, op, oh, ot, st, fe, fp, fh, ft, lo⟩ = true) := sameBr_self _
  go_enter Try.func26, Try.ntmps26
  go_wp2_with (go_at_call 38; refine (equalL_any _ _ l l _ (HS.out.keep (bel_alloc (bel_alloc (Below.refl _ _) _) _)) (HS1.out.keep (bel_alloc (bel_alloc (Below.refl _ _) _) _))).mono ?_; rintro e w' ⟨rfl, n, rfl⟩)
  go_ret
  exact ⟨ret_bool HE.out.symm, by first | exact bel_alloc (bel_alloc (Below.refl _ _) _) _ | exact bel_drewN (bel_alloc (bel_alloc (Below.refl _ _) _) _) _⟩

set_option maxHeartbeats 4000000 in
theorem sameBridge_any (mo ba op oh ot fe fp fh ft : Int) (st lo : Bool) (vc : Value) (l : List Ln) (mo1 ba1 op1 oh1 ot1 fe1 fp1 fh1 ft1 : Int) (st1 lo1 : Bool) (vc1 : Value) (l1 : List Ln) (w : World) (h : Ls w vc l) (h1 : Ls w vc1 l1) :
    Calls Try.prog 27 #[.agg #[.int .i64 mo, .int .i64 ba, vc, .int .i64 op, .int .i64 oh, .int .i64 ot, .bool st, .int .i64 fe, .int .i64 fp, .int .i64 fh, .int .i64 ft, .bool lo], .agg #[.int .i64 mo1, .int .i64 ba1, vc1, .int .i64 op1, .int .i64 oh1, .int .i64 ot1, .bool st1, .int .i64 fe1, .int .i64 fp1, .int .i64 fh1, .int .i64 ft1, .bool lo1]] w fun e w' => e = .returned (.bool (sameBr ⟨mo, ba, l, op, oh, ot, st, fe, fp, fh, ft, lo⟩ ⟨mo1, ba1, l1, op1, oh1, ot1, st1, fe1, fp1, fh1, ft1, lo1⟩)) ∧ Below w.heap.size w w' := by
  have HS : Hid (Ls w vc l) := h
  have HS1 : Hid (Ls w vc1 l1) := h1
  obtain ⟨va, vk, rfl, -⟩ := h.shape
  obtain ⟨va1, vk1, rfl, -⟩ := h1.shape
  clear h h1
  by_cases hd : mo = mo1
  rotate_left
  · have HE : Hid (sameBr ⟨mo, ba, l, op, oh, ot, st, fe, fp, fh, ft, lo⟩ ⟨mo1, ba1, l1, op1, oh1, ot1, st1, fe1, fp1, fh1, ft1, lo1⟩ = false) := by show _ = _; simp [sameBr, hd]
    have hq : (mo == mo1) = false := by simpa using hd
    go_enter Try.func27, Try.ntmps27
    go_wp2_with fail
    go_ret
    exact ⟨ret_bool HE.out.symm, by first | exact bel_alloc (bel_alloc (Below.refl _ _) _) _ | exact bel_drewN (bel_alloc (bel_alloc (Below.refl _ _) _) _) _⟩
  subst hd
  by_cases hd : ba = ba1
  rotate_left
  · have HE : Hid (sameBr ⟨mo, ba, l, op, oh, ot, st, fe, fp, fh, ft, lo⟩ ⟨mo, ba1, l1, op1, oh1, ot1, st1, fe1, fp1, fh1, ft1, lo1⟩ = false) := by show _ = _; simp [sameBr, hd]
    have hq : (ba == ba1) = false := by simpa using hd
    go_enter Try.func27, Try.ntmps27
    go_wp2_with fail
    go_ret
    exact ⟨ret_bool HE.out.symm, by first | exact bel_alloc (bel_alloc (Below.refl _ _) _) _ | exact bel_drewN (bel_alloc (bel_alloc (Below.refl _ _) _) _) _⟩
  subst hd
  by_cases hd : l = l1
  rotate_left
  · have HE : Hid (sameBr ⟨mo, ba, l, op, oh, ot, st, fe, fp, fh, ft, lo⟩ ⟨mo, ba, l1, op1, oh1, ot1, st1, fe1, fp1, fh1, ft1, lo1⟩ = false) := by show _ = _; simp [sameBr, hd]
    have hq : decide (l = l1) = false := by simpa using hd
    go_enter Try.func27, Try.ntmps27
    go_wp2_with (go_at_call 38; refine (equalL_any _ _ l l1 _ (HS.out.keep (bel_alloc (bel_alloc (Below.refl _ _) _) _)) (HS1.out.keep (bel_alloc (bel_alloc (Below.refl _ _) _) _))).mono ?_; rintro e w' ⟨rfl, n, rfl⟩)
    go_ret
    exact ⟨ret_bool HE.out.symm, by first | exact bel_alloc (bel_alloc (Below.refl _ _) _) _ | exact bel_drewN (bel_alloc (bel_alloc (Below.refl _ _) _) _) _⟩
  subst hd
  by_cases hd : op = op1
  rotate_left
  · have HE : Hid (sameBr ⟨mo, ba, l, op, oh, ot, st, fe, fp, fh, ft, lo⟩ ⟨mo, ba, l, op1, oh1, ot1, st1, fe1, fp1, fh1, ft1, lo1⟩ = false) := by show _ = _; simp [sameBr, hd]
    have hq : (op == op1) = false := by simpa using hd
    go_enter Try.func27, Try.ntmps27
    go_wp2_with (go_at_call 38; refine (equalL_any _ _ l l _ (HS.out.keep (bel_alloc (bel_alloc (Below.refl _ _) _) _)) (HS1.out.keep (bel_alloc (bel_alloc (Below.refl _ _) _) _))).mono ?_; rintro e w' ⟨rfl, n, rfl⟩)
    go_ret
    exact ⟨ret_bool HE.out.symm, by first | exact bel_alloc (bel_alloc (Below.refl _ _) _) _ | exact bel_drewN (bel_alloc (bel_alloc (Below.refl _ _) _) _) _⟩
  subst hd
  by_cases hd : oh = oh1
  rotate_left
  · have HE : Hid (sameBr ⟨mo, ba, l, op, oh, ot, st, fe, fp, fh, ft, lo⟩ ⟨mo, ba, l, op, oh1, ot1, st1, fe1, fp1, fh1, ft1, lo1⟩ = false) := by show _ = _; simp [sameBr, hd]
    have hq : (oh == oh1) = false := by simpa using hd
    go_enter Try.func27, Try.ntmps27
    go_wp2_with (go_at_call 38; refine (equalL_any _ _ l l _ (HS.out.keep (bel_alloc (bel_alloc (Below.refl _ _) _) _)) (HS1.out.keep (bel_alloc (bel_alloc (Below.refl _ _) _) _))).mono ?_; rintro e w' ⟨rfl, n, rfl⟩)
    go_ret
    exact ⟨ret_bool HE.out.symm, by first | exact bel_alloc (bel_alloc (Below.refl _ _) _) _ | exact bel_drewN (bel_alloc (bel_alloc (Below.refl _ _) _) _) _⟩
  subst hd
  by_cases hd : ot = ot1
  rotate_left
  · have HE : Hid (sameBr ⟨mo, ba, l, op, oh, ot, st, fe, fp, fh, ft, lo⟩ ⟨mo, ba, l, op, oh, ot1, st1, fe1, fp1, fh1, ft1, lo1⟩ = false) := by show _ = _; simp [sameBr, hd]
    have hq : (ot == ot1) = false := by simpa using hd
    go_enter Try.func27, Try.ntmps27
    go_wp2_with (go_at_call 38; refine (equalL_any _ _ l l _ (HS.out.keep (bel_alloc (bel_alloc (Below.refl _ _) _) _)) (HS1.out.keep (bel_alloc (bel_alloc (Below.refl _ _) _) _))).mono ?_; rintro e w' ⟨rfl, n, rfl⟩)
    go_ret
    exact ⟨ret_bool HE.out.symm, by first | exact bel_alloc (bel_alloc (Below.refl _ _) _) _ | exact bel_drewN (bel_alloc (bel_alloc (Below.refl _ _) _) _) _⟩
  subst hd
  by_cases hd : st = st1
  rotate_left
  · have HE : Hid (sameBr ⟨mo, ba, l, op, oh, ot, st, fe, fp, fh, ft, lo⟩ ⟨mo, ba, l, op, oh, ot, st1, fe1, fp1, fh1, ft1, lo1⟩ = false) := by show _ = _; simp [sameBr, hd]
    have hq : (st == st1) = false := by simpa using hd
    go_enter Try.func27, Try.ntmps27
    go_wp2_with (go_at_call 38; refine (equalL_any _ _ l l _ (HS.out.keep (bel_alloc (bel_alloc (Below.refl _ _) _) _)) (HS1.out.keep (bel_alloc (bel_alloc (Below.refl _ _) _) _))).mono ?_; rintro e w' ⟨rfl, n, rfl⟩)
    go_ret
    exact ⟨ret_bool HE.out.symm, by first | exact bel_alloc (bel_alloc (Below.refl _ _) _) _ | exact bel_drewN (bel_alloc (bel_alloc (Below.refl _ _) _) _) _⟩
  subst hd
  by_cases hd : fe = fe1
  rotate_left
  · have HE : Hid (sameBr ⟨mo, ba, l, op, oh, ot, st, fe, fp, fh, ft, lo⟩ ⟨mo, ba, l, op, oh, ot, st, fe1, fp1, fh1, ft1, lo1⟩ = false) := by show _ = _; simp [sameBr, hd]
    have hq : (fe == fe1) = false := by simpa using hd
    go_enter Try.func27, Try.ntmps27
    go_wp2_with (go_at_call 38; refine (equalL_any _ _ l l _ (HS.out.keep (bel_alloc (bel_alloc (Below.refl _ _) _) _)) (HS1.out.keep (bel_alloc (bel_alloc (Below.refl _ _) _) _))).mono ?_; rintro e w' ⟨rfl, n, rfl⟩)
    go_ret
    exact ⟨ret_bool HE.out.symm, by first | exact bel_alloc (bel_alloc (Below.refl _ _) _) _ | exact bel_drewN (bel_alloc (bel_alloc (Below.refl _ _) _) _) _⟩
  subst hd
  by_cases hd : fp = fp1
  rotate_left
  · have HE : Hid (sameBr ⟨mo, ba, l, op, oh, ot, st, fe, fp, fh, ft, lo⟩ ⟨mo, ba, l, op, oh, ot, st, fe, fp1, fh1, ft1, lo1⟩ = false) := by show _ = _; simp [sameBr, hd]
    have hq : (fp == fp1) = false := by simpa using hd
    go_enter Try.func27, Try.ntmps27
    go_wp2_with (go_at_call 38; refine (equalL_any _ _ l l _ (HS.out.keep (bel_alloc (bel_alloc (Below.refl _ _) _) _)) (HS1.out.keep (bel_alloc (bel_alloc (Below.refl _ _) _) _))).mono ?_; rintro e w' ⟨rfl, n, rfl⟩)
    go_ret
    exact ⟨ret_bool HE.out.symm, by first | exact bel_alloc (bel_alloc (Below.refl _ _) _) _ | exact bel_drewN (bel_alloc (bel_alloc (Below.refl _ _) _) _) _⟩
  subst hd
  by_cases hd : fh = fh1
  rotate_left
  · have HE : Hid (sameBr ⟨mo, ba, l, op, oh, ot, st, fe, fp, fh, ft, lo⟩ ⟨mo, ba, l, op, oh, ot, st, fe, fp, fh1, ft1, lo1⟩ = false) := by show _ = _; simp [sameBr, hd]
    have hq : (fh == fh1) = false := by simpa using hd
    go_enter Try.func27, Try.ntmps27
    go_wp2_with (go_at_call 38; refine (equalL_any _ _ l l _ (HS.out.keep (bel_alloc (bel_alloc (Below.refl _ _) _) _)) (HS1.out.keep (bel_alloc (bel_alloc (Below.refl _ _) _) _))).mono ?_; rintro e w' ⟨rfl, n, rfl⟩)
    go_ret
    exact ⟨ret_bool HE.out.symm, by first | exact bel_alloc (bel_alloc (Below.refl _ _) _) _ | exact bel_drewN (bel_alloc (bel_alloc (Below.refl _ _) _) _) _⟩
  subst hd
  by_cases hd : ft = ft1
  rotate_left
  · have HE : Hid (sameBr ⟨mo, ba, l, op, oh, ot, st, fe, fp, fh, ft, lo⟩ ⟨mo, ba, l, op, oh, ot, st, fe, fp, fh, ft1, lo1⟩ = false) := by show _ = _; simp [sameBr, hd]
    have hq : (ft == ft1) = false := by simpa using hd
    go_enter Try.func27, Try.ntmps27
    go_wp2_with (go_at_call 38; refine (equalL_any _ _ l l _ (HS.out.keep (bel_alloc (bel_alloc (Below.refl _ _) _) _)) (HS1.out.keep (bel_alloc (bel_alloc (Below.refl _ _) _) _))).mono ?_; rintro e w' ⟨rfl, n, rfl⟩)
    go_ret
    exact ⟨ret_bool HE.out.symm, by first | exact bel_alloc (bel_alloc (Below.refl _ _) _) _ | exact bel_drewN (bel_alloc (bel_alloc (Below.refl _ _) _) _) _⟩
  subst hd
  by_cases hd : lo = lo1
  rotate_left
  · have HE : Hid (sameBr ⟨mo, ba, l, op, oh, ot, st, fe, fp, fh, ft, lo⟩ ⟨mo, ba, l, op, oh, ot, st, fe, fp, fh, ft, lo1⟩ = false) := by show _ = _; simp [sameBr, hd]
    have hq : (lo == lo1) = false := by simpa using hd
    go_enter Try.func27, Try.ntmps27
    go_wp2_with (go_at_call 38; refine (equalL_any _ _ l l _ (HS.out.keep (bel_alloc (bel_alloc (Below.refl _ _) _) _)) (HS1.out.keep (bel_alloc (bel_alloc (Below.refl _ _) _) _))).mono ?_; rintro e w' ⟨rfl, n, rfl⟩)
    go_ret
    exact ⟨ret_bool HE.out.symm, by first | exact bel_alloc (bel_alloc (Below.refl _ _) _) _ | exact bel_drewN (bel_alloc (bel_alloc (Below.refl _ _) _) _) _⟩
  subst hd
  have HE : Hid (sameBr ⟨mo, ba, l, op, oh, ot, st, fe, fp, fh, ft, lo⟩ ⟨mo, ba, l, op, oh, ot, st, fe, fp, fh, ft, lo⟩ = true) := sameBr_self _
  go_enter Try.func27, Try.ntmps27
  go_wp2_with (go_at_call 38; refine (equalL_any _ _ l l _ (HS.out.keep (bel_alloc (bel_alloc (Below.refl _ _) _) _)) (HS1.out.keep (bel_alloc (bel_alloc (Below.refl _ _) _) _))).mono ?_; rintro e w' ⟨rfl, n, rfl⟩)
  go_ret
  exact ⟨ret_bool HE.out.symm, by first | exact bel_alloc (bel_alloc (Below.refl _ _) _) _ | exact bel_drewN (bel_alloc (bel_alloc (Below.refl _ _) _) _) _⟩
end Go.Proofs.Ytemnklppplgcoab
/-
  The walk of BridgeShut: while the bridge is off, or bare.
-/
namespace Go.Proofs.Ytemnklppplgcoab
open Go.RowKit

theorem at8_any (k : Int) (w : World) :
    Calls Try.prog 34 #[.int .i64 k, .int .i64 8] w fun e w' => e = .returned (.int .i64 (k % 8)) ∧ w' = w := by
  have b1 : -8 < k.tmod 8 := Int.lt_tmod_of_pos k (by decide)
  have b2 : k.tmod 8 < 8 := Int.tmod_lt_of_pos k (by decide)
  have HM : Hid (k.tmod 8 = k - 8 * k.tdiv 8) := Int.tmod_def k 8
  by_cases h : k.tmod 8 < 0
  · go_enter Try.func34, Try.ntmps34
    go_wp2
    go_ret
    exact ⟨ret_int (by have := HM.out; omega), rfl⟩
  · go_enter Try.func34, Try.ntmps34
    go_wp2
    go_ret
    exact ⟨ret_int (by have := HM.out; omega), rfl⟩

theorem at_of (k n : Int) (w : World) (hn : n = 8 ∨ n = 64) :
    Calls Try.prog 34 #[.int .i64 k, .int .i64 n] w fun e w' => e = .returned (.int .i64 (k % n)) ∧ w' = w := by
  rcases hn with rfl | rfl
  · exact at8_any k w
  · exact at64_any k w

theorem thE_off (zs : List Int) (ba : Int) (l : List Ln) (op oh ot : Int) (st : Bool) (fe fp fh ft : Int) (lo : Bool) (d p : Int) : thE zs ⟨1, ba, l, op, oh, ot, st, fe, fp, fh, ft, lo⟩ d p = thE zs ⟨0, ba, l, op, oh, ot, st, fe, fp, fh, ft, lo⟩ d p := by
  have : chkB ⟨1, ba, l, op, oh, ot, st, fe, fp, fh, ft, lo⟩ = chkB ⟨0, ba, l, op, oh, ot, st, fe, fp, fh, ft, lo⟩ := by simp [chkB, rngBr]
  rw [thE, thE, bothB, bothB, this]

set_option maxHeartbeats 4000000 in
theorem bridgeShut_walk (v : Value) (zs : List Int) (mo ba op oh ot fe fp fh ft : Int) (st lo : Bool) (vc : Value) (l : List Ln) (dv pg : Int) (wt : Bool) (w : World) (hs : Sl w v zs) (h : Ls w vc l) :
    Calls Try.prog 8 #[.agg #[v], .agg #[.int .i64 mo, .int .i64 ba, vc, .int .i64 op, .int .i64 oh, .int .i64 ot, .bool st, .int .i64 fe, .int .i64 fp, .int .i64 fh, .int .i64 ft, .bool lo], .int .i64 dv, .int .i64 pg, .bool wt] w fun e w' => e = .returned (.bool true) ∧ Below w.heap.size w w' := by
  have HS : Hid (Ls w vc l) := h
  obtain ⟨va, vk, rfl, -⟩ := h.shape
  have HM : Hid (Sl w v zs) := hs
  obtain ⟨ma, mc, rfl⟩ := hs.shape
  clear h hs
  obtain ⟨d, hd⟩ : ∃ d, dv % 8 = d := ⟨_, rfl⟩
  obtain ⟨p, hp⟩ : ∃ p, pg % 64 = p := ⟨_, rfl⟩
  have HD : Hid (dv % 8 = d) := hd
  have HP : Hid (pg % 64 = p) := hp
  clear hd hp
  obtain ⟨E, hE⟩ : ∃ E, thE zs ⟨0, ba, l, op, oh, ot, st, fe, fp, fh, ft, lo⟩ d p = E := ⟨_, rfl⟩
  have HE : Hid (_ = _) := hE
  have HE1 : Hid (thE zs ⟨1, ba, l, op, oh, ot, st, fe, fp, fh, ft, lo⟩ d p = E) := (thE_off ..).trans hE
  clear hE
  have BA : Hid (Below w.heap.size w _) := bel_alloc (bel_alloc (Below.refl w.heap.size w) (.cells #[.slice ma zs.length mc] 39)) (.cells #[.int .i64 0, .int .i64 ba, .slice va l.length vk, .int .i64 op, .int .i64 oh, .int .i64 ot, .bool st, .int .i64 fe, .int .i64 fp, .int .i64 fh, .int .i64 ft, .bool lo] 44)
  by_cases h0 : E = 0
  rotate_left
  · have HR0 : Hid (thR zs ⟨0, ba, l, op, oh, ot, st, fe, fp, fh, ft, lo⟩ d p wt = (B0, 0, 0)) := if_neg (by rw [HE.out]; exact h0)
    have HR1 : Hid (thR zs ⟨1, ba, l, op, oh, ot, st, fe, fp, fh, ft, lo⟩ d p wt = (B0, 0, 0)) := if_neg (by rw [HE1.out]; exact h0)
    have hq : (E != 0) = true := by simpa using h0
    go_enter Try.func8, Try.ntmps8
    go_wp2_with (go_at_call 34; refine (at_of _ _ _ (by decide)).mono ?_; rintro e w' ⟨rfl, rfl⟩; first | rw [HD.out] | rw [HP.out])
    refine (through_at (HM.out.keep BA.out) (HS.out.keep BA.out) HE.out HR0.out).mono ?_
    rintro e w1 ⟨va1, vk1, rfl, -, b1⟩
    have X0 := ((Box.newAt (n := w.heap.size) rfl 39 #[.slice ma zs.length mc]).past _).keep b1
    have X1 := (Box.newAt (n := w.heap.size + 1) (by simp) 44 #[.int .i64 0, .int .i64 ba, .slice va l.length vk, .int .i64 op, .int .i64 oh, .int .i64 ot, .bool st, .int .i64 fe, .int .i64 fp, .int .i64 fh, .int .i64 ft, .bool lo]).keep b1
    have B1 : Hid (Below w.heap.size w w1) := bel_trans BA.out b1
    clear b1 BA
    obtain ⟨m0, -, s0⟩ := X0.one
    obtain ⟨⟨q0, q1, q2, q3, q4, q5, q6, q7, q8, q9, q10, q11⟩, s1⟩ := X1.twelve
    obtain ⟨y0, -⟩ := X1.marks
    go_wp2_with fail
    have B2 : Hid (Below w.heap.size w ((w1.setCell ⟨w.heap.size + 1, 0, none⟩ (.int .i64 1)).alloc (.cells #[.int .i64 0, .int .i64 0, .slice va1 0 vk1, .int .i64 0, .int .i64 0, .int .i64 0, .bool false, .int .i64 0, .int .i64 0, .int .i64 0, .int .i64 0, .bool false] 44))) := bel_alloc (bel_set (p := ⟨w.heap.size + 1, 0, none⟩) (by dsimp only; omega) B1.out _) _
    refine (through_at (HM.out.keep B2.out) (HS.out.keep B2.out) HE1.out HR1.out).mono ?_
    rintro e w2 ⟨va2, vk2, rfl, -, b2⟩
    have B3 : Hid (Below w.heap.size w w2) := bel_trans B2.out b2
    clear b2 B1 B2 m0 s0 q0 q1 q2 q3 q4 q5 q6 q7 q8 q9 q10 q11 s1 y0
    go_wp2_with fail
    refine (crossed_true _).mono ?_
    rintro e w3 ⟨rfl, b3⟩
    have B4 : Hid (Below w.heap.size w w3) := bel_trans (bel_alloc B3.out _) b3
    clear b3 B3
    go_wp2_with fail
    refine (crossed_true _).mono ?_
    rintro e w4 ⟨rfl, b4⟩
    have B5 : Hid (Below w.heap.size w w4) := bel_trans B4.out b4
    clear b4 B4
    go_wp2
    go_ret
    exact ⟨rfl, B5.out⟩
  subst h0
  have HR0 : Hid (thR zs ⟨0, ba, l, op, oh, ot, st, fe, fp, fh, ft, lo⟩ d p wt = (⟨0, ba, l, op, oh, ot, st, fe, fp, fh, ft, lo⟩, 0, 1)) := by show _ = _; rw [thR, if_pos HE.out]; rfl
  have HR1 : Hid (thR zs ⟨1, ba, l, op, oh, ot, st, fe, fp, fh, ft, lo⟩ d p wt = (⟨1, ba, l, op, oh, ot, st, fe, fp, fh, ft, lo⟩, p, 0)) := by show _ = _; rw [thR, if_pos HE1.out]; rfl
  go_enter Try.func8, Try.ntmps8
  go_wp2_with (go_at_call 34; refine (at_of _ _ _ (by decide)).mono ?_; rintro e w' ⟨rfl, rfl⟩; first | rw [HD.out] | rw [HP.out])
  refine (through_at (HM.out.keep BA.out) (HS.out.keep BA.out) HE.out HR0.out).mono ?_
  rintro e w1 ⟨va1, vk1, rfl, hL1, b1⟩
  have X0 := ((Box.newAt (n := w.heap.size) rfl 39 #[.slice ma zs.length mc]).past _).keep b1
  have X1 := (Box.newAt (n := w.heap.size + 1) (by simp) 44 #[.int .i64 0, .int .i64 ba, .slice va l.length vk, .int .i64 op, .int .i64 oh, .int .i64 ot, .bool st, .int .i64 fe, .int .i64 fp, .int .i64 fh, .int .i64 ft, .bool lo]).keep b1
  have B1 : Hid (Below w.heap.size w w1) := bel_trans BA.out b1
  have HL1 : Hid (Ls ((w1.setCell ⟨w.heap.size + 1, 0, none⟩ (.int .i64 1)).alloc (.cells #[.int .i64 0, .int .i64 ba, .slice va1 l.length vk1, .int .i64 op, .int .i64 oh, .int .i64 ot, .bool st, .int .i64 fe, .int .i64 fp, .int .i64 fh, .int .i64 ft, .bool lo] 44)) (.slice va1 l.length vk1) l) := (hL1.putAt (hL1.apart X1) 0 _).alloc _
  have X1' : Box ((w1.setCell ⟨w.heap.size + 1, 0, none⟩ (.int .i64 1)).alloc (.cells #[.int .i64 0, .int .i64 ba, .slice va1 l.length vk1, .int .i64 op, .int .i64 oh, .int .i64 ot, .bool st, .int .i64 fe, .int .i64 fp, .int .i64 fh, .int .i64 ft, .bool lo] 44)) (w.heap.size + 1) 44 #[.int .i64 1, .int .i64 ba, .slice va l.length vk, .int .i64 op, .int .i64 oh, .int .i64 ot, .bool st, .int .i64 fe, .int .i64 fp, .int .i64 fh, .int .i64 ft, .bool lo] := (Box.set X1 0 (.int .i64 1)).past _
  have X2' : Box ((w1.setCell ⟨w.heap.size + 1, 0, none⟩ (.int .i64 1)).alloc (.cells #[.int .i64 0, .int .i64 ba, .slice va1 l.length vk1, .int .i64 op, .int .i64 oh, .int .i64 ot, .bool st, .int .i64 fe, .int .i64 fp, .int .i64 fh, .int .i64 ft, .bool lo] 44)) w1.heap.size 44 #[.int .i64 0, .int .i64 ba, .slice va1 l.length vk1, .int .i64 op, .int .i64 oh, .int .i64 ot, .bool st, .int .i64 fe, .int .i64 fp, .int .i64 fh, .int .i64 ft, .bool lo] := Box.newAt (by simp) _ _
  have B2 : Hid (Below w.heap.size w ((w1.setCell ⟨w.heap.size + 1, 0, none⟩ (.int .i64 1)).alloc (.cells #[.int .i64 0, .int .i64 ba, .slice va1 l.length vk1, .int .i64 op, .int .i64 oh, .int .i64 ot, .bool st, .int .i64 fe, .int .i64 fp, .int .i64 fh, .int .i64 ft, .bool lo] 44))) := bel_alloc (bel_set (p := ⟨w.heap.size + 1, 0, none⟩) (by dsimp only; omega) B1.out _) _
  clear b1 BA hL1 B1
  obtain ⟨m0, -, s0⟩ := X0.one
  obtain ⟨⟨q0, q1, q2, q3, q4, q5, q6, q7, q8, q9, q10, q11⟩, s1⟩ := X1.twelve
  obtain ⟨y0, -⟩ := X1.marks
  go_wp2_with fail
  clear m0 s0 q0 q1 q2 q3 q4 q5 q6 q7 q8 q9 q10 q11 s1 y0
  generalize ((w1.setCell ⟨w.heap.size + 1, 0, none⟩ (.int .i64 1)).alloc (.cells #[.int .i64 0, .int .i64 ba, .slice va1 l.length vk1, .int .i64 op, .int .i64 oh, .int .i64 ot, .bool st, .int .i64 fe, .int .i64 fp, .int .i64 fh, .int .i64 ft, .bool lo] 44)) = W2 at *
  generalize w1.heap.size = N at *
  refine (through_at (HM.out.keep B2.out) (HS.out.keep B2.out) HE1.out HR1.out).mono ?_
  rintro e w2 ⟨va2, vk2, rfl, hL2, b2⟩
  have X1 := (X1'.keep b2)
  have X2 := (X2'.keep b2)
  have HL1 : Hid (Ls _ (.slice va1 l.length vk1) l) := (HL1.out.keep b2)
  have B3 : Hid (Below w.heap.size w w2) := bel_trans B2.out b2
  clear b2 B2 X1' X2'
  go_wp2_with fail
  refine (crossed_true _).mono ?_
  rintro e w3 ⟨rfl, b3⟩
  have X1 := (X1.past _).keep b3
  have X2 := (X2.past _).keep b3
  have X3 := (Box.newAt (w := w2) rfl 44 #[.int .i64 1, .int .i64 ba, .slice va2 l.length vk2, .int .i64 op, .int .i64 oh, .int .i64 ot, .bool st, .int .i64 fe, .int .i64 fp, .int .i64 fh, .int .i64 ft, .bool lo]).keep b3
  have HL1 : Hid (Ls _ (.slice va1 l.length vk1) l) := (HL1.out.alloc _).keep b3
  have HL2 : Hid (Ls _ (.slice va2 l.length vk2) l) := (hL2.alloc _).keep b3
  have B4 : Hid (Below w.heap.size w w3) := bel_trans (bel_alloc B3.out _) b3
  have HSS : Hid (Ls w3 (.slice va l.length vk) l) := HS.out.keep B4.out
  clear b3 B3 hL2
  generalize w2.heap.size = O at *
  obtain ⟨⟨q0, q1, q2, q3, q4, q5, q6, q7, q8, q9, q10, q11⟩, s1⟩ := X1.twelve
  obtain ⟨⟨u0, u1, u2, u3, u4, u5, u6, u7, u8, u9, u10, u11⟩, s3⟩ := X3.twelve
  go_wp2_with fail
  refine (bSame_any _ _ _ _ _ _ _ _ _ _ _ _ l _ _ _ _ _ _ _ _ _ _ _ _ l _ HL2.out HSS.out).mono ?_
  rintro e w4 ⟨rfl, b4⟩
  rw [sameBr_self]
  clear q0 q1 q2 q3 q4 q5 q6 q7 q8 q9 q10 q11 s1 u0 u1 u2 u3 u4 u5 u6 u7 u8 u9 u10 u11 s3
  have X1 := X1.keep b4
  have X2 := X2.keep b4
  have B5 : Hid (Below w.heap.size w w4) := bel_trans B4.out b4
  have HL1 : Hid (Ls _ (.slice va1 l.length vk1) l) := HL1.out.keep b4
  have HSS : Hid (Ls _ (.slice va l.length vk) l) := HSS.out.keep b4
  clear b4 B4 HL2
  obtain ⟨⟨q0, q1, q2, q3, q4, q5, q6, q7, q8, q9, q10, q11⟩, s1⟩ := X1.twelve
  obtain ⟨⟨u0, u1, u2, u3, u4, u5, u6, u7, u8, u9, u10, u11⟩, s3⟩ := X2.twelve
  go_wp2_with fail
  refine (equalL_any _ _ l l _ HL1.out HSS.out).mono ?_
  rintro e w5 ⟨rfl, n, rfl⟩
  rw [decide_eq_true (rfl : l = l)]
  go_wp2
  go_ret
  exact ⟨rfl, bel_drewN B5.out _⟩
end Go.Proofs.Ytemnklppplgcoab
/-
  drawbridgeref's CheckCache: the first thing that is wrong with lines; nothing that was there turns.
-/
namespace Go.Proofs.Ytemnklppplgcoab
open Go.RowKit

/-- The number that a line is seen by. -/
def keyN (x : Ln) : Int := x.1 * 64 + x.2.1
def seenN (l : List Ln) (k : Nat) : List Int := ((l.take k).map keyN).reverse
theorem seenN_zero (l : List Ln) : seenN l 0 = [] := by simp [seenN]
theorem seenN_next {l : List Ln} {k : Nat} (h : k < l.length) : seenN l (k + 1) = keyN (lth l k) :: seenN l k := by
  unfold seenN
  rw [List.take_succ_eq_append_getElem h, List.map_append, List.reverse_append, lth_get h]
  rfl
theorem rng_of {x : Ln} (h : rngB x = true) : (0 ≤ x.1 ∧ x.1 < 8) ∧ (0 ≤ x.2.1 ∧ x.2.1 < 64) := by
  simp [rngB] at h; exact ⟨by omega, by omega⟩
theorem key_same {x y : Ln} (hx : rngB x = true) (hy : rngB y = true) : keyB x y = true ↔ keyN x = keyN y := by
  obtain ⟨a1, a2⟩ := rng_of hx
  obtain ⟨b1, b2⟩ := rng_of hy
  unfold keyB keyN
  simp only [Bool.and_eq_true, decide_eq_true_eq]
  constructor
  · rintro ⟨e1, e2⟩; rw [e1, e2]
  · intro e; constructor <;> omega
/-- Whether the number was seen is whether the line was found. -/
theorem seen_find {l : List Ln} {k : Nat} (hk : k < l.length) (h : ∀ j, j < k → errL l j = 0) (hr : rngB (lth l k) = true) : keyN (lth l k) ∈ seenN l k ↔ 0 ≤ fndC (l.take k) (lth l k).1 (lth l k).2.1 := by
  rw [← any_find, List.any_eq_true]
  unfold seenN
  rw [List.mem_reverse, List.mem_map]
  constructor
  · rintro ⟨y, hy, e⟩
    refine ⟨y, hy, ?_⟩
    obtain ⟨j, hj, rfl⟩ := List.getElem_of_mem hy
    have hj' : j < k := by simp at hj; omega
    have hz := (errL_zero.1 (h j hj')).1
    rw [lth_get (by omega)] at hz
    rw [List.getElem_take] at e ⊢
    exact (key_same hr hz).2 e.symm
  · rintro ⟨y, hy, e⟩
    refine ⟨y, hy, ?_⟩
    obtain ⟨j, hj, rfl⟩ := List.getElem_of_mem hy
    have hj' : j < k := by simp at hj; omega
    have hz := (errL_zero.1 (h j hj')).1
    rw [lth_get (by omega)] at hz
    rw [List.getElem_take] at e ⊢
    exact ((key_same hr hz).1 e).symm

set_option maxHeartbeats 1000000 in
theorem checkCache_any (v : Value) (l : List Ln) (w : World) (h : Ls w v l) :
    Calls Try.prog 53 #[v] w fun e w' => e = .returned (.int .i64 (chkC l)) ∧ Below w.heap.size w w' := by
  have hmm := @run_makeMap Try.prog
  have HL : Hid (Ls w v l) := h
  obtain ⟨a, cap, rfl, hl, hm, h⟩ := h
  unfold maxLen at hm
  by_cases h6 : 6 < l.length
  · have e6 : chkC l = 1 := chkC_many h6
    rw [e6]
    have h6' : (6 : Int) < l.length := by omega
    go_enter Try.func53, Try.ntmps53
    go_wp2
    go_ret
    exact ⟨rfl, Below.refl _ _⟩
  have h6' : ¬ (6 : Int) < l.length := by omega
  have hmz : (l.length : Int) ≤ 6 := by omega
  rcases h with rfl | ⟨b, o, rfl, hb, hc⟩
  · go_enter Try.func53, Try.ntmps53
    go_wp2
    go_loopw [5, 12] (fun _ i w' => i = .int .i64 0 ∧ Below w.heap.size w w') (fun _ i _ => 0)
    case atStart => exact ⟨rfl, bel_alloc (Below.refl _ _) _⟩
    case round =>
      obtain ⟨rfl, hB⟩ := hrel
      go_wp2
      go_ret
      exact ⟨ret_int (chkC_all h6 (fun j hj => absurd hj (Nat.not_lt_zero _))).symm, hB⟩
  · have HC : Hid _ := hc
    clear hc
    go_enter Try.func53, Try.ntmps53
    go_wp2
    go_loopw [5, 12] (fun _ i w' => ∃ k : Nat, k ≤ l.length ∧ i = .int .i64 k ∧ (∀ j, j < k → errL l j = 0) ∧ Seen w' w.heap.size k (seenN l k) ∧ Below w.heap.size w w') (fun _ i _ => l.length - (intOf i).toNat)
    case atStart => exact ⟨0, Nat.zero_le _, rfl, fun j hj => absurd hj (Nat.not_lt_zero _), by rw [seenN_zero]; exact Seen.new w, bel_alloc (Below.refl _ _) _⟩
    case round =>
      obtain ⟨k, hk, rfl, hpre, hS, hB⟩ := hrel
      have HP : Hid _ := hpre
      have HB : Hid _ := hB
      by_cases hlt : k < l.length
      · obtain ⟨g0, g1, g2, g3, g4⟩ := (HC.out k hlt).keep hB hb
        have hb' : b < wr.heap.size := Nat.lt_of_lt_of_le hb hB.size
        obtain ⟨y, hy⟩ : ∃ y, y = lth l k := ⟨_, rfl⟩
        have HY : Hid _ := hy
        rw [← hy] at g0 g1 g2 g3 g4
        clear hy hpre hB
        obtain ⟨d1, p1, a1, r1, x1⟩ := y
        simp only at g0 g1 g2 g3 g4
        have hlt1 : (k : Int) < l.length := by omega
        have hk6 : k < 1000 := by omega
        have hsz : w.heap.size < wr.heap.size := hS.lt
        have HS : Hid _ := hS
        clear hS
        have HW : Hid (own (d1, p1, a1, r1, x1) = if (devB d1 && pgB p1 && pgB a1) = true then (if r1 = true then 0 else 3) else 2) := rfl
        by_cases ho : own (d1, p1, a1, r1, x1) = 0
        rotate_left
        · have HE : Hid (chkC l = own (d1, p1, a1, r1, x1)) := chkC_at h6 hlt HP.out (by have := errL_own (l := l) (k := k) (by rw [← HY.out]; exact ho); rw [this, ← HY.out]) ho
          cases e1 : devB d1
          · have H2 : Hid (chkC l = 2) := by show _ = _; rw [HE.out, HW.out, e1]; rfl
            go_wp2_with (first | (go_at_call 47; refine (cIn_any _ _ _ _).mono ?_; rintro e w1 ⟨rfl, rfl⟩; first | rw [in_dev, e1] | rw [in_page]))
            go_ret
            exact ⟨ret_int H2.out.symm, bel_alloc HB.out _⟩
          cases e2 : pgB p1
          · have H2 : Hid (chkC l = 2) := by show _ = _; rw [HE.out, HW.out, e1, e2]; rfl
            go_wp2_with (first | (go_at_call 47; refine (cIn_any _ _ _ _).mono ?_; rintro e w1 ⟨rfl, rfl⟩; first | rw [in_dev, e1] | rw [in_page, e2]))
            go_ret
            exact ⟨ret_int H2.out.symm, bel_alloc HB.out _⟩
          cases e3 : pgB a1
          · have H2 : Hid (chkC l = 2) := by show _ = _; rw [HE.out, HW.out, e1, e2, e3]; rfl
            go_wp2_with (first | (go_at_call 47; refine (cIn_any _ _ _ _).mono ?_; rintro e w1 ⟨rfl, rfl⟩; first | rw [in_dev, e1] | rw [in_page, e2] | rw [in_page, e3]))
            go_ret
            exact ⟨ret_int H2.out.symm, bel_alloc HB.out _⟩
          cases r1
          rotate_left
          · exact absurd (by rw [HW.out, e1, e2, e3]; rfl) ho
          have H2 : Hid (chkC l = 3) := by show _ = _; rw [HE.out, HW.out, e1, e2, e3]; rfl
          go_wp2_with (first | (go_at_call 47; refine (cIn_any _ _ _ _).mono ?_; rintro e w1 ⟨rfl, rfl⟩; first | rw [in_dev, e1] | rw [in_page, e2] | rw [in_page, e3]))
          go_ret
          exact ⟨ret_int H2.out.symm, bel_alloc HB.out _⟩
        have hw := HW.out
        rw [ho] at hw
        have e1 : devB d1 = true := by cases e : devB d1; (· rw [e] at hw; simp at hw); rfl
        have e2 : pgB p1 = true := by cases e : pgB p1; (· rw [e] at hw; simp at hw); rfl
        have e3 : pgB a1 = true := by cases e : pgB a1; (· rw [e] at hw; simp at hw); rfl
        have e4 : r1 = true := by rw [e1, e2, e3] at hw; cases r1; (· simp at hw); rfl
        subst e4
        clear hw HW
        have hd : 0 ≤ d1 ∧ d1 < 8 := by simpa [devB] using e1
        have hp : 0 ≤ p1 ∧ p1 < 64 := by simpa [pgB] using e2
        obtain ⟨hd0, hd1⟩ := hd
        obtain ⟨hp0, hp1⟩ := hp
        have HR : Hid (rngB (lth l k) = true) := by show _ = _; rw [← HY.out, rng_split, e1, e2, e3]; rfl
        have HS1 : ∀ ob, Seen (wr.alloc ob) w.heap.size k (seenN l k) := fun ob => Seen.keep HS.out (bel_alloc (Below.refl _ _) _)
        have HS2 : Hid _ := HS1
        clear HS1
        have HN : Hid (keyN (lth l k) = d1 * 64 + p1) := by show _ = _; rw [← HY.out]; rfl
        by_cases hin : d1 * 64 + p1 ∈ seenN l k
        · have HE : Hid (chkC l = 5) := chkC_at h6 hlt HP.out (errL_twice (by rw [← HY.out]; exact ho) ((seen_find hlt HP.out HR.out).1 (by rw [HN.out]; exact hin))) (by decide)
          go_wp2_with (first | (go_at_call 47; refine (cIn_any _ _ _ _).mono ?_; rintro e w1 ⟨rfl, rfl⟩; first | rw [in_dev, e1] | rw [in_page, e2] | rw [in_page, e3]) | (at_lookup; refine wpList_seen rfl _ _ rfl w.heap.size k (seenN l k) rfl (HS2.out _) (d1 * 64 + p1) (by first | rfl | simp) (by omega) (by omega) ?_; rw [decide_eq_true hin]))
          go_ret
          exact ⟨ret_int HE.out.symm, bel_alloc HB.out _⟩
        · have HE : Hid (errL l k = 0) := errL_fine (by rw [← HY.out]; exact ho) (fun hf => hin (by rw [← HN.out]; exact (seen_find hlt HP.out HR.out).2 hf))
          have HQ : Hid (seenN l (k + 1) = (d1 * 64 + p1) :: seenN l k) := by show _ = _; rw [seenN_next hlt, HN.out]
          go_wp2_with (first | (go_at_call 47; refine (cIn_any _ _ _ _).mono ?_; rintro e w1 ⟨rfl, rfl⟩; first | rw [in_dev, e1] | rw [in_page, e2] | rw [in_page, e3]) | (at_lookup; refine wpList_seen rfl _ _ rfl w.heap.size k (seenN l k) rfl (HS2.out _) (d1 * 64 + p1) (by first | rfl | simp) (by omega) (by omega) ?_; rw [decide_eq_false hin]) | (at_mapUpdate; refine wpList_see rfl _ _ _ rfl w.heap.size k (seenN l k) rfl (HS2.out _) (d1 * 64 + p1) (by first | rfl | simp) rfl (by omega) (by omega) hk6 ?_; intro w1 hs1 hgr1))
          exact ⟨⟨k + 1, by omega, by go_num, upto_next HP.out HE.out, by rw [HQ.out]; exact hs1, (bel_alloc HB.out _).grown hgr1 (by simp; omega) (fun j hj => by cases hj; exact Nat.le_refl _)⟩, by simp [intOf]; omega⟩
      · have HF : Hid (chkC l = 0) := chkC_all h6 fun j hj => HP.out j (by omega)
        clear hpre hB hS
        go_wp2
        go_ret
        exact ⟨ret_int HF.out.symm, HB.out⟩
end Go.Proofs.Ytemnklppplgcoab
/-
  drawbridgeref's CheckRing, LengthOf, Pushed, Popped: what they answer; nothing that was there turns.
-/
namespace Go.Proofs.Ytemnklppplgcoab
open Go.RowKit

theorem between_page (z : Int) : betweenB 0 63 z = pageR z := by unfold betweenB pageR; exact decide_eq_decide.2 (by omega)
theorem between_step (z : Int) : betweenB 0 7 z = stepR z := by unfold betweenB stepR; exact decide_eq_decide.2 (by omega)

set_option maxHeartbeats 1000000 in
theorem checkRing_any (p h t : Int) (w : World) :
    Calls Try.prog 54 #[.agg #[.int .i64 p, .int .i64 h, .int .i64 t]] w fun e w' => e = .returned (.int .i64 (chkR p h t)) ∧ w' = w.alloc (ringB p h t) := by
  cases a : pageR p
  · have : chkR p h t = 2 := by simp [chkR, a]
    rw [this]
    go_enter Try.func54, Try.ntmps54
    go_wp2_with (go_at_call 47; refine (in_any _ _ _ _).mono ?_; rintro e w' ⟨rfl, rfl⟩; first | rw [between_page] | rw [between_step])
    go_ret
    exact ⟨rfl, rfl⟩
  cases b : stepR h
  · have : chkR p h t = 2 := by simp [chkR, a, b]
    rw [this]
    go_enter Try.func54, Try.ntmps54
    go_wp2_with (go_at_call 47; refine (in_any _ _ _ _).mono ?_; rintro e w' ⟨rfl, rfl⟩; first | rw [between_page] | rw [between_step])
    go_ret
    exact ⟨rfl, rfl⟩
  cases c : stepR t
  · have : chkR p h t = 2 := by simp [chkR, a, b, c]
    rw [this]
    go_enter Try.func54, Try.ntmps54
    go_wp2_with (go_at_call 47; refine (in_any _ _ _ _).mono ?_; rintro e w' ⟨rfl, rfl⟩; first | rw [between_page] | rw [between_step])
    go_ret
    exact ⟨rfl, rfl⟩
  have : chkR p h t = 0 := by simp [chkR, a, b, c]
  rw [this]
  go_enter Try.func54, Try.ntmps54
  go_wp2_with (go_at_call 47; refine (in_any _ _ _ _).mono ?_; rintro e w' ⟨rfl, rfl⟩; first | rw [between_page] | rw [between_step])
  go_ret
  exact ⟨rfl, rfl⟩

set_option maxHeartbeats 1000000 in
/-- LengthOf a right ring. -/
theorem lengthOf_any (p h t : Int) (w : World) (hh : 0 ≤ h ∧ h < 8) (ht : 0 ≤ t ∧ t < 8) :
    Calls Try.prog 64 #[.agg #[.int .i64 p, .int .i64 h, .int .i64 t]] w fun e w' => e = .returned (.int .i64 (lenR h t)) ∧ w' = w.alloc (ringB p h t) := by
  have HH : Hid (0 ≤ h ∧ h < 8) := hh
  have HT : Hid (0 ≤ t ∧ t < 8) := ht
  have HL : Hid (lenR h t = (t - h + 8) % 8) := rfl
  clear hh ht
  go_enter Try.func64, Try.ntmps64
  go_wp2
  go_loop [3, 4] (fun a b => ∃ i : Nat, a = .int .i64 i ∧ b = .int .i64 ((h + i) % 8) ∧ (i : Int) ≤ lenR h t) (fun a _ => 8 - (intOf a).toNat)
  case atStart =>
    obtain ⟨h0, h1⟩ := HH.out
    refine ⟨0, rfl, ?_, ?_⟩
    · congr 1; simp; omega
    · rw [HL.out]; simp; omega
  case round =>
    obtain ⟨i, rfl, rfl, hi⟩ := hrel
    obtain ⟨h0, h1⟩ := HH.out
    obtain ⟨t0, t1⟩ := HT.out
    have hl := HL.out
    have Hl : Hid (lenR h t = (t - h + 8) % 8) := HL.out
    have Hi : Hid ((i : Int) ≤ lenR h t) := hi
    by_cases he : (h + i) % 8 = t
    · have hq : ((h + (i : Int)) % 8 != t) = false := by simpa using he
      have HD : Hid ((i : Int) = lenR h t) := by show _ = _; omega
      clear he hl hi
      go_wp2
      go_ret
      exact ⟨ret_int HD.out, rfl⟩
    · have hq : ((h + (i : Int)) % 8 != t) = true := by simpa using he
      have HD : Hid ((i : Int) + 1 ≤ lenR h t ∧ lenR h t < 8 ∧ ((h + i) % 8 + 1) % 8 = (h + ((i + 1 : Nat) : Int)) % 8) := by refine ⟨?_, ?_, ?_⟩ <;> omega
      have k0 : 0 ≤ (h + (i : Int)) % 8 := by omega
      have k1 : (h + (i : Int)) % 8 < 8 := by omega
      clear he hl hi
      generalize hk : (h + (i : Int)) % 8 = k at *
      have hi8 : (i : Int) < 8 := by have := HD.out; omega
      go_wp2
      refine ⟨⟨i + 1, by go_num, ?_, by have := HD.out; omega⟩, by simp [intOf]; omega⟩
      rw [← HD.out.2.2]
end Go.Proofs.Ytemnklppplgcoab
/-
  drawbridgeref's CheckBridge: what it answers; nothing that was there turns.
-/
namespace Go.Proofs.Ytemnklppplgcoab
open Go.RowKit

theorem rngBr_waysR {b : Br} : (rngBr b = true ∧ betweenB 0 2 b.mode = true ∧ betweenB 0 63 b.base = true ∧ betweenB 0 999 b.fen = true) ∨
    (rngBr b = false ∧ (betweenB 0 2 b.mode = false ∨ (betweenB 0 2 b.mode = true ∧ betweenB 0 63 b.base = false) ∨ (betweenB 0 2 b.mode = true ∧ betweenB 0 63 b.base = true ∧ betweenB 0 999 b.fen = false))) := by
  have e : rngBr b = (betweenB 0 2 b.mode && betweenB 0 63 b.base && betweenB 0 999 b.fen) := rfl
  rw [e]
  cases betweenB 0 2 b.mode <;> cases betweenB 0 63 b.base <;> cases betweenB 0 999 b.fen <;> simp

set_option maxHeartbeats 2000000 in
theorem checkBridge_any (mo ba op oh ot fe fp fh ft : Int) (st lo : Bool) (vc : Value) (l : List Ln) (w : World) (h : Ls w vc l) :
    Calls Try.prog 23 #[.agg #[.int .i64 mo, .int .i64 ba, vc, .int .i64 op, .int .i64 oh, .int .i64 ot, .bool st, .int .i64 fe, .int .i64 fp, .int .i64 fh, .int .i64 ft, .bool lo]] w fun e w' => e = .returned (.int .i64 (chkB ⟨mo, ba, l, op, oh, ot, st, fe, fp, fh, ft, lo⟩)) ∧ Below w.heap.size w w' := by
  have HS : Hid (Ls w vc l) := h
  obtain ⟨va, vk, rfl, -⟩ := h.shape
  clear h
  rcases rngBr_waysR (b := ⟨mo, ba, l, op, oh, ot, st, fe, fp, fh, ft, lo⟩) with ⟨hr, h1, h2, h3⟩ | ⟨hr, hw⟩
  rotate_left
  · have HE : Hid (chkB ⟨mo, ba, l, op, oh, ot, st, fe, fp, fh, ft, lo⟩ = 2) := by show _ = _; rw [chkB, hr]; rfl
    clear hr
    dsimp only at hw
    rcases hw with h1 | ⟨h1, h2⟩ | ⟨h1, h2, h3⟩
    all_goals
      go_enter Try.func23, Try.ntmps23
      go_wp2_with (go_at_call 47; refine (in_any _ _ _ _).mono ?_; rintro e w' ⟨rfl, rfl⟩)
      go_ret
      exact ⟨ret_int HE.out.symm, bel_alloc (Below.refl _ _) _⟩
  dsimp only at h1 h2 h3
  have HR : Hid (rngBr ⟨mo, ba, l, op, oh, ot, st, fe, fp, fh, ft, lo⟩ = true) := hr
  clear hr
  go_enter Try.func23, Try.ntmps23
  go_wp2_with (go_at_call 47; refine (in_any _ _ _ _).mono ?_; rintro e w' ⟨rfl, rfl⟩)
  refine (checkCache_any _ l _ (HS.out.alloc _)).mono ?_
  rintro e w1 ⟨rfl, b1⟩
  have X0 := (Box.newAt (n := w.heap.size) rfl 44 #[.int .i64 mo, .int .i64 ba, .slice va l.length vk, .int .i64 op, .int .i64 oh, .int .i64 ot, .bool st, .int .i64 fe, .int .i64 fp, .int .i64 fh, .int .i64 ft, .bool lo]).keep b1
  have B1 : Hid (Below w.heap.size w w1) := bel_trans (bel_alloc (Below.refl _ _) _) b1
  clear b1
  obtain ⟨⟨q0, q1, q2, q3, q4, q5, q6, q7, q8, q9, q10, q11⟩, s0⟩ := X0.twelve
  by_cases hc : chkC l = 0
  rotate_left
  · have HE : Hid (chkB ⟨mo, ba, l, op, oh, ot, st, fe, fp, fh, ft, lo⟩ = chkC l) := by show _ = _; rw [chkB, if_pos HR.out, if_neg hc]
    have hq : (chkC l == 0) = false := by simpa using hc
    go_wp2
    go_ret
    exact ⟨ret_int HE.out.symm, B1.out⟩
  rw [hc]
  go_wp2_with fail
  refine (checkRing_any _ _ _ _).mono ?_
  rintro e w2 ⟨rfl, rfl⟩
  by_cases hk : chkR op oh ot = 0
  rotate_left
  · have HE : Hid (chkB ⟨mo, ba, l, op, oh, ot, st, fe, fp, fh, ft, lo⟩ = chkR op oh ot) := by show _ = _; rw [chkB, if_pos HR.out, if_pos hc, if_neg hk]
    have hq : (chkR op oh ot == 0) = false := by simpa using hk
    go_wp2
    go_ret
    exact ⟨ret_int HE.out.symm, bel_alloc B1.out _⟩
  have HE : Hid (chkB ⟨mo, ba, l, op, oh, ot, st, fe, fp, fh, ft, lo⟩ = chkR fp fh ft) := by show _ = _; rw [chkB, if_pos HR.out, if_pos hc, if_pos hk]
  rw [hk]
  go_wp2_with fail
  refine (checkRing_any _ _ _ _).mono ?_
  rintro e w2 ⟨rfl, rfl⟩
  go_wp2
  go_ret
  exact ⟨ret_int HE.out.symm, bel_alloc (bel_alloc B1.out _) _⟩
end Go.Proofs.Ytemnklppplgcoab
/-
  drawbridgeref's digits and number: what they answer; nothing that was there turns.
-/
namespace Go.Proofs.Ytemnklppplgcoab
open Go.RowKit

/-- The number of some bits, the lowest one first. -/
def num : List Int → Int
  | [] => 0
  | b :: bs => b + 2 * num bs

theorem num_in (zs : List Int) (h : ∀ i, i < zs.length → 0 ≤ nth zs i ∧ nth zs i ≤ 1) : 0 ≤ num zs ∧ num zs < 2 ^ zs.length := by
  induction zs with
  | nil => simp [num]
  | cons b bs ih =>
    have h0 := h 0 (by simp)
    have hb : nth (b :: bs) 0 = b := rfl
    rw [hb] at h0
    have := ih fun i hi => h (i + 1) (by simp; omega)
    rw [num, List.length_cons, Int.pow_succ]
    omega
theorem num_drop (zs : List Int) (k : Nat) (hk : k < zs.length) : num (zs.drop k) = nth zs k + 2 * num (zs.drop (k + 1)) := by
  rw [List.drop_eq_getElem_cons hk, num]
  simp [nth, hk]
theorem nth_drop (zs : List Int) (k i : Nat) : nth (zs.drop k) i = nth zs (k + i) := by simp [nth]

theorem pow_le16 {n : Nat} (h : n ≤ 16) : (2 : Int) ^ n ≤ 65536 := by
  have : (2 : Int) ^ n ≤ 2 ^ 16 := by exact_mod_cast Nat.pow_le_pow_right (by decide) h
  exact this

set_option maxHeartbeats 1000000 in
theorem number_any (v : Value) (zs : List Int) (w : World) (h : Sl w v zs) (hz : ∀ i, i < zs.length → 0 ≤ nth zs i ∧ nth zs i ≤ 1) (hl : zs.length ≤ 16) :
    Calls Try.prog 84 #[v] w fun e w' => e = .returned (.int .i64 (num zs)) ∧ w' = w := by
  obtain ⟨a, cap, rfl, _, h⟩ := h
  rcases h with rfl | ⟨b, o, rfl, hb, hc⟩
  · go_enter Try.func84, Try.ntmps84
    go_wp2
    go_loop [3, 4] (fun n i => n = .int .i64 0 ∧ i = .int .i64 (-1)) (fun _ i => 0)
    case atStart => exact ⟨rfl, rfl⟩
    case round =>
      obtain ⟨rfl, rfl⟩ := hrel
      go_wp2
      go_ret
      exact ⟨rfl, rfl⟩
  · have HC : Hid (∀ i, i < zs.length → w.cell? ⟨b, o + i, none⟩ = some (.int .i64 (nth zs i))) := hc
    have HZ : Hid (∀ i, i < zs.length → 0 ≤ nth zs i ∧ nth zs i ≤ 1) := hz
    clear hc hz
    go_enter Try.func84, Try.ntmps84
    go_wp2
    go_loop [3, 4] (fun n i => ∃ k : Nat, k ≤ zs.length ∧ i = .int .i64 ((k : Int) - 1) ∧ n = .int .i64 (num (zs.drop k))) (fun _ i => (intOf i + 1).toNat)
    case atStart => exact ⟨zs.length, Nat.le_refl _, rfl, by simp [num]⟩
    case round =>
      obtain ⟨k, hk, rfl, rfl⟩ := hrel
      by_cases h0 : k = 0
      · subst h0
        go_wp2
        go_ret
        exact ⟨rfl, rfl⟩
      · obtain ⟨j, rfl⟩ : ∃ j, k = j + 1 := ⟨k - 1, by omega⟩
        have g := HC.out j (by omega)
        obtain ⟨g0, g1⟩ := HZ.out j (by omega)
        obtain ⟨m0, m1⟩ := num_in (zs.drop (j + 1)) fun i hi => by rw [nth_drop]; exact HZ.out _ (by simp at hi; omega)
        have m2 : num (zs.drop (j + 1)) < 65536 := Int.lt_of_lt_of_le m1 (pow_le16 (by simp; omega))
        have HN : Hid _ := num_drop zs j (by omega)
        have e1 : ((j + 1 : Nat) : Int) - 1 = j := by omega
        rw [e1]
        generalize num (zs.drop (j + 1)) = n at *
        generalize nth zs j = d at *
        clear m1 e1
        go_wp2
        refine ⟨⟨j, by omega, by go_num, ?_⟩, by simp [intOf]⟩
        rw [HN.out, Int.add_comm]

/-- A bit of a word, as a number: a plain name, so that the walk's own rules leave it standing. -/
def dg (z : Int) (j : Nat) : Int := z / 2 ^ j % 2

/-- The bits of a word as they lie in digits' array behind k rounds. -/
def digits (z : Int) (k : Nat) : List Int := (List.range 16).map (fun j => if j < k then dg z j else 0)
def digArr (z : Int) (k : Nat) : Array Value := ((digits z k).map (fun d => Value.int .i64 d)).toArray
theorem digArr_zero (z : Int) : digArr z 0 = #[.int .i64 0, .int .i64 0, .int .i64 0, .int .i64 0, .int .i64 0, .int .i64 0, .int .i64 0, .int .i64 0, .int .i64 0, .int .i64 0, .int .i64 0, .int .i64 0, .int .i64 0, .int .i64 0, .int .i64 0, .int .i64 0] := by
  simp [digArr, digits, List.range, List.range.loop]
theorem digArr_full (z : Int) : digArr z 16 = #[.int .i64 (dg z 0), .int .i64 (dg z 1), .int .i64 (dg z 2), .int .i64 (dg z 3), .int .i64 (dg z 4), .int .i64 (dg z 5), .int .i64 (dg z 6), .int .i64 (dg z 7), .int .i64 (dg z 8), .int .i64 (dg z 9), .int .i64 (dg z 10), .int .i64 (dg z 11), .int .i64 (dg z 12), .int .i64 (dg z 13), .int .i64 (dg z 14), .int .i64 (dg z 15)] := by
  simp [digArr, digits, List.range, List.range.loop]
theorem digArr_size (z : Int) (k : Nat) : (digArr z k).size = 16 := by simp [digArr, digits]
theorem digArr_at (z : Int) (k : Nat) (hk : k < 16) : (digArr z k)[k]? = some (.int .i64 0) := by
  simp [digArr, digits, hk]
theorem digArr_set (z : Int) (k : Nat) : (digArr z k).setIfInBounds k (.int .i64 (dg z k)) = digArr z (k + 1) := by
  apply Array.ext
  · simp [digArr, digits]
  · intro i h1 h2
    rw [Array.getElem_setIfInBounds]
    · by_cases e : k = i
      · subst e; simp [digArr, digits]
      · rw [if_neg e]
        have : (i < k) = (i < k + 1) := by simp; omega
        simp [digArr, digits, this]
    · simpa [digArr_size] using h2

set_option maxHeartbeats 2000000 in
theorem digits_any (z : Int) (w : World) (h0 : 0 ≤ z) (h1 : z ≤ 65535) :
    Calls Try.prog 83 #[.int .i64 z] w fun e w' => e = .returned (.agg #[.int .i64 (dg z 0), .int .i64 (dg z 1), .int .i64 (dg z 2), .int .i64 (dg z 3), .int .i64 (dg z 4), .int .i64 (dg z 5), .int .i64 (dg z 6), .int .i64 (dg z 7), .int .i64 (dg z 8), .int .i64 (dg z 9), .int .i64 (dg z 10), .int .i64 (dg z 11), .int .i64 (dg z 12), .int .i64 (dg z 13), .int .i64 (dg z 14), .int .i64 (dg z 15)]) ∧ ∃ o1 o2, w' = (w.alloc o1).alloc o2 := by
  go_enter Try.func83, Try.ntmps83
  go_wp2
  go_loopw [0, 5] (fun x i w' => ∃ k : Nat, k ≤ 16 ∧ x = .int .i64 (z / 2 ^ k) ∧ i = .int .i64 k ∧ w' = (w.alloc (.cells #[.int .i64 0, .int .i64 0, .int .i64 0, .int .i64 0, .int .i64 0, .int .i64 0, .int .i64 0, .int .i64 0, .int .i64 0, .int .i64 0, .int .i64 0, .int .i64 0, .int .i64 0, .int .i64 0, .int .i64 0, .int .i64 0] 114)).alloc (.cells (digArr z k) 114)) (fun _ i _ => 16 - (intOf i).toNat)
  case atStart => exact ⟨0, by omega, by simp, rfl, by rw [digArr_zero]⟩
  case round =>
    obtain ⟨k, hk, rfl, rfl, rfl⟩ := hrel
    by_cases hlt : k < 16
    · obtain ⟨y0, y1⟩ := shr_le z k h0 h1
      have hat := digArr_at z k hlt
      have HS : Hid _ := digArr_set z k
      have HD : Hid (z / 2 ^ k / 2 = z / 2 ^ (k + 1)) := by
        show z / 2 ^ k / 2 = z / 2 ^ (k + 1)
        rw [Int.pow_succ, Int.ediv_ediv_of_nonneg (Int.le_of_lt (Int.pow_pos (by decide)))]
      have HG : Hid (dg z k = z / 2 ^ k % 2) := rfl
      have hlt1 : (k : Int) < 16 := by omega
      generalize z / 2 ^ k = y at *
      go_wp2
      refine ⟨⟨k + 1, by omega, ?_, by go_num, ?_⟩, by simp [intOf]; omega⟩
      · rw [HD.out]
      · rw [← HS.out, HG.out]
    · obtain rfl : k = 16 := by omega
      rw [digArr_full]
      go_wp2
      refine bodyPost_ret (v := .agg #[.int .i64 (dg z 0), .int .i64 (dg z 1), .int .i64 (dg z 2), .int .i64 (dg z 3), .int .i64 (dg z 4), .int .i64 (dg z 5), .int .i64 (dg z 6), .int .i64 (dg z 7), .int .i64 (dg z 8), .int .i64 (dg z 9), .int .i64 (dg z 10), .int .i64 (dg z 11), .int .i64 (dg z 12), .int .i64 (dg z 13), .int .i64 (dg z 14), .int .i64 (dg z 15)]) (by simp [results, Try.results83, go_sem]) rfl ⟨rfl, _, _, rfl⟩
end Go.Proofs.Ytemnklppplgcoab
