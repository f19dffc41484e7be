/-
  Laid together: SameB, HeldMath, PartMath, AppendE, Late.
-/
import Derived.Test.YtefcdcneenjbgabT12
/-
  bridge.Same and drawbridgeref.SameBridge: are two bridges alike? Nothing that was there turns.
-/
namespace Go.Proofs.Ytefcdcneenjbgab
open Go.RowKit

/-- Are they alike? -/
def sameBr (a b : Br) : Bool :=
  decide (a.mode = b.mode) && (decide (a.base = b.base) && (decide (a.cache = b.cache) && (decide (a.op = b.op) && (decide (a.oh = b.oh) && (decide (a.ot = b.ot) && (decide (a.stop = b.stop) && (decide (a.fen = b.fen) && (decide (a.fp = b.fp) && (decide (a.fh = b.fh) && (decide (a.ft = b.ft) && decide (a.lost = b.lost)))))))))))
theorem sameBr_self (b : Br) : sameBr b b = true := by simp [sameBr]
theorem sameBr_eq {a b : Br} (h : sameBr a b = true) : a = b := by
  simp only [sameBr, Bool.and_eq_true, decide_eq_true_eq] at h
  obtain ⟨h0, h1, h2, h3, h4, h5, h6, h7, h8, h9, h10, h11⟩ := h
  cases a; cases b
  simp_all
theorem sameBr_ne {a b : Br} (h : ¬ a = b) : sameBr a b = false := by
  cases hs : sameBr a b
  · rfl
  · exact absurd (sameBr_eq hs) h

set_option maxHeartbeats 4000000 in
theorem bSame_any (mo ba op oh ot fe fp fh ft : Int) (st lo : Bool) (vc : Value) (l : List Ln) (mo1 ba1 op1 oh1 ot1 fe1 fp1 fh1 ft1 : Int) (st1 lo1 : Bool) (vc1 : Value) (l1 : List Ln) (w : World) (h : Ls w vc l) (h1 : Ls w vc1 l1) :
    Calls Try.prog 30 #[.agg #[.int .i64 mo, .int .i64 ba, vc, .int .i64 op, .int .i64 oh, .int .i64 ot, .bool st, .int .i64 fe, .int .i64 fp, .int .i64 fh, .int .i64 ft, .bool lo], .agg #[.int .i64 mo1, .int .i64 ba1, vc1, .int .i64 op1, .int .i64 oh1, .int .i64 ot1, .bool st1, .int .i64 fe1, .int .i64 fp1, .int .i64 fh1, .int .i64 ft1, .bool lo1]] w fun e w' => e = .returned (.bool (sameBr ⟨mo, ba, l, op, oh, ot, st, fe, fp, fh, ft, lo⟩ ⟨mo1, ba1, l1, op1, oh1, ot1, st1, fe1, fp1, fh1, ft1, lo1⟩)) ∧ Below w.heap.size w w' := by
  have HS : Hid (Ls w vc l) := h
  have HS1 : Hid (Ls w vc1 l1) := h1
  obtain ⟨va, vk, rfl, -⟩ := h.shape
  obtain ⟨va1, vk1, rfl, -⟩ := h1.shape
  clear h h1
  by_cases hd : mo = mo1
  rotate_left
  · have HE : Hid (sameBr ⟨mo, ba, l, op, oh, ot, st, fe, fp, fh, ft, lo⟩ ⟨mo1, ba1, l1, op1, oh1, ot1, st1, fe1, fp1, fh1, ft1, lo1⟩ = false) := by show _ = _; simp [sameBr, hd]
    have hq : (mo == mo1) = false := by simpa using hd
    go_enter Try.func30, Try.ntmps30
    go_wp2_with fail
    go_ret
    exact ⟨ret_bool HE.out.symm, by first | exact bel_alloc (bel_alloc (Below.refl _ _) _) _ | exact bel_drewN (bel_alloc (bel_alloc (Below.refl _ _) _) _) _⟩
  subst hd
  by_cases hd : ba = ba1
  rotate_left
  · have HE : Hid (sameBr ⟨mo, ba, l, op, oh, ot, st, fe, fp, fh, ft, lo⟩ ⟨mo, ba1, l1, op1, oh1, ot1, st1, fe1, fp1, fh1, ft1, lo1⟩ = false) := by show _ = _; simp [sameBr, hd]
    have hq : (ba == ba1) = false := by simpa using hd
    go_enter Try.func30, Try.ntmps30
    go_wp2_with fail
    go_ret
    exact ⟨ret_bool HE.out.symm, by first | exact bel_alloc (bel_alloc (Below.refl _ _) _) _ | exact bel_drewN (bel_alloc (bel_alloc (Below.refl _ _) _) _) _⟩
  subst hd
  by_cases hd : l = l1
  rotate_left
  · have HE : Hid (sameBr ⟨mo, ba, l, op, oh, ot, st, fe, fp, fh, ft, lo⟩ ⟨mo, ba, l1, op1, oh1, ot1, st1, fe1, fp1, fh1, ft1, lo1⟩ = false) := by show _ = _; simp [sameBr, hd]
    have hq : decide (l = l1) = false := by simpa using hd
    go_enter Try.func30, Try.ntmps30
    go_wp2_with (go_at_call 42; refine (equalL_any _ _ l l1 _ (HS.out.keep (bel_alloc (bel_alloc (Below.refl _ _) _) _)) (HS1.out.keep (bel_alloc (bel_alloc (Below.refl _ _) _) _))).mono ?_; rintro e w' ⟨rfl, n, rfl⟩)
    go_ret
    exact ⟨ret_bool HE.out.symm, by first | exact bel_alloc (bel_alloc (Below.refl _ _) _) _ | exact bel_drewN (bel_alloc (bel_alloc (Below.refl _ _) _) _) _⟩
  subst hd
  by_cases hd : op = op1
  rotate_left
  · have HE : Hid (sameBr ⟨mo, ba, l, op, oh, ot, st, fe, fp, fh, ft, lo⟩ ⟨mo, ba, l, op1, oh1, ot1, st1, fe1, fp1, fh1, ft1, lo1⟩ = false) := by show _ = _; simp [sameBr, hd]
    have hq : (op == op1) = false := by simpa using hd
    go_enter Try.func30, Try.ntmps30
    go_wp2_with (go_at_call 42; refine (equalL_any _ _ l l _ (HS.out.keep (bel_alloc (bel_alloc (Below.refl _ _) _) _)) (HS1.out.keep (bel_alloc (bel_alloc (Below.refl _ _) _) _))).mono ?_; rintro e w' ⟨rfl, n, rfl⟩)
    go_ret
    exact ⟨ret_bool HE.out.symm, by first | exact bel_alloc (bel_alloc (Below.refl _ _) _) _ | exact bel_drewN (bel_alloc (bel_alloc (Below.refl _ _) _) _) _⟩
  subst hd
  by_cases hd : oh = oh1
  rotate_left
  · have HE : Hid (sameBr ⟨mo, ba, l, op, oh, ot, st, fe, fp, fh, ft, lo⟩ ⟨mo, ba, l, op, oh1, ot1, st1, fe1, fp1, fh1, ft1, lo1⟩ = false) := by show _ = _; simp [sameBr, hd]
    have hq : (oh == oh1) = false := by simpa using hd
    go_enter Try.func30, Try.ntmps30
    go_wp2_with (go_at_call 42; refine (equalL_any _ _ l l _ (HS.out.keep (bel_alloc (bel_alloc (Below.refl _ _) _) _)) (HS1.out.keep (bel_alloc (bel_alloc (Below.refl _ _) _) _))).mono ?_; rintro e w' ⟨rfl, n, rfl⟩)
    go_ret
    exact ⟨ret_bool HE.out.symm, by first | exact bel_alloc (bel_alloc (Below.refl _ _) _) _ | exact bel_drewN (bel_alloc (bel_alloc (Below.refl _ _) _) _) _⟩
  subst hd
  by_cases hd : ot = ot1
  rotate_left
  · have HE : Hid (sameBr ⟨mo, ba, l, op, oh, ot, st, fe, fp, fh, ft, lo⟩ ⟨mo, ba, l, op, oh, ot1, st1, fe1, fp1, fh1, ft1, lo1⟩ = false) := by show _ = _; simp [sameBr, hd]
    have hq : (ot == ot1) = false := by simpa using hd
    go_enter Try.func30, Try.ntmps30
    go_wp2_with (go_at_call 42; refine (equalL_any _ _ l l _ (HS.out.keep (bel_alloc (bel_alloc (Below.refl _ _) _) _)) (HS1.out.keep (bel_alloc (bel_alloc (Below.refl _ _) _) _))).mono ?_; rintro e w' ⟨rfl, n, rfl⟩)
    go_ret
    exact ⟨ret_bool HE.out.symm, by first | exact bel_alloc (bel_alloc (Below.refl _ _) _) _ | exact bel_drewN (bel_alloc (bel_alloc (Below.refl _ _) _) _) _⟩
  subst hd
  by_cases hd : st = st1
  rotate_left
  · have HE : Hid (sameBr ⟨mo, ba, l, op, oh, ot, st, fe, fp, fh, ft, lo⟩ ⟨mo, ba, l, op, oh, ot, st1, fe1, fp1, fh1, ft1, lo1⟩ = false) := by show _ = _; simp [sameBr, hd]
    have hq : (st == st1) = false := by simpa using hd
    go_enter Try.func30, Try.ntmps30
    go_wp2_with (go_at_call 42; refine (equalL_any _ _ l l _ (HS.out.keep (bel_alloc (bel_alloc (Below.refl _ _) _) _)) (HS1.out.keep (bel_alloc (bel_alloc (Below.refl _ _) _) _))).mono ?_; rintro e w' ⟨rfl, n, rfl⟩)
    go_ret
    exact ⟨ret_bool HE.out.symm, by first | exact bel_alloc (bel_alloc (Below.refl _ _) _) _ | exact bel_drewN (bel_alloc (bel_alloc (Below.refl _ _) _) _) _⟩
  subst hd
  by_cases hd : fe = fe1
  rotate_left
  · have HE : Hid (sameBr ⟨mo, ba, l, op, oh, ot, st, fe, fp, fh, ft, lo⟩ ⟨mo, ba, l, op, oh, ot, st, fe1, fp1, fh1, ft1, lo1⟩ = false) := by show _ = _; simp [sameBr, hd]
    have hq : (fe == fe1) = false := by simpa using hd
    go_enter Try.func30, Try.ntmps30
    go_wp2_with (go_at_call 42; refine (equalL_any _ _ l l _ (HS.out.keep (bel_alloc (bel_alloc (Below.refl _ _) _) _)) (HS1.out.keep (bel_alloc (bel_alloc (Below.refl _ _) _) _))).mono ?_; rintro e w' ⟨rfl, n, rfl⟩)
    go_ret
    exact ⟨ret_bool HE.out.symm, by first | exact bel_alloc (bel_alloc (Below.refl _ _) _) _ | exact bel_drewN (bel_alloc (bel_alloc (Below.refl _ _) _) _) _⟩
  subst hd
  by_cases hd : fp = fp1
  rotate_left
  · have HE : Hid (sameBr ⟨mo, ba, l, op, oh, ot, st, fe, fp, fh, ft, lo⟩ ⟨mo, ba, l, op, oh, ot, st, fe, fp1, fh1, ft1, lo1⟩ = false) := by show _ = _; simp [sameBr, hd]
    have hq : (fp == fp1) = false := by simpa using hd
    go_enter Try.func30, Try.ntmps30
    go_wp2_with (go_at_call 42; refine (equalL_any _ _ l l _ (HS.out.keep (bel_alloc (bel_alloc (Below.refl _ _) _) _)) (HS1.out.keep (bel_alloc (bel_alloc (Below.refl _ _) _) _))).mono ?_; rintro e w' ⟨rfl, n, rfl⟩)
    go_ret
    exact ⟨ret_bool HE.out.symm, by first | exact bel_alloc (bel_alloc (Below.refl _ _) _) _ | exact bel_drewN (bel_alloc (bel_alloc (Below.refl _ _) _) _) _⟩
  subst hd
  by_cases hd : fh = fh1
  rotate_left
  · have HE : Hid (sameBr ⟨mo, ba, l, op, oh, ot, st, fe, fp, fh, ft, lo⟩ ⟨mo, ba, l, op, oh, ot, st, fe, fp, fh1, ft1, lo1⟩ = false) := by show _ = _; simp [sameBr, hd]
    have hq : (fh == fh1) = false := by simpa using hd
    go_enter Try.func30, Try.ntmps30
    go_wp2_with (go_at_call 42; refine (equalL_any _ _ l l _ (HS.out.keep (bel_alloc (bel_alloc (Below.refl _ _) _) _)) (HS1.out.keep (bel_alloc (bel_alloc (Below.refl _ _) _) _))).mono ?_; rintro e w' ⟨rfl, n, rfl⟩)
    go_ret
    exact ⟨ret_bool HE.out.symm, by first | exact bel_alloc (bel_alloc (Below.refl _ _) _) _ | exact bel_drewN (bel_alloc (bel_alloc (Below.refl _ _) _) _) _⟩
  subst hd
  by_cases hd : ft = ft1
  rotate_left
  · have HE : Hid (sameBr ⟨mo, ba, l, op, oh, ot, st, fe, fp, fh, ft, lo⟩ ⟨mo, ba, l, op, oh, ot, st, fe, fp, fh, ft1, lo1⟩ = false) := by show _ = _; simp [sameBr, hd]
    have hq : (ft == ft1) = false := by simpa using hd
    go_enter Try.func30, Try.ntmps30
    go_wp2_with (go_at_call 42; refine (equalL_any _ _ l l _ (HS.out.keep (bel_alloc (bel_alloc (Below.refl _ _) _) _)) (HS1.out.keep (bel_alloc (bel_alloc (Below.refl _ _) _) _))).mono ?_; rintro e w' ⟨rfl, n, rfl⟩)
    go_ret
    exact ⟨ret_bool HE.out.symm, by first | exact bel_alloc (bel_alloc (Below.refl _ _) _) _ | exact bel_drewN (bel_alloc (bel_alloc (Below.refl _ _) _) _) _⟩
  subst hd
  by_cases hd : lo = lo1
  rotate_left
  · have HE : Hid (sameBr ⟨mo, ba, l, op, oh, ot, st, fe, fp, fh, ft, lo⟩ ⟨mo, ba, l, op, oh, ot, st, fe, fp, fh, ft, lo1⟩ = false) := by show _ = _; simp [sameBr, hd]
    have hq : (lo == lo1) = false := by simpa using hd
    go_enter Try.func30, Try.ntmps30
    go_wp2_with (go_at_call 42; refine (equalL_any _ _ l l _ (HS.out.keep (bel_alloc (bel_alloc (Below.refl _ _) _) _)) (HS1.out.keep (bel_alloc (bel_alloc (Below.refl _ _) _) _))).mono ?_; rintro e w' ⟨rfl, n, rfl⟩)
    go_ret
    exact ⟨ret_bool HE.out.symm, by first | exact bel_alloc (bel_alloc (Below.refl _ _) _) _ | exact bel_drewN (bel_alloc (bel_alloc (Below.refl _ _) _) _) _⟩
  subst hd
  have HE : Hid (sameBr ⟨mo, ba, l, op, oh, ot, st, fe, fp, fh, ft, lo⟩ ⟨mo, ba, l, op, oh, ot, st, fe, fp, fh, ft, lo⟩ = true) := sameBr_self _
  go_enter Try.func30, Try.ntmps30
  go_wp2_with (go_at_call 42; refine (equalL_any _ _ l l _ (HS.out.keep (bel_alloc (bel_alloc (Below.refl _ _) _) _)) (HS1.out.keep (bel_alloc (bel_alloc (Below.refl _ _) _) _))).mono ?_; rintro e w' ⟨rfl, n, rfl⟩)
  go_ret
  exact ⟨ret_bool HE.out.symm, by first | exact bel_alloc (bel_alloc (Below.refl _ _) _) _ | exact bel_drewN (bel_alloc (bel_alloc (Below.refl _ _) _) _) _⟩

set_option maxHeartbeats 4000000 in
theorem sameBridge_any (mo ba op oh ot fe fp fh ft : Int) (st lo : Bool) (vc : Value) (l : List Ln) (mo1 ba1 op1 oh1 ot1 fe1 fp1 fh1 ft1 : Int) (st1 lo1 : Bool) (vc1 : Value) (l1 : List Ln) (w : World) (h : Ls w vc l) (h1 : Ls w vc1 l1) :
    Calls Try.prog 31 #[.agg #[.int .i64 mo, .int .i64 ba, vc, .int .i64 op, .int .i64 oh, .int .i64 ot, .bool st, .int .i64 fe, .int .i64 fp, .int .i64 fh, .int .i64 ft, .bool lo], .agg #[.int .i64 mo1, .int .i64 ba1, vc1, .int .i64 op1, .int .i64 oh1, .int .i64 ot1, .bool st1, .int .i64 fe1, .int .i64 fp1, .int .i64 fh1, .int .i64 ft1, .bool lo1]] w fun e w' => e = .returned (.bool (sameBr ⟨mo, ba, l, op, oh, ot, st, fe, fp, fh, ft, lo⟩ ⟨mo1, ba1, l1, op1, oh1, ot1, st1, fe1, fp1, fh1, ft1, lo1⟩)) ∧ Below w.heap.size w w' := by
  have HS : Hid (Ls w vc l) := h
  have HS1 : Hid (Ls w vc1 l1) := h1
  obtain ⟨va, vk, rfl, -⟩ := h.shape
  obtain ⟨va1, vk1, rfl, -⟩ := h1.shape
  clear h h1
  by_cases hd : mo = mo1
  rotate_left
  · have HE : Hid (sameBr ⟨mo, ba, l, op, oh, ot, st, fe, fp, fh, ft, lo⟩ ⟨mo1, ba1, l1, op1, oh1, ot1, st1, fe1, fp1, fh1, ft1, lo1⟩ = false) := by show _ = _; simp [sameBr, hd]
    have hq : (mo == mo1) = false := by simpa using hd
    go_enter Try.func31, Try.ntmps31
    go_wp2_with fail
    go_ret
    exact ⟨ret_bool HE.out.symm, by first | exact bel_alloc (bel_alloc (Below.refl _ _) _) _ | exact bel_drewN (bel_alloc (bel_alloc (Below.refl _ _) _) _) _⟩
  subst hd
  by_cases hd : ba = ba1
  rotate_left
  · have HE : Hid (sameBr ⟨mo, ba, l, op, oh, ot, st, fe, fp, fh, ft, lo⟩ ⟨mo, ba1, l1, op1, oh1, ot1, st1, fe1, fp1, fh1, ft1, lo1⟩ = false) := by show _ = _; simp [sameBr, hd]
    have hq : (ba == ba1) = false := by simpa using hd
    go_enter Try.func31, Try.ntmps31
    go_wp2_with fail
    go_ret
    exact ⟨ret_bool HE.out.symm, by first | exact bel_alloc (bel_alloc (Below.refl _ _) _) _ | exact bel_drewN (bel_alloc (bel_alloc (Below.refl _ _) _) _) _⟩
  subst hd
  by_cases hd : l = l1
  rotate_left
  · have HE : Hid (sameBr ⟨mo, ba, l, op, oh, ot, st, fe, fp, fh, ft, lo⟩ ⟨mo, ba, l1, op1, oh1, ot1, st1, fe1, fp1, fh1, ft1, lo1⟩ = false) := by show _ = _; simp [sameBr, hd]
    have hq : decide (l = l1) = false := by simpa using hd
    go_enter Try.func31, Try.ntmps31
    go_wp2_with (go_at_call 42; refine (equalL_any _ _ l l1 _ (HS.out.keep (bel_alloc (bel_alloc (Below.refl _ _) _) _)) (HS1.out.keep (bel_alloc (bel_alloc (Below.refl _ _) _) _))).mono ?_; rintro e w' ⟨rfl, n, rfl⟩)
    go_ret
    exact ⟨ret_bool HE.out.symm, by first | exact bel_alloc (bel_alloc (Below.refl _ _) _) _ | exact bel_drewN (bel_alloc (bel_alloc (Below.refl _ _) _) _) _⟩
  subst hd
  by_cases hd : op = op1
  rotate_left
  · have HE : Hid (sameBr ⟨mo, ba, l, op, oh, ot, st, fe, fp, fh, ft, lo⟩ ⟨mo, ba, l, op1, oh1, ot1, st1, fe1, fp1, fh1, ft1, lo1⟩ = false) := by show _ = _; simp [sameBr, hd]
    have hq : (op == op1) = false := by simpa using hd
    go_enter Try.func31, Try.ntmps31
    go_wp2_with (go_at_call 42; refine (equalL_any _ _ l l _ (HS.out.keep (bel_alloc (bel_alloc (Below.refl _ _) _) _)) (HS1.out.keep (bel_alloc (bel_alloc (Below.refl _ _) _) _))).mono ?_; rintro e w' ⟨rfl, n, rfl⟩)
    go_ret
    exact ⟨ret_bool HE.out.symm, by first | exact bel_alloc (bel_alloc (Below.refl _ _) _) _ | exact bel_drewN (bel_alloc (bel_alloc (Below.refl _ _) _) _) _⟩
  subst hd
  by_cases hd : oh = oh1
  rotate_left
  · have HE : Hid (sameBr ⟨mo, ba, l, op, oh, ot, st, fe, fp, fh, ft, lo⟩ ⟨mo, ba, l, op, oh1, ot1, st1, fe1, fp1, fh1, ft1, lo1⟩ = false) := by show _ = _; simp [sameBr, hd]
    have hq : (oh == oh1) = false := by simpa using hd
    go_enter Try.func31, Try.ntmps31
    go_wp2_with (go_at_call 42; refine (equalL_any _ _ l l _ (HS.out.keep (bel_alloc (bel_alloc (Below.refl _ _) _) _)) (HS1.out.keep (bel_alloc (bel_alloc (Below.refl _ _) _) _))).mono ?_; rintro e w' ⟨rfl, n, rfl⟩)
    go_ret
    exact ⟨ret_bool HE.out.symm, by first | exact bel_alloc (bel_alloc (Below.refl _ _) _) _ | exact bel_drewN (bel_alloc (bel_alloc (Below.refl _ _) _) _) _⟩
  subst hd
  by_cases hd : ot = ot1
  rotate_left
  · have HE : Hid (sameBr ⟨mo, ba, l, op, oh, ot, st, fe, fp, fh, ft, lo⟩ ⟨mo, ba, l, op, oh, ot1, st1, fe1, fp1, fh1, ft1, lo1⟩ = false) := by show _ = _; simp [sameBr, hd]
    have hq : (ot == ot1) = false := by simpa using hd
    go_enter Try.func31, Try.ntmps31
    go_wp2_with (go_at_call 42; refine (equalL_any _ _ l l _ (HS.out.keep (bel_alloc (bel_alloc (Below.refl _ _) _) _)) (HS1.out.keep (bel_alloc (bel_alloc (Below.refl _ _) _) _))).mono ?_; rintro e w' ⟨rfl, n, rfl⟩)
    go_ret
    exact ⟨ret_bool HE.out.symm, by first | exact bel_alloc (bel_alloc (Below.refl _ _) _) _ | exact bel_drewN (bel_alloc (bel_alloc (Below.refl _ _) _) _) _⟩
  subst hd
  by_cases hd : st = st1
  rotate_left
  · have HE : Hid (sameBr ⟨mo, ba, l, op, oh, ot, st, fe, fp, fh, ft, lo⟩ ⟨mo, ba, l, op, oh, ot, st1, fe1, fp1, fh1, ft1, lo1⟩ = false) := by show _ = _; simp [sameBr, hd]
    have hq : (st == st1) = false := by simpa using hd
    go_enter Try.func31, Try.ntmps31
    go_wp2_with (go_at_call 42; refine (equalL_any _ _ l l _ (HS.out.keep (bel_alloc (bel_alloc (Below.refl _ _) _) _)) (HS1.out.keep (bel_alloc (bel_alloc (Below.refl _ _) _) _))).mono ?_; rintro e w' ⟨rfl, n, rfl⟩)
    go_ret
    exact ⟨ret_bool HE.out.symm, by first | exact bel_alloc (bel_alloc (Below.refl _ _) _) _ | exact bel_drewN (bel_alloc (bel_alloc (Below.refl _ _) _) _) _⟩
  subst hd
  by_cases hd : fe = fe1
  rotate_left
  · have HE : Hid (sameBr ⟨mo, ba, l, op, oh, ot, st, fe, fp, fh, ft, lo⟩ ⟨mo, ba, l, op, oh, ot, st, fe1, fp1, fh1, ft1, lo1⟩ = false) := by show _ = _; simp [sameBr, hd]
    have hq : (fe == fe1) = false := by simpa using hd
    go_enter Try.func31, Try.ntmps31
    go_wp2_with (go_at_call 42; refine (equalL_any _ _ l l _ (HS.out.keep (bel_alloc (bel_alloc (Below.refl _ _) _) _)) (HS1.out.keep (bel_alloc (bel_alloc (Below.refl _ _) _) _))).mono ?_; rintro e w' ⟨rfl, n, rfl⟩)
    go_ret
    exact ⟨ret_bool HE.out.symm, by first | exact bel_alloc (bel_alloc (Below.refl _ _) _) _ | exact bel_drewN (bel_alloc (bel_alloc (Below.refl _ _) _) _) _⟩
  subst hd
  by_cases hd : fp = fp1
  rotate_left
  · have HE : Hid (sameBr ⟨mo, ba, l, op, oh, ot, st, fe, fp, fh, ft, lo⟩ ⟨mo, ba, l, op, oh, ot, st, fe, fp1, fh1, ft1, lo1⟩ = false) := by show _ = _; simp [sameBr, hd]
    have hq : (fp == fp1) = false := by simpa using hd
    go_enter Try.func31, Try.ntmps31
    go_wp2_with (go_at_call 42; refine (equalL_any _ _ l l _ (HS.out.keep (bel_alloc (bel_alloc (Below.refl _ _) _) _)) (HS1.out.keep (bel_alloc (bel_alloc (Below.refl _ _) _) _))).mono ?_; rintro e w' ⟨rfl, n, rfl⟩)
    go_ret
    exact ⟨ret_bool HE.out.symm, by first | exact bel_alloc (bel_alloc (Below.refl _ _) _) _ | exact bel_drewN (bel_alloc (bel_alloc (Below.refl _ _) _) _) _⟩
  subst hd
  by_cases hd : fh = fh1
  rotate_left
  · have HE : Hid (sameBr ⟨mo, ba, l, op, oh, ot, st, fe, fp, fh, ft, lo⟩ ⟨mo, ba, l, op, oh, ot, st, fe, fp, fh1, ft1, lo1⟩ = false) := by show _ = _; simp [sameBr, hd]
    have hq : (fh == fh1) = false := by simpa using hd
    go_enter Try.func31, Try.ntmps31
    go_wp2_with (go_at_call 42; refine (equalL_any _ _ l l _ (HS.out.keep (bel_alloc (bel_alloc (Below.refl _ _) _) _)) (HS1.out.keep (bel_alloc (bel_alloc (Below.refl _ _) _) _))).mono ?_; rintro e w' ⟨rfl, n, rfl⟩)
    go_ret
    exact ⟨ret_bool HE.out.symm, by first | exact bel_alloc (bel_alloc (Below.refl _ _) _) _ | exact bel_drewN (bel_alloc (bel_alloc (Below.refl _ _) _) _) _⟩
  subst hd
  by_cases hd : ft = ft1
  rotate_left
  · have HE : Hid (sameBr ⟨mo, ba, l, op, oh, ot, st, fe, fp, fh, ft, lo⟩ ⟨mo, ba, l, op, oh, ot, st, fe, fp, fh, ft1, lo1⟩ = false) := by show _ = _; simp [sameBr, hd]
    have hq : (ft == ft1) = false := by simpa using hd
    go_enter Try.func31, Try.ntmps31
    go_wp2_with (go_at_call 42; refine (equalL_any _ _ l l _ (HS.out.keep (bel_alloc (bel_alloc (Below.refl _ _) _) _)) (HS1.out.keep (bel_alloc (bel_alloc (Below.refl _ _) _) _))).mono ?_; rintro e w' ⟨rfl, n, rfl⟩)
    go_ret
    exact ⟨ret_bool HE.out.symm, by first | exact bel_alloc (bel_alloc (Below.refl _ _) _) _ | exact bel_drewN (bel_alloc (bel_alloc (Below.refl _ _) _) _) _⟩
  subst hd
  by_cases hd : lo = lo1
  rotate_left
  · have HE : Hid (sameBr ⟨mo, ba, l, op, oh, ot, st, fe, fp, fh, ft, lo⟩ ⟨mo, ba, l, op, oh, ot, st, fe, fp, fh, ft, lo1⟩ = false) := by show _ = _; simp [sameBr, hd]
    have hq : (lo == lo1) = false := by simpa using hd
    go_enter Try.func31, Try.ntmps31
    go_wp2_with (go_at_call 42; refine (equalL_any _ _ l l _ (HS.out.keep (bel_alloc (bel_alloc (Below.refl _ _) _) _)) (HS1.out.keep (bel_alloc (bel_alloc (Below.refl _ _) _) _))).mono ?_; rintro e w' ⟨rfl, n, rfl⟩)
    go_ret
    exact ⟨ret_bool HE.out.symm, by first | exact bel_alloc (bel_alloc (Below.refl _ _) _) _ | exact bel_drewN (bel_alloc (bel_alloc (Below.refl _ _) _) _) _⟩
  subst hd
  have HE : Hid (sameBr ⟨mo, ba, l, op, oh, ot, st, fe, fp, fh, ft, lo⟩ ⟨mo, ba, l, op, oh, ot, st, fe, fp, fh, ft, lo⟩ = true) := sameBr_self _
  go_enter Try.func31, Try.ntmps31
  go_wp2_with (go_at_call 42; refine (equalL_any _ _ l l _ (HS.out.keep (bel_alloc (bel_alloc (Below.refl _ _) _) _)) (HS1.out.keep (bel_alloc (bel_alloc (Below.refl _ _) _) _))).mono ?_; rintro e w' ⟨rfl, n, rfl⟩)
  go_ret
  exact ⟨ret_bool HE.out.symm, by first | exact bel_alloc (bel_alloc (Below.refl _ _) _) _ | exact bel_drewN (bel_alloc (bel_alloc (Below.refl _ _) _) _) _⟩
end Go.Proofs.Ytefcdcneenjbgab
/-
  A burst, as data alone: what is touched, and that nothing else turns (what DmaHeld asks); a burst in its pages (DmaParts).
-/
namespace Go.Proofs.Ytefcdcneenjbgab
open Go.RowKit

/-- Memory behind the first touches of a list, the words of Data written. -/
def rep (zs ds : List Int) (T : List Tc) : Nat → List Int
  | 0 => zs
  | j + 1 => if (tth T j).2.2.2.1 = true then (rep zs ds T j).set (tth T j).2.2.1.toNat (nth ds j) else rep zs ds T j
theorem tth_left {T : List Tc} {t : Tc} {j : Nat} (h : j < T.length) : tth (T ++ [t]) j = tth T j := by simp [tth, List.getElem?_append_left h]
theorem tth_last (T : List Tc) (t : Tc) : tth (T ++ [t]) T.length = t := by simp [tth]
theorem rep_snoc {zs ds : List Int} {T : List Tc} {t : Tc} : ∀ j, j ≤ T.length → rep zs ds (T ++ [t]) j = rep zs ds T j
  | 0, _ => rfl
  | j + 1, h => by rw [rep, rep, tth_left (by omega), rep_snoc j (by omega)]
theorem rep_last (zs ds : List Int) (T : List Tc) (t : Tc) : rep zs ds (T ++ [t]) (T.length + 1) = if t.2.2.2.1 = true then (rep zs ds T T.length).set t.2.2.1.toNat (nth ds T.length) else rep zs ds T T.length := by
  simp only [rep, tth_last, rep_snoc T.length (Nat.le_refl _)]
theorem rep_len (zs ds : List Int) (T : List Tc) : ∀ j, (rep zs ds T j).length = zs.length
  | 0 => rfl
  | j + 1 => by rw [rep]; split <;> simp [rep_len zs ds T j]

/-- What is touched so far, and memory by it. -/
structure HeldI (d : Int) (wr : Bool) (ds : List Int) (o : Nat) (zs : List Int) (s : St) : Prop where
  mem : s.zs = rep zs ds s.tch s.tch.length
  each : ∀ j, j < s.tch.length → ∃ p : Int, (0 ≤ p ∧ p < 512) ∧ tth s.tch j = (d, ((o + j : Nat) : Int), p, wr, nth (rep zs ds s.tch (j + 1)) p.toNat)
  read : wr = false → s.dat.length = s.tch.length ∧ ∀ j, j < s.tch.length → nth s.dat j = (tth s.tch j).2.2.2.2
  writ : wr = true → s.dat = []

theorem HeldI.start (d : Int) (wr : Bool) (ds : List Int) (o : Nat) (zs : List Int) (b : Br) : HeldI d wr ds o zs ⟨zs, b, [], []⟩ :=
  ⟨rfl, fun _ hj => absurd hj (Nat.not_lt_zero _), fun _ => ⟨rfl, fun _ hj => absurd hj (Nat.not_lt_zero _)⟩, fun _ => rfl⟩
theorem HeldI.bridge {d : Int} {wr : Bool} {ds : List Int} {o : Nat} {zs : List Int} {s : St} (h : HeldI d wr ds o zs s) (c : Br) : HeldI d wr ds o zs ⟨s.zs, c, s.dat, s.tch⟩ := ⟨h.mem, h.each, h.read, h.writ⟩
theorem HeldI.word {d : Int} {wr : Bool} {ds : List Int} {o : Nat} {zs : List Int} {s : St} (h : HeldI d wr ds o zs s) {k : Int} (hk : 0 ≤ k ∧ k ≤ 63) {x : Nat} (hx : x = o + s.tch.length) : HeldI d wr ds o zs (wd d wr ds o k x s) := by
  subst hx
  obtain ⟨h1, h2, h3, h4⟩ := h
  have hlen : (wd d wr ds o k (o + s.tch.length) s).tch.length = s.tch.length + 1 := by simp [wd]
  have hz : (wd d wr ds o k (o + s.tch.length) s).zs = rep zs ds (wd d wr ds o k (o + s.tch.length) s).tch (s.tch.length + 1) := by
    show wdM wr ds o k (o + s.tch.length) s.zs = _
    simp only [wd]
    rw [rep_last, ← h1, wdM, show o + s.tch.length - o = s.tch.length by omega]
  refine ⟨by rw [hlen]; exact hz, fun j hj => ?_, fun e => ?_, fun e => ?_⟩
  · rw [hlen] at hj
    by_cases hjj : j < s.tch.length
    · obtain ⟨p, hp, e⟩ := h2 j hjj
      refine ⟨p, hp, ?_⟩
      simp only [wd]
      rw [tth_left hjj, rep_snoc _ (by omega), e]
    · obtain rfl : j = s.tch.length := by omega
      refine ⟨plc k (o + s.tch.length), plc_in _ hk, ?_⟩
      rw [← hz]
      simp only [wd]
      rw [tth_last]
  · subst e
    obtain ⟨g1, g2⟩ := h3 rfl
    refine ⟨by rw [hlen]; simp [wd, g1], fun j hj => ?_⟩
    rw [hlen] at hj
    simp only [wd, Bool.false_eq_true, if_false]
    by_cases hjj : j < s.tch.length
    · rw [tth_left hjj, ← g2 j hjj]
      simp [nth, List.getElem?_append_left (show j < s.dat.length by omega)]
    · obtain rfl : j = s.tch.length := by omega
      rw [tth_last]
      simp [nth, ← g1, wdM]
  · subst e
    simp only [wd, if_true]
    exact h4 rfl

theorem page_in {x : Nat} (h : x < 512) : 0 ≤ ((x / 8 : Nat) : Int) ∧ ((x / 8 : Nat) : Int) ≤ 63 := by omega
/-- A burst: it goes through whole; or it ends at a page that is not let through, which is told. -/
theorem runW_held {d : Int} {wr : Bool} {ds : List Int} {o : Nat} {zs : List Int} {b0 : Br} (hd : 0 ≤ d ∧ d ≤ 7) : ∀ (m x : Nat) (k : Int) (s s' : St) (f : Int),
    HeldI d wr ds o zs s → GoodS s → x = o + s.tch.length → (0 ≤ k ∧ k ≤ 63) → x + m ≤ 512 → (wr = true → ∀ i, i < s.tch.length + m → wordB (nth ds i) = true) → (∃ l, s.b = b0.with l) → runW d wr ds o m x k s = (s', f) →
    (f = 0 ∧ HeldI d wr ds o zs s' ∧ GoodS s' ∧ s'.tch.length = s.tch.length + m ∧ ∃ l, s'.b = b0.with l) ∨
    (∃ s1 p, (1 ≤ f ∧ f ≤ 5) ∧ (0 ≤ p ∧ p ≤ 63) ∧ HeldI d wr ds o zs s1 ∧ GoodS s1 ∧ s1.tch.length < s.tch.length + m ∧ (∃ l, s1.b = b0.with l) ∧ tlE s1.zs s1.b f d p = 0 ∧ s' = ⟨tlM s1.zs s1.b f d p wr, tlB s1.zs s1.b f d p, s1.dat, s1.tch⟩)
  | 0, x, k, s, s', f, hH, hG, hx, hk, hm, hw, hl, e => by
    rw [runW_zero, Prod.mk.injEq] at e
    obtain ⟨rfl, rfl⟩ := e
    exact .inl ⟨rfl, hH, hG, rfl, hl⟩
  | m + 1, x, k, s, s', f, hH, hG, hx, hk, hm, hw, hl, e => by
    have hwx : wr = true → wordB (nth ds (x - o)) = true := fun h => hw h (x - o) (by omega)
    have hlen : ∀ k c, (wd d wr ds o k x ⟨s.zs, c, s.dat, s.tch⟩).tch.length = s.tch.length + 1 := fun k c => by simp [wd]
    by_cases hp : x = o ∨ x % 8 = 0
    · obtain ⟨⟨c, k', f'⟩, hg⟩ : ∃ R, goT s.zs s.b d ((x / 8 : Nat) : Int) wr = R := ⟨_, rfl⟩
      have hth : thE s.zs s.b d ((x / 8 : Nat) : Int) = 0 := thE_mk hG.1 hG.2 hd (page_in (by omega))
      obtain ⟨g1, g2, g3, g4, l', g5⟩ := goT_good hth hg
      by_cases hf : f' = 0
      · subst hf
        rw [runW_page hp hg] at e
        have hl2 : ∃ l, c = b0.with l := by
          obtain ⟨l, hl⟩ := hl
          exact ⟨l', by rw [g5, hl]; rfl⟩
        have := runW_held (b0 := b0) hd m (x + 1) k' _ s' f ((hH.bridge c).word g3 hx) (wd_good ⟨hG.1, g1⟩ hwx) (by rw [hlen]; omega) g3 (by omega) (fun h i hi => hw h i (by rw [hlen] at hi; omega)) hl2 e
        rw [hlen, show s.tch.length + 1 + m = s.tch.length + (m + 1) by omega] at this
        exact this
      · have hc : c = s.b := g2 hf
        subst hc
        rw [runW_fault hp hg hf, Prod.mk.injEq] at e
        obtain ⟨rfl, rfl⟩ := e
        refine .inr ⟨s, _, by omega, page_in (x := x) (by omega), hH, hG, by omega, hl, ?_, rfl⟩
        rw [tlE, if_pos (bothB_mk hG.1 hG.2), fE, if_pos ⟨by omega, hd, page_in (by omega)⟩]
    · rw [runW_word hp] at e
      have := runW_held (b0 := b0) hd m (x + 1) k _ s' f (hH.word hk hx) (wd_good hG hwx) (by rw [show (wd d wr ds o k x s) = wd d wr ds o k x ⟨s.zs, s.b, s.dat, s.tch⟩ from rfl, hlen]; omega) hk (by omega) (fun h i hi => hw h i (by rw [show (wd d wr ds o k x s) = wd d wr ds o k x ⟨s.zs, s.b, s.dat, s.tch⟩ from rfl, hlen] at hi; omega)) hl e
      rw [show (wd d wr ds o k x s) = wd d wr ds o k x ⟨s.zs, s.b, s.dat, s.tch⟩ from rfl, hlen, show s.tch.length + 1 + m = s.tch.length + (m + 1) by omega] at this
      exact this

/-- Words are touched alike whatever was told ahead, and however Data is counted. -/
theorem wds_part {d : Int} {wr : Bool} {ds es : List Int} {o o' : Nat} {k : Int} {c : Br} (dat : List Int) (tch : List Tc) : ∀ (j x : Nat) (zs : List Int) (dat0 : List Int) (tch0 : List Tc), (wr = true → ∀ i, i < j → nth ds (x + i - o) = nth es (x + i - o')) →
    ∃ zs' dat' tch', wds d wr es o' k j x ⟨zs, c, dat0, tch0⟩ = ⟨zs', c, dat', tch'⟩ ∧ wds d wr ds o k j x ⟨zs, c, dat ++ dat0, tch ++ tch0⟩ = ⟨zs', c, dat ++ dat', tch ++ tch'⟩
  | 0, x, zs, dat0, tch0, _ => ⟨zs, dat0, tch0, rfl, rfl⟩
  | j + 1, x, zs, dat0, tch0, h => by
    have hM : wdM wr ds o k x zs = wdM wr es o' k x zs := by
      unfold wdM
      cases wr
      · rfl
      · rw [if_pos rfl, if_pos rfl]
        have := h rfl 0 (by omega)
        rw [Nat.add_zero] at this
        rw [this]
    have h1 : wd d wr es o' k x ⟨zs, c, dat0, tch0⟩ = ⟨wdM wr es o' k x zs, c, if wr = true then dat0 else dat0 ++ [nth zs (plc k x).toNat], tch0 ++ [(d, (x : Int), plc k x, wr, nth (wdM wr es o' k x zs) (plc k x).toNat)]⟩ := rfl
    have h2 : wd d wr ds o k x ⟨zs, c, dat ++ dat0, tch ++ tch0⟩ = ⟨wdM wr es o' k x zs, c, dat ++ (if wr = true then dat0 else dat0 ++ [nth zs (plc k x).toNat]), tch ++ (tch0 ++ [(d, (x : Int), plc k x, wr, nth (wdM wr es o' k x zs) (plc k x).toNat)])⟩ := by
      unfold wd
      simp only [hM, List.append_assoc]
      cases wr <;> simp
    rw [wds, wds, h1, h2]
    exact wds_part dat tch j (x + 1) _ _ _ (fun e i hi => by have := h e (i + 1) (by omega); rw [show x + 1 + i = x + (i + 1) by omega]; exact this)
end Go.Proofs.Ytefcdcneenjbgab
/-
  A burst in its pages, as data alone (what DmaParts asks).
-/
namespace Go.Proofs.Ytefcdcneenjbgab
open Go.RowKit

/-- Data of a part. -/
def prt (wr : Bool) (ds : List Int) (i k : Nat) : List Int := if wr = true then (ds.drop i).take k else []
theorem prt_len {wr : Bool} {ds : List Int} {i k : Nat} (h : wr = true → i + k ≤ ds.length) : ((prt wr ds i k).length : Int) = needA wr k := by
  cases wr
  · simp [prt, needA]
  · have := h rfl
    simp [prt, needA]; omega
theorem prt_all {wr : Bool} {ds : List Int} {i k : Nat} (h : ds.all wordB = true) : (prt wr ds i k).all wordB = true := by
  cases wr
  · simp [prt]
  · rw [List.all_eq_true] at h ⊢
    intro x hx
    simp only [prt, if_true] at hx
    exact h x (List.mem_of_mem_drop (List.mem_of_mem_take hx))
theorem prt_nth {ds : List Int} {i k j : Nat} (hj : j < k) : nth (prt true ds i k) j = nth ds (i + j) := by
  simp [prt, nth, hj]

/-- One part of a burst. -/
theorem part_step {d : Int} {wr : Bool} {ds : List Int} {o cnt i k : Nat} {zs : List Int} {b : Br} (dat : List Int) (tch : List Tc) (hd : 0 ≤ d ∧ d ≤ 7) (ho : o + cnt ≤ 512) (hc : cnt ≤ 20) (hl : (ds.length : Int) = needA wr cnt) (ha : ds.all wordB = true) (hz : chk zs = 0) (hb : chkB b = 0) (hi : i < cnt) (hx : i = 0 ∨ (o + i) % 8 = 0) (hk : k = min (cnt - i) (8 - (o + i) % 8)) :
    doE zs b d ((o + i : Nat) : Int) (k : Int) wr (prt wr ds i k) = 0 ∧
    ∃ zs' b' dat' tch' f, doR zs b d ((o + i : Nat) : Int) (k : Int) wr (prt wr ds i k) = (⟨zs', b', dat', tch'⟩, f) ∧
      (dat'.length ≤ k ∧ tch'.length ≤ k) ∧
      (f = 0 → chk zs' = 0 ∧ chkB b' = 0 ∧ (cnt - (i + k) = 0 ∨ (o + (i + k)) % 8 = 0)) ∧
      (f = 0 → runW d wr ds o (cnt - i) (o + i) 0 ⟨zs, b, dat, tch⟩ = runW d wr ds o (cnt - (i + k)) (o + (i + k)) 0 ⟨zs', b', dat ++ dat', tch ++ tch'⟩) ∧
      (¬ f = 0 → runW d wr ds o (cnt - i) (o + i) 0 ⟨zs, b, dat, tch⟩ = (⟨zs', b', dat ++ dat', tch ++ tch'⟩, f)) := by
  have hk0 : 0 < k := by omega
  have hlw : wr = true → i + k ≤ ds.length := fun e => by
    subst e
    simp only [needA, if_true] at hl
    omega
  have hE : doE zs b d ((o + i : Nat) : Int) (k : Int) wr (prt wr ds i k) = 0 := doE_mk hz hb (ckA_mk (by omega) hd (by omega) (prt_len hlw) (prt_all ha))
  refine ⟨hE, ?_⟩
  rw [doR, if_pos hE, Int.toNat_natCast, Int.toNat_natCast]
  obtain ⟨⟨c, k', f⟩, hg⟩ : ∃ R, goT zs b d (((o + i) / 8 : Nat) : Int) wr = R := ⟨_, rfl⟩
  obtain ⟨g1, g2, g3, g4, l', g5⟩ := goT_good (thE_mk hz hb hd (page_in (x := o + i) (by omega))) hg
  by_cases hf : f = 0
  · subst hf
    have hw : wr = true → ∀ j, j < k → nth ds (o + i + j - o) = nth (prt wr ds i k) (o + i + j - (o + i)) := fun e j hj => by
      subst e
      rw [show o + i + j - (o + i) = j by omega, show o + i + j - o = i + j by omega, prt_nth hj]
    obtain ⟨zs', dat', tch', e1, e2⟩ := wds_part (d := d) (k := k') (c := c) dat tch k (o + i) zs [] [] hw
    rw [List.append_nil, List.append_nil] at e2
    have hgd : GoodS (wds d wr (prt wr ds i k) (o + i) k' k (o + i) ⟨zs, c, [], []⟩) := wds_good k (o + i) _ ⟨hz, g1⟩ (fun j hj e => by
      rw [← hw e j hj]
      exact all_nth ha (by have := hlw e; omega))
    rw [e1] at hgd
    have r1 : runW d wr (prt wr ds i k) (o + i) k (o + i) 0 ⟨zs, b, [], []⟩ = (⟨zs', c, dat', tch'⟩, 0) := by
      rw [page_run hk0 (Nat.le_refl _) (.inl rfl) hg, show min k (8 - (o + i) % 8) = k by omega, e1, Nat.sub_self, runW_zero]
    have r2 : runW d wr ds o (cnt - i) (o + i) 0 ⟨zs, b, dat, tch⟩ = runW d wr ds o (cnt - (i + k)) (o + (i + k)) 0 ⟨zs', c, dat ++ dat', tch ++ tch'⟩ := by
      rw [page_run (by omega) (by omega) (by omega) hg, ← hk, e2, show cnt - i - k = cnt - (i + k) by omega, show o + i + k = o + (i + k) by omega]
      exact runW_at (by omega) _ _
    have hl1 := wds_len (d := d) (wr := wr) (ds := prt wr ds i k) (o := o + i) (k := k') k (o + i) ⟨zs, c, [], []⟩
    have hl2 := wds_dlen (d := d) (wr := wr) (ds := prt wr ds i k) (o := o + i) (k := k') k (o + i) ⟨zs, c, [], []⟩
    rw [e1] at hl1 hl2
    simp only [List.length_nil] at hl1 hl2
    exact ⟨zs', c, dat', tch', 0, r1, ⟨by split at hl2 <;> omega, by omega⟩, fun _ => ⟨hgd.1, hgd.2, by omega⟩, fun _ => r2, fun h => absurd rfl h⟩
  · have hcb : c = b := g2 hf
    subst hcb
    obtain ⟨k1, hk1⟩ : ∃ k1, k = k1 + 1 := ⟨k - 1, by omega⟩
    obtain ⟨m1, hm1⟩ : ∃ m1, cnt - i = m1 + 1 := ⟨cnt - i - 1, by omega⟩
    have r1 : runW d wr (prt wr ds i k) (o + i) k (o + i) 0 ⟨zs, c, [], []⟩ = (⟨tlM zs c f d (((o + i) / 8 : Nat) : Int) wr, tlB zs c f d (((o + i) / 8 : Nat) : Int), [], []⟩, f) := by
      conv => lhs; arg 5; rw [hk1]
      exact runW_fault (.inl rfl) hg hf
    have r2 : runW d wr ds o (cnt - i) (o + i) 0 ⟨zs, c, dat, tch⟩ = (⟨tlM zs c f d (((o + i) / 8 : Nat) : Int) wr, tlB zs c f d (((o + i) / 8 : Nat) : Int), dat, tch⟩, f) := by
      rw [hm1]
      exact runW_fault (s := ⟨zs, c, dat, tch⟩) (by omega) hg hf
    exact ⟨_, _, [], [], f, r1, ⟨Nat.zero_le _, Nat.zero_le _⟩, fun h => absurd h hf, fun h => absurd h hf, fun _ => by rw [r2, List.append_nil, List.append_nil]⟩

/-- A part of a slice. -/
theorem Sl.part {w : World} {b o : Nat} {c c2 : Nat} {ds : List Int} (h : Sl w (.slice (some ⟨b, o, none⟩) ds.length c) ds) {i k : Nat} (hi : i + k ≤ ds.length) (hl : k ≤ maxLen) : Sl w (.slice (some ⟨b, o + i, none⟩) k c2) (prt true ds i k) := by
  have hk : (prt true ds i k).length = k := by simp [prt]; omega
  obtain ⟨a, cap, e, hm, h⟩ := h
  simp only [Value.slice.injEq] at e
  obtain ⟨rfl, -, rfl⟩ := e
  refine ⟨_, c2, by rw [hk], by rw [hk]; exact hl, ?_⟩
  rcases h with rfl | ⟨b2, o2, e2, hb, hc⟩
  · exact .inl (by simp [prt])
  · simp only [Option.some.injEq, Addr.mk.injEq, and_true] at e2
    obtain ⟨rfl, rfl⟩ := e2
    refine .inr ⟨b, o + i, rfl, hb, fun j hj => ?_⟩
    rw [hk] at hj
    rw [prt_nth hj, Nat.add_assoc]
    exact hc (i + j) (by omega)
end Go.Proofs.Ytefcdcneenjbgab
/-
  append of a row that may be empty, to a row of its own that may be nil: numbers (I), touches (T).
-/
namespace Go.Proofs.Ytefcdcneenjbgab
open Go.RowKit

theorem run_append_none (w : World) (t ty e : TypeId) (i : TypeInfo) (ht : Try.prog.underlying t = some (.slice e)) (hi : Try.prog.info? e = some i) (b a : Option Addr) (n c c2 : Nat) (hle : n ≤ c) :
    (Builtin.append_ #[t, t] ty #[.slice b n c, .slice a 0 c2]).run Try.prog w = .ok (.slice b n c) w := by
  cases a <;> cases b <;> simp [Builtin.append_, Builtin.lenOf, Builtin.firstCells, run_underlying ht, sizeOf, typeInfo, hi, hle, loadCells, loadCellsFrom, storeCells]

theorem run_append_Ie (w : World) (ty : TypeId) (base : Nat) (v x : Value) (l1 l2 : List Int) (hown : OwnI w base v l1) (hx : Sl w x l2) (hn : l1.length + l2.length ≤ 1000) (hbase : base ≤ w.heap.size) :
    ∃ b cap w', (Builtin.append_ #[37, 37] ty #[v, x]).run Try.prog w = .ok (.slice b (l1 ++ l2).length cap) w' ∧ OwnI w' base (.slice b (l1 ++ l2).length cap) (l1 ++ l2) ∧ w.grownBy w' v.ownBlock ∧ (∀ g, (Value.slice b (l1 ++ l2).length cap).ownBlock = some g → v.ownBlock = some g ∨ g = w.heap.size) := by
  by_cases hne : l2 = []
  · subst hne
    obtain ⟨i, hi, -, -, -⟩ := infoInt
    obtain ⟨a, c2, rfl⟩ := hx.shape
    have h' := hown
    rcases hown.2 with ⟨rfl, h0⟩ | ⟨g, cap, cur, rfl, hb, hg, hnc, hcm, hcs, htake⟩
    · obtain rfl : l1 = [] := List.eq_nil_of_length_eq_zero h0
      exact ⟨none, 0, w, run_append_none w _ ty _ i Try.underlying37 hi _ _ _ _ _ (Nat.zero_le _), h', World.grownBy.refl _ _, fun g hg => by simp [Value.ownBlock] at hg⟩
    · rw [List.append_nil]
      exact ⟨some ⟨g, 0, none⟩, cap, w, run_append_none w _ ty _ i Try.underlying37 hi _ _ _ _ _ hnc, h', World.grownBy.refl _ _, fun k hk => .inl (by simpa [Value.ownBlock] using hk)⟩
  · obtain ⟨g, cap, w', h1, h2, h3, h4⟩ := run_append_I w ty base v x l1 l2 hown hx hn hbase hne
    exact ⟨some ⟨g, 0, none⟩, cap, w', h1, h2, h3, fun k hk => by
      simp only [Value.ownBlock, Option.some.injEq] at hk
      subst hk
      exact h4⟩
theorem step_append_Ie {w : World} {ops : Array Oper} {o : Oper} {a : Act} {K : Act → World → Prop} {Q : Exit → Act → World → Prop} {E : Prop} (hgd : o.guard = none) (s x : Operand)
    (ho : o.op = .call { callee := .builtin .append, args := #[s, x], argTypes := #[37, 37] })
    (base : Nat) (v u : Value) (l1 l2 : List Int) (hs : a.eval s = v) (hu : a.eval x = u) (hown : OwnI w base v l1) (hx : Sl w u l2) (hn : l1.length + l2.length ≤ 1000) (hbase : base ≤ w.heap.size)
    (h : ∀ b cap w', OwnI w' base (.slice b (l1 ++ l2).length cap) (l1 ++ l2) → w.grownBy w' v.ownBlock → Below base w w' → (∀ g, (Value.slice b (l1 ++ l2).length cap).ownBlock = some g → v.ownBlock = some g ∨ g = w.heap.size) → K (a.put o.dst (.slice b (l1 ++ l2).length cap)) w') :
    if Region.wanted o (yielded ops a.tmps) = true then Oper.wp Try.prog o a w K Q else E := by
  have hw : Region.wanted o (yielded ops a.tmps) = true := by simp [Region.wanted, hgd]
  rw [if_pos hw]
  obtain ⟨g, cap, w', hr, h2, h3, h4⟩ := run_append_Ie w o.type base v u l1 l2 hown hx hn hbase
  unfold Oper.wp execOp
  simp only [ho, resolve, invoke, builtin, Sem.run_bind, Sem.run_pure, Result.andThen_ok, List.map_toArray, List.map_cons, List.map_nil, hs, hu, hr]
  exact h g cap w' h2 h3 ((Below.refl base w).grown h3 hbase hown.base) h4

theorem run_append_Te (w : World) (ty : TypeId) (base : Nat) (v x : Value) (l1 l2 : List Tc) (hown : OwnT w base v l1) (hx : Ts w x l2) (hn : l1.length + l2.length ≤ 1000) (hbase : base ≤ w.heap.size) :
    ∃ b cap w', (Builtin.append_ #[80, 80] ty #[v, x]).run Try.prog w = .ok (.slice b (l1 ++ l2).length cap) w' ∧ OwnT w' base (.slice b (l1 ++ l2).length cap) (l1 ++ l2) ∧ w.grownBy w' v.ownBlock ∧ (∀ g, (Value.slice b (l1 ++ l2).length cap).ownBlock = some g → v.ownBlock = some g ∨ g = w.heap.size) := by
  by_cases hne : l2 = []
  · subst hne
    obtain ⟨i, hi, -, -, -⟩ := infoTouch
    obtain ⟨a, c2, rfl, -⟩ := hx
    have h' := hown
    rcases hown.2 with ⟨rfl, h0⟩ | ⟨g, cap, cur, rfl, hb, hg, hnc, hcm, hcs, htake⟩
    · obtain rfl : l1 = [] := List.eq_nil_of_length_eq_zero h0
      exact ⟨none, 0, w, run_append_none w _ ty _ i Try.underlying80 hi _ _ _ _ _ (Nat.zero_le _), h', World.grownBy.refl _ _, fun g hg => by simp [Value.ownBlock] at hg⟩
    · rw [List.append_nil]
      exact ⟨some ⟨g, 0, none⟩, cap, w, run_append_none w _ ty _ i Try.underlying80 hi _ _ _ _ _ hnc, h', World.grownBy.refl _ _, fun k hk => .inl (by simpa [Value.ownBlock] using hk)⟩
  · obtain ⟨g, cap, w', h1, h2, h3, h4⟩ := run_append_T w ty base v x l1 l2 hown hx hn hbase (.inr hne)
    exact ⟨some ⟨g, 0, none⟩, cap, w', h1, h2, h3, fun k hk => by
      simp only [Value.ownBlock, Option.some.injEq] at hk
      subst hk
      exact h4⟩
theorem step_append_Te {w : World} {ops : Array Oper} {o : Oper} {a : Act} {K : Act → World → Prop} {Q : Exit → Act → World → Prop} {E : Prop} (hgd : o.guard = none) (s x : Operand)
    (ho : o.op = .call { callee := .builtin .append, args := #[s, x], argTypes := #[80, 80] })
    (base : Nat) (v u : Value) (l1 l2 : List Tc) (hs : a.eval s = v) (hu : a.eval x = u) (hown : OwnT w base v l1) (hx : Ts w u l2) (hn : l1.length + l2.length ≤ 1000) (hbase : base ≤ w.heap.size)
    (h : ∀ b cap w', OwnT w' base (.slice b (l1 ++ l2).length cap) (l1 ++ l2) → w.grownBy w' v.ownBlock → Below base w w' → (∀ g, (Value.slice b (l1 ++ l2).length cap).ownBlock = some g → v.ownBlock = some g ∨ g = w.heap.size) → K (a.put o.dst (.slice b (l1 ++ l2).length cap)) w') :
    if Region.wanted o (yielded ops a.tmps) = true then Oper.wp Try.prog o a w K Q else E := by
  have hw : Region.wanted o (yielded ops a.tmps) = true := by simp [Region.wanted, hgd]
  rw [if_pos hw]
  obtain ⟨g, cap, w', hr, h2, h3, h4⟩ := run_append_Te w o.type base v u l1 l2 hown hx hn hbase
  unfold Oper.wp execOp
  simp only [ho, resolve, invoke, builtin, Sem.run_bind, Sem.run_pure, Result.andThen_ok, List.map_toArray, List.map_cons, List.map_nil, hs, hu, hr]
  exact h g cap w' h2 h3 ((Below.refl base w).grown h3 hbase hown.base) h4
end Go.Proofs.Ytefcdcneenjbgab
/-
  A drawn region whose last operations (from number z on) turn cells that the region reads: what holds of the world is asked for behind every operation ahead of z; those from z on wait, straight or by others, for all that is taken first.
-/
namespace Go.Proofs.Ytefcdcneenjbgab
open Go Go.RowKit

section
variable {P : Program} {ops : Array Oper} {Q : Exit → Act → World → Prop} {md : Region.Mode} {S : World → Prop} {z : Nat}

/-- Whatever order is picked; S holds behind every operation ahead of number z. -/
def wpLate (P : Program) (md : Region.Mode) (ops : Array Oper) (Q : Exit → Act → World → Prop) (S : World → Prop) (z : Nat) : Nat → Array Bool → Act → World → Prop
  | 0, listed, a, w => Region.ready md ops listed = [] ∧ Q .normal a w
  | n + 1, listed, a, w => (Region.ready md ops listed = [] → Q .normal a w) ∧
      ∀ i ∈ Region.ready md ops listed, wpOp P ops Q i (fun a' w' => (i < z → S w') ∧ wpLate P md ops Q S z n (listed.setIfInBounds i true) a' w') a w

theorem wpAny_of_late : ∀ (n : Nat) (listed : Array Bool) (a : Act) (w : World), wpLate P md ops Q S z n listed a w → wpAny P md ops Q n listed a w
  | 0, _, _, _, h => h
  | n + 1, _, _, _, h => ⟨h.1, fun i hi => wpOp_mono (fun a' w' h' => wpAny_of_late n _ a' w' h'.2) (h.2 i hi)⟩

/-- Operation z waits for operation i, straight or by others. -/
def waitsT (md : Region.Mode) (ops : Array Oper) : Nat → Nat → Nat → Bool
  | 0, _, _ => false
  | n + 1, z, i => match ops[z]? with
    | some o => o.after.any (fun e => Region.binds md e && (e.on == i || waitsT md ops n e.on i))
    | none => false
/-- What is listed has all that it waits for listed. -/
def ShutL (md : Region.Mode) (ops : Array Oper) (listed : Array Bool) : Prop := ∀ (j : Nat) (o : Oper), ops[j]? = some o → listed.getD j false = true → ∀ e ∈ o.after, Region.binds md e = true → listed.getD e.on false = true
def shutB (md : Region.Mode) (ops : Array Oper) (listed : Array Bool) : Bool := (List.range ops.size).all fun j => match ops[j]? with
  | some o => !(listed.getD j false) || o.after.all (fun e => !(Region.binds md e) || listed.getD e.on false)
  | none => true
theorem shutB_spec {listed : Array Bool} (h : shutB md ops listed = true) : ShutL md ops listed := by
  intro j o ho hj e he hb
  unfold shutB at h
  rw [List.all_eq_true] at h
  have hlt : j < ops.size := by
    rcases Nat.lt_or_ge j ops.size with k | k
    · exact k
    · rw [Array.getElem?_eq_none k] at ho; cases ho
  have := h j (List.mem_range.2 hlt)
  rw [ho] at this
  simp only [hj, Bool.not_true, Bool.false_or, Array.all_eq_true] at this
  obtain ⟨k, hk, rfl⟩ := Array.mem_iff_getElem.1 he
  have h2 := this k hk
  rw [hb] at h2
  simpa using h2
theorem getD_both {listed : Array Bool} {i : Nat} (h1 : listed.getD i false = true) (h2 : listed.getD i true = false) : False := by
  rcases Nat.lt_or_ge i listed.size with h' | h'
  · simp [h'] at h1 h2; rw [h1] at h2; cases h2
  · simp [Array.getElem?_eq_none h'] at h1
theorem ShutL.set {listed : Array Bool} (h : ShutL md ops listed) {j : Nat} (hj : j ∈ Region.ready md ops listed) : ShutL md ops (listed.setIfInBounds j true) := by
  obtain ⟨_, oj, hoj, hall⟩ := mem_ready.1 hj
  have mono : ∀ k, listed.getD k false = true → (listed.setIfInBounds j true).getD k false = true := by
    intro k hk
    by_cases e : j = k
    · subst e
      rcases Nat.lt_or_ge j listed.size with h' | h'
      · simp [h']
      · simp [Array.getElem?_eq_none h'] at hk
    · rw [getD_set_ne false e]; exact hk
  intro k o ho hk e he hb
  by_cases hjk : j = k
  · subst hjk
    rw [hoj] at ho
    cases ho
    exact mono _ (hall e he hb)
  · rw [getD_set_ne false hjk] at hk
    exact mono _ (h k o ho hk e he hb)
theorem waitsT_spec {listed : Array Bool} (hc : ShutL md ops listed) {i : Nat} : ∀ (n z : Nat) (o : Oper), ops[z]? = some o → (∀ e ∈ o.after, Region.binds md e = true → listed.getD e.on false = true) → waitsT md ops n z i = true → listed.getD i false = true
  | 0, _, _, _, _, h => by simp [waitsT] at h
  | n + 1, z, o, ho, hall, h => by
    rw [waitsT, ho] at h
    simp only [Array.any_eq_true] at h
    obtain ⟨j, hj, he⟩ := h
    rw [Bool.and_eq_true] at he
    have h1 := hall _ (Array.getElem_mem hj) he.1
    rcases Bool.or_eq_true _ _ ▸ he.2 with h2 | h2
    · rw [beq_iff_eq] at h2
      rw [← h2]; exact h1
    · cases ho2 : ops[o.after[j].on]? with
      | none =>
        cases n with
        | zero => simp [waitsT] at h2
        | succ n => rw [waitsT, ho2] at h2; cases h2
      | some o2 => exact waitsT_spec hc n _ o2 ho2 (hc _ o2 ho2 h1) h2
/-- All from number z on wait for i. -/
def lateB (md : Region.Mode) (ops : Array Oper) (z i : Nat) : Bool := (List.range ops.size).all fun j => decide (j < z) || waitsT md ops 5 j i

theorem wpLate_first {i : Nat} {oi : Oper} {v : Value} (hi : ops[i]? = some oi) (hsel : ∀ (j : Nat) (o : Oper) cs b, ops[j]? = some o → o.op ≠ .select cs b) (hwt : lateB md ops z i = true)
    (hQ : ∀ c a w, Q (.panic c) (a.put oi.dst v) w → Q (.panic c) a w) :
    ∀ (n : Nat) (listed : Array Bool) (a : Act) (w : World), ShutL md ops listed →
      (∀ j oj, ops[j]? = some oj → j ≠ i → listed.getD j true = false → (∀ e ∈ oj.after, Region.binds md e = true → e.on ≠ i) → oi.apart ops oj = true) →
      i ∈ Region.ready md ops listed → YieldsIf P ops S oi v a → S w →
      wpLate P md ops Q S z n (listed.setIfInBounds i true) (a.put oi.dst v) w → wpLate P md ops Q S z (n + 1) listed a w := by
  intro n
  induction n with
  | zero =>
    intro listed a w _ _ hr hy hS H
    refine ⟨fun h => (by rw [h] at hr; cases hr), fun j hj => ?_⟩
    by_cases e : j = i
    · subst e; exact hy.wpOp hi hS ⟨fun _ => hS, H⟩
    · have := ready_mono hj e
      rw [H.1] at this
      cases this
  | succ n ih =>
    intro listed a w hcl hfree hr hy hS H
    refine ⟨fun h => (by rw [h] at hr; cases hr), fun j hj => ?_⟩
    by_cases e : j = i
    · subst e; exact hy.wpOp hi hS ⟨fun _ => hS, H⟩
    · have hun : listed.getD i true = false := (mem_ready.1 hr).1
      obtain ⟨hjun, oj, hoj, hall⟩ := mem_ready.1 hj
      have hjz : j < z := by
        rcases Nat.lt_or_ge j z with k | k
        · exact k
        · exfalso
          have hlt : j < ops.size := by
            rcases Nat.lt_or_ge j ops.size with k | k
            · exact k
            · rw [Array.getElem?_eq_none k] at hoj; cases hoj
          unfold lateB at hwt
          rw [List.all_eq_true] at hwt
          have h1 := hwt j (List.mem_range.2 hlt)
          rw [decide_eq_false (by omega), Bool.false_or] at h1
          exact getD_both (waitsT_spec hcl _ j oj hoj hall h1) hun
      have hnot : ∀ e ∈ oj.after, Region.binds md e = true → e.on ≠ i := fun e he hb heq => by
        have h1 := hall e he hb
        rw [heq] at h1
        exact getD_both h1 hun
      have h2 := wpOp_putIf hoj (hfree j oj hoj e hjun hnot) (fun cs b => hsel i oi cs b hi) (fun cs b => hsel j oj cs b hoj) hQ hy (H.2 j (ready_mono hj e))
      refine wpOp_mono (fun a' w' h3 => ⟨fun _ => h3.2.1 hjz, ih (listed.setIfInBounds j true) a' w' (hcl.set hj) (fun q oq hq hqi hqu hno => ?_) (ready_mono hr (Ne.symm e)) h3.1 (h3.2.1 hjz) ?_⟩) h2
      · refine hfree q oq hq hqi ?_ hno
        by_cases hjq : j = q
        · subst hjq; exact hjun
        · rw [getD_set_ne true hjq] at hqu; exact hqu
      · rw [Array.setIfInBounds_comm _ _ e]
        exact h3.2.2

theorem wpLate_takeL {i : Nat} {oi : Oper} {v : Value} {n : Nat} {listed : Array Bool} {a : Act} {w : World} (hi : opL ops.toList i = some oi)
    (hs : Region.noSelect ops = true) (hf : Region.free md ops listed i = true) (hr : (Region.ready md ops listed).contains i = true) (hwt : lateB md ops z i = true) (hcl : shutB md ops listed = true)
    (hQ : ∀ c a w, Q (.panic c) (a.put oi.dst v) w → Q (.panic c) a w) (hy : YieldsIf P ops S oi v a) (hS : S w)
    (h : wpLate P md ops Q S z n (listed.setIfInBounds i true) (a.put oi.dst v) w) : wpLate P md ops Q S z (n + 1) listed a w :=
  wpLate_first (opL_spec hi) (Region.noSelect_spec hs) hwt hQ n listed a w (shutB_spec hcl) (Region.free_spec (opL_spec hi) hf) (by simpa using hr) hy hS h
theorem wpLate_oneL {i : Nat} {o : Oper} {n : Nat} {listed : Array Bool} {a : Act} {w : World} (hr : Region.ready md ops listed = [i]) (ho : opL ops.toList i = some o)
    (h : ∀ K' : Act → World → Prop, Shut (∀ a w, (i < z → S w) → wpLate P md ops Q S z n (listed.setIfInBounds i true) a w → K' a w) → if Region.wanted o (yielded ops a.tmps) = true then Oper.wp P o a w K' Q else K' (a.put o.dst undef) w) :
    wpLate P md ops Q S z (n + 1) listed a w := by
  refine ⟨fun h0 => absurd (hr ▸ h0) (by simp), fun j hj => ?_⟩
  rw [hr, List.mem_singleton] at hj
  subst hj
  exact wpOp_step (opL_spec ho) (fun K' hK => h K' (fun a w h1 h2 => hK a w ⟨h1, h2⟩))
theorem wpLate_done {listed : Array Bool} {a : Act} {w : World} (hr : Region.ready md ops listed = []) (h : Q .normal a w) : ∀ n, wpLate P md ops Q S z n listed a w
  | 0 => ⟨hr, h⟩
  | _ + 1 => ⟨fun _ => h, fun i hi => by rw [hr] at hi; cases hi⟩
theorem wp_region_late {id : Nat} {a : Act} {w : World} (hm : P.follows .mixedOrders = true) (z : Nat) (S : World → Prop) (hS : S w.drew)
    (h : S w.drew → wpLate P .any ops Q S z ops.size (Array.replicate ops.size false) a w.drew) : (Code.region id ops true).wp P Q a w :=
  wp_region_any hm (wpAny_of_late _ _ _ _ (h hS))
end
end Go.Proofs.Ytefcdcneenjbgab
