/-
  The walk of BridgeShut: while the bridge is off, or bare.
-/
import Derived.Test.YtemnklppplgcoabCrossed
import Derived.Test.YtemnklppplgcoabSameB
import Derived.Test.YtemnklppplgcoabAt
namespace Go.Proofs.Ytemnklppplgcoab
open Go.RowKit

theorem at8_any (k : Int) (w : World) :
    Calls Try.prog 34 #[.int .i64 k, .int .i64 8] w fun e w' => e = .returned (.int .i64 (k % 8)) ∧ w' = w := by
  have b1 : -8 < k.tmod 8 := Int.lt_tmod_of_pos k (by decide)
  have b2 : k.tmod 8 < 8 := Int.tmod_lt_of_pos k (by decide)
  have HM : Hid (k.tmod 8 = k - 8 * k.tdiv 8) := Int.tmod_def k 8
  by_cases h : k.tmod 8 < 0
  · go_enter Try.func34, Try.ntmps34
    go_wp2
    go_ret
    exact ⟨ret_int (by have := HM.out; omega), rfl⟩
  · go_enter Try.func34, Try.ntmps34
    go_wp2
    go_ret
    exact ⟨ret_int (by have := HM.out; omega), rfl⟩

theorem at_of (k n : Int) (w : World) (hn : n = 8 ∨ n = 64) :
    Calls Try.prog 34 #[.int .i64 k, .int .i64 n] w fun e w' => e = .returned (.int .i64 (k % n)) ∧ w' = w := by
  rcases hn with rfl | rfl
  · exact at8_any k w
  · exact at64_any k w

theorem thE_off (zs : List Int) (ba : Int) (l : List Ln) (op oh ot : Int) (st : Bool) (fe fp fh ft : Int) (lo : Bool) (d p : Int) : thE zs ⟨1, ba, l, op, oh, ot, st, fe, fp, fh, ft, lo⟩ d p = thE zs ⟨0, ba, l, op, oh, ot, st, fe, fp, fh, ft, lo⟩ d p := by
  have : chkB ⟨1, ba, l, op, oh, ot, st, fe, fp, fh, ft, lo⟩ = chkB ⟨0, ba, l, op, oh, ot, st, fe, fp, fh, ft, lo⟩ := by simp [chkB, rngBr]
  rw [thE, thE, bothB, bothB, this]

set_option maxHeartbeats 4000000 in
theorem bridgeShut_walk (v : Value) (zs : List Int) (mo ba op oh ot fe fp fh ft : Int) (st lo : Bool) (vc : Value) (l : List Ln) (dv pg : Int) (wt : Bool) (w : World) (hs : Sl w v zs) (h : Ls w vc l) :
    Calls Try.prog 8 #[.agg #[v], .agg #[.int .i64 mo, .int .i64 ba, vc, .int .i64 op, .int .i64 oh, .int .i64 ot, .bool st, .int .i64 fe, .int .i64 fp, .int .i64 fh, .int .i64 ft, .bool lo], .int .i64 dv, .int .i64 pg, .bool wt] w fun e w' => e = .returned (.bool true) ∧ Below w.heap.size w w' := by
  have HS : Hid (Ls w vc l) := h
  obtain ⟨va, vk, rfl, -⟩ := h.shape
  have HM : Hid (Sl w v zs) := hs
  obtain ⟨ma, mc, rfl⟩ := hs.shape
  clear h hs
  obtain ⟨d, hd⟩ : ∃ d, dv % 8 = d := ⟨_, rfl⟩
  obtain ⟨p, hp⟩ : ∃ p, pg % 64 = p := ⟨_, rfl⟩
  have HD : Hid (dv % 8 = d) := hd
  have HP : Hid (pg % 64 = p) := hp
  clear hd hp
  obtain ⟨E, hE⟩ : ∃ E, thE zs ⟨0, ba, l, op, oh, ot, st, fe, fp, fh, ft, lo⟩ d p = E := ⟨_, rfl⟩
  have HE : Hid (_ = _) := hE
  have HE1 : Hid (thE zs ⟨1, ba, l, op, oh, ot, st, fe, fp, fh, ft, lo⟩ d p = E) := (thE_off ..).trans hE
  clear hE
  have BA : Hid (Below w.heap.size w _) := bel_alloc (bel_alloc (Below.refl w.heap.size w) (.cells #[.slice ma zs.length mc] 39)) (.cells #[.int .i64 0, .int .i64 ba, .slice va l.length vk, .int .i64 op, .int .i64 oh, .int .i64 ot, .bool st, .int .i64 fe, .int .i64 fp, .int .i64 fh, .int .i64 ft, .bool lo] 44)
  by_cases h0 : E = 0
  rotate_left
  · have HR0 : Hid (thR zs ⟨0, ba, l, op, oh, ot, st, fe, fp, fh, ft, lo⟩ d p wt = (B0, 0, 0)) := if_neg (by rw [HE.out]; exact h0)
    have HR1 : Hid (thR zs ⟨1, ba, l, op, oh, ot, st, fe, fp, fh, ft, lo⟩ d p wt = (B0, 0, 0)) := if_neg (by rw [HE1.out]; exact h0)
    have hq : (E != 0) = true := by simpa using h0
    go_enter Try.func8, Try.ntmps8
    go_wp2_with (go_at_call 34; refine (at_of _ _ _ (by decide)).mono ?_; rintro e w' ⟨rfl, rfl⟩; first | rw [HD.out] | rw [HP.out])
    refine (through_at (HM.out.keep BA.out) (HS.out.keep BA.out) HE.out HR0.out).mono ?_
    rintro e w1 ⟨va1, vk1, rfl, -, b1⟩
    have X0 := ((Box.newAt (n := w.heap.size) rfl 39 #[.slice ma zs.length mc]).past _).keep b1
    have X1 := (Box.newAt (n := w.heap.size + 1) (by simp) 44 #[.int .i64 0, .int .i64 ba, .slice va l.length vk, .int .i64 op, .int .i64 oh, .int .i64 ot, .bool st, .int .i64 fe, .int .i64 fp, .int .i64 fh, .int .i64 ft, .bool lo]).keep b1
    have B1 : Hid (Below w.heap.size w w1) := bel_trans BA.out b1
    clear b1 BA
    obtain ⟨m0, -, s0⟩ := X0.one
    obtain ⟨⟨q0, q1, q2, q3, q4, q5, q6, q7, q8, q9, q10, q11⟩, s1⟩ := X1.twelve
    obtain ⟨y0, -⟩ := X1.marks
    go_wp2_with fail
    have B2 : Hid (Below w.heap.size w ((w1.setCell ⟨w.heap.size + 1, 0, none⟩ (.int .i64 1)).alloc (.cells #[.int .i64 0, .int .i64 0, .slice va1 0 vk1, .int .i64 0, .int .i64 0, .int .i64 0, .bool false, .int .i64 0, .int .i64 0, .int .i64 0, .int .i64 0, .bool false] 44))) := bel_alloc (bel_set (p := ⟨w.heap.size + 1, 0, none⟩) (by dsimp only; omega) B1.out _) _
    refine (through_at (HM.out.keep B2.out) (HS.out.keep B2.out) HE1.out HR1.out).mono ?_
    rintro e w2 ⟨va2, vk2, rfl, -, b2⟩
    have B3 : Hid (Below w.heap.size w w2) := bel_trans B2.out b2
    clear b2 B1 B2 m0 s0 q0 q1 q2 q3 q4 q5 q6 q7 q8 q9 q10 q11 s1 y0
    go_wp2_with fail
    refine (crossed_true _).mono ?_
    rintro e w3 ⟨rfl, b3⟩
    have B4 : Hid (Below w.heap.size w w3) := bel_trans (bel_alloc B3.out _) b3
    clear b3 B3
    go_wp2_with fail
    refine (crossed_true _).mono ?_
    rintro e w4 ⟨rfl, b4⟩
    have B5 : Hid (Below w.heap.size w w4) := bel_trans B4.out b4
    clear b4 B4
    go_wp2
    go_ret
    exact ⟨rfl, B5.out⟩
  subst h0
  have HR0 : Hid (thR zs ⟨0, ba, l, op, oh, ot, st, fe, fp, fh, ft, lo⟩ d p wt = (⟨0, ba, l, op, oh, ot, st, fe, fp, fh, ft, lo⟩, 0, 1)) := by show _ = _; rw [thR, if_pos HE.out]; rfl
  have HR1 : Hid (thR zs ⟨1, ba, l, op, oh, ot, st, fe, fp, fh, ft, lo⟩ d p wt = (⟨1, ba, l, op, oh, ot, st, fe, fp, fh, ft, lo⟩, p, 0)) := by show _ = _; rw [thR, if_pos HE1.out]; rfl
  go_enter Try.func8, Try.ntmps8
  go_wp2_with (go_at_call 34; refine (at_of _ _ _ (by decide)).mono ?_; rintro e w' ⟨rfl, rfl⟩; first | rw [HD.out] | rw [HP.out])
  refine (through_at (HM.out.keep BA.out) (HS.out.keep BA.out) HE.out HR0.out).mono ?_
  rintro e w1 ⟨va1, vk1, rfl, hL1, b1⟩
  have X0 := ((Box.newAt (n := w.heap.size) rfl 39 #[.slice ma zs.length mc]).past _).keep b1
  have X1 := (Box.newAt (n := w.heap.size + 1) (by simp) 44 #[.int .i64 0, .int .i64 ba, .slice va l.length vk, .int .i64 op, .int .i64 oh, .int .i64 ot, .bool st, .int .i64 fe, .int .i64 fp, .int .i64 fh, .int .i64 ft, .bool lo]).keep b1
  have B1 : Hid (Below w.heap.size w w1) := bel_trans BA.out b1
  have HL1 : Hid (Ls ((w1.setCell ⟨w.heap.size + 1, 0, none⟩ (.int .i64 1)).alloc (.cells #[.int .i64 0, .int .i64 ba, .slice va1 l.length vk1, .int .i64 op, .int .i64 oh, .int .i64 ot, .bool st, .int .i64 fe, .int .i64 fp, .int .i64 fh, .int .i64 ft, .bool lo] 44)) (.slice va1 l.length vk1) l) := (hL1.putAt (hL1.apart X1) 0 _).alloc _
  have X1' : Box ((w1.setCell ⟨w.heap.size + 1, 0, none⟩ (.int .i64 1)).alloc (.cells #[.int .i64 0, .int .i64 ba, .slice va1 l.length vk1, .int .i64 op, .int .i64 oh, .int .i64 ot, .bool st, .int .i64 fe, .int .i64 fp, .int .i64 fh, .int .i64 ft, .bool lo] 44)) (w.heap.size + 1) 44 #[.int .i64 1, .int .i64 ba, .slice va l.length vk, .int .i64 op, .int .i64 oh, .int .i64 ot, .bool st, .int .i64 fe, .int .i64 fp, .int .i64 fh, .int .i64 ft, .bool lo] := (Box.set X1 0 (.int .i64 1)).past _
  have X2' : Box ((w1.setCell ⟨w.heap.size + 1, 0, none⟩ (.int .i64 1)).alloc (.cells #[.int .i64 0, .int .i64 ba, .slice va1 l.length vk1, .int .i64 op, .int .i64 oh, .int .i64 ot, .bool st, .int .i64 fe, .int .i64 fp, .int .i64 fh, .int .i64 ft, .bool lo] 44)) w1.heap.size 44 #[.int .i64 0, .int .i64 ba, .slice va1 l.length vk1, .int .i64 op, .int .i64 oh, .int .i64 ot, .bool st, .int .i64 fe, .int .i64 fp, .int .i64 fh, .int .i64 ft, .bool lo] := Box.newAt (by simp) _ _
  have B2 : Hid (Below w.heap.size w ((w1.setCell ⟨w.heap.size + 1, 0, none⟩ (.int .i64 1)).alloc (.cells #[.int .i64 0, .int .i64 ba, .slice va1 l.length vk1, .int .i64 op, .int .i64 oh, .int .i64 ot, .bool st, .int .i64 fe, .int .i64 fp, .int .i64 fh, .int .i64 ft, .bool lo] 44))) := bel_alloc (bel_set (p := ⟨w.heap.size + 1, 0, none⟩) (by dsimp only; omega) B1.out _) _
  clear b1 BA hL1 B1
  obtain ⟨m0, -, s0⟩ := X0.one
  obtain ⟨⟨q0, q1, q2, q3, q4, q5, q6, q7, q8, q9, q10, q11⟩, s1⟩ := X1.twelve
  obtain ⟨y0, -⟩ := X1.marks
  go_wp2_with fail
  clear m0 s0 q0 q1 q2 q3 q4 q5 q6 q7 q8 q9 q10 q11 s1 y0
  generalize ((w1.setCell ⟨w.heap.size + 1, 0, none⟩ (.int .i64 1)).alloc (.cells #[.int .i64 0, .int .i64 ba, .slice va1 l.length vk1, .int .i64 op, .int .i64 oh, .int .i64 ot, .bool st, .int .i64 fe, .int .i64 fp, .int .i64 fh, .int .i64 ft, .bool lo] 44)) = W2 at *
  generalize w1.heap.size = N at *
  refine (through_at (HM.out.keep B2.out) (HS.out.keep B2.out) HE1.out HR1.out).mono ?_
  rintro e w2 ⟨va2, vk2, rfl, hL2, b2⟩
  have X1 := (X1'.keep b2)
  have X2 := (X2'.keep b2)
  have HL1 : Hid (Ls _ (.slice va1 l.length vk1) l) := (HL1.out.keep b2)
  have B3 : Hid (Below w.heap.size w w2) := bel_trans B2.out b2
  clear b2 B2 X1' X2'
  go_wp2_with fail
  refine (crossed_true _).mono ?_
  rintro e w3 ⟨rfl, b3⟩
  have X1 := (X1.past _).keep b3
  have X2 := (X2.past _).keep b3
  have X3 := (Box.newAt (w := w2) rfl 44 #[.int .i64 1, .int .i64 ba, .slice va2 l.length vk2, .int .i64 op, .int .i64 oh, .int .i64 ot, .bool st, .int .i64 fe, .int .i64 fp, .int .i64 fh, .int .i64 ft, .bool lo]).keep b3
  have HL1 : Hid (Ls _ (.slice va1 l.length vk1) l) := (HL1.out.alloc _).keep b3
  have HL2 : Hid (Ls _ (.slice va2 l.length vk2) l) := (hL2.alloc _).keep b3
  have B4 : Hid (Below w.heap.size w w3) := bel_trans (bel_alloc B3.out _) b3
  have HSS : Hid (Ls w3 (.slice va l.length vk) l) := HS.out.keep B4.out
  clear b3 B3 hL2
  generalize w2.heap.size = O at *
  obtain ⟨⟨q0, q1, q2, q3, q4, q5, q6, q7, q8, q9, q10, q11⟩, s1⟩ := X1.twelve
  obtain ⟨⟨u0, u1, u2, u3, u4, u5, u6, u7, u8, u9, u10, u11⟩, s3⟩ := X3.twelve
  go_wp2_with fail
  refine (bSame_any _ _ _ _ _ _ _ _ _ _ _ _ l _ _ _ _ _ _ _ _ _ _ _ _ l _ HL2.out HSS.out).mono ?_
  rintro e w4 ⟨rfl, b4⟩
  rw [sameBr_self]
  clear q0 q1 q2 q3 q4 q5 q6 q7 q8 q9 q10 q11 s1 u0 u1 u2 u3 u4 u5 u6 u7 u8 u9 u10 u11 s3
  have X1 := X1.keep b4
  have X2 := X2.keep b4
  have B5 : Hid (Below w.heap.size w w4) := bel_trans B4.out b4
  have HL1 : Hid (Ls _ (.slice va1 l.length vk1) l) := HL1.out.keep b4
  have HSS : Hid (Ls _ (.slice va l.length vk) l) := HSS.out.keep b4
  clear b4 B4 HL2
  obtain ⟨⟨q0, q1, q2, q3, q4, q5, q6, q7, q8, q9, q10, q11⟩, s1⟩ := X1.twelve
  obtain ⟨⟨u0, u1, u2, u3, u4, u5, u6, u7, u8, u9, u10, u11⟩, s3⟩ := X2.twelve
  go_wp2_with fail
  refine (equalL_any _ _ l l _ HL1.out HSS.out).mono ?_
  rintro e w5 ⟨rfl, n, rfl⟩
  rw [decide_eq_true (rfl : l = l)]
  go_wp2
  go_ret
  exact ⟨rfl, bel_drewN B5.out _⟩
end Go.Proofs.Ytemnklppplgcoab
