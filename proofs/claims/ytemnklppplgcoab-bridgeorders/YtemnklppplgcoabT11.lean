/-
  Laid together: OrdersWalk, Open0, Open, OpenO, OpenL, OpenR, OpenB.
-/
import Derived.Test.YtemnklppplgcoabT10
import Derived.Deep.CutRange
import Derived.ProofKit
import Derived.OpenShut
import Derived.ShutString
import Derived.ChangeOld
import Derived.Deep.Slices
/-
  The walk of BridgeOrders: orders are obeyed one by one.
-/
namespace Go.Proofs.Ytemnklppplgcoab
open Go.RowKit

/-- What holds ahead of each order. -/
def RelO (w : World) (ma : Option Addr) (mc : Nat) (zs : List Int) (k : Nat) (wx : World) : Prop :=
  ∃ mo ba op oh ot fe fp fh ft st lo va vk l, lenR oh ot + k ≤ 7 ∧ chkB ⟨mo, ba, l, op, oh, ot, st, fe, fp, fh, ft, lo⟩ = 0 ∧ Box wx w.heap.size 39 #[.slice ma zs.length mc] ∧ Box wx (w.heap.size + 1) 44 #[.int .i64 mo, .int .i64 ba, .slice va l.length vk, .int .i64 op, .int .i64 oh, .int .i64 ot, .bool st, .int .i64 fe, .int .i64 fp, .int .i64 fh, .int .i64 ft, .bool lo] ∧ Ls wx (.slice va l.length vk) l ∧ Below w.heap.size w wx

theorem bool_ne_self (b : Bool) : (b != b) = false := by cases b <;> rfl

set_option maxRecDepth 10000 in
set_option maxHeartbeats 8000000 in
theorem bridgeOrders_walk (v : Value) (zs : List Int) (mo ba op oh ot fe fp fh ft : Int) (st lo : Bool) (vc : Value) (l : List Ln) (w : World) (hs : Sl w v zs) (h : Ls w vc l) :
    Calls Try.prog 10 #[.agg #[v], .agg #[.int .i64 mo, .int .i64 ba, vc, .int .i64 op, .int .i64 oh, .int .i64 ot, .bool st, .int .i64 fe, .int .i64 fp, .int .i64 fh, .int .i64 ft, .bool lo]] w fun e w' => e = .returned (.bool true) ∧ Below w.heap.size w w' := by
  have HS : Hid (Ls w vc l) := h
  obtain ⟨va, vk, rfl, -⟩ := h.shape
  have HM : Hid (Sl w v zs) := hs
  obtain ⟨ma, mc, rfl⟩ := hs.shape
  clear h hs
  have BA : Hid (Below w.heap.size w _) := bel_alloc (bel_alloc (Below.refl w.heap.size w) (.cells #[.slice ma zs.length mc] 39)) (.cells #[.int .i64 mo, .int .i64 ba, .slice va l.length vk, .int .i64 op, .int .i64 oh, .int .i64 ot, .bool st, .int .i64 fe, .int .i64 fp, .int .i64 fh, .int .i64 ft, .bool lo] 44)
  go_enter Try.func10, Try.ntmps10
  go_wp2_with fail
  refine (crossed_true _).mono ?_
  rintro e w1 ⟨rfl, b1⟩
  have X0 := ((Box.newAt (n := w.heap.size) rfl 39 #[.slice ma zs.length mc]).past _).keep b1
  have X1 := (Box.newAt (n := w.heap.size + 1) (by simp) 44 #[.int .i64 mo, .int .i64 ba, .slice va l.length vk, .int .i64 op, .int .i64 oh, .int .i64 ot, .bool st, .int .i64 fe, .int .i64 fp, .int .i64 fh, .int .i64 ft, .bool lo]).keep b1
  have B1 : Hid (Below w.heap.size w w1) := bel_trans BA.out b1
  clear b1 BA
  obtain ⟨m0, -, s0⟩ := X0.one
  go_wp2_with fail
  refine (check_any _ zs _ (HM.out.keep B1.out)).mono ?_
  rintro e w2 ⟨rfl, b2⟩
  have X0 := X0.keep b2
  have X1 := X1.keep b2
  have B2 : Hid (Below w.heap.size w w2) := bel_trans B1.out b2
  clear b2 B1 m0 s0
  by_cases hz : chk zs = 0
  rotate_left
  · have hq : (chk zs != 0) = true := by simpa using hz
    go_wp2_with fail
    refine (crossed_true _).mono ?_
    rintro e w3 ⟨rfl, b3⟩
    have B3 : Hid (Below w.heap.size w w3) := bel_trans B2.out b3
    clear b3 B2
    go_wp2
    go_ret
    exact ⟨rfl, B3.out⟩
  rw [hz]
  obtain ⟨⟨q0, q1, q2, q3, q4, q5, q6, q7, q8, q9, q10, q11⟩, sq⟩ := X1.twelve
  go_wp2_with fail
  refine (bCheck_any _ _ _ _ _ _ _ _ _ _ _ _ l _ (HS.out.keep B2.out)).mono ?_
  rintro e w3 ⟨rfl, b3⟩
  have X0 := X0.keep b3
  have X1 := X1.keep b3
  have B3 : Hid (Below w.heap.size w w3) := bel_trans B2.out b3
  clear b3 B2 q0 q1 q2 q3 q4 q5 q6 q7 q8 q9 q10 q11 sq
  by_cases hb : chkB ⟨mo, ba, l, op, oh, ot, st, fe, fp, fh, ft, lo⟩ = 0
  rotate_left
  · have hq : (chkB ⟨mo, ba, l, op, oh, ot, st, fe, fp, fh, ft, lo⟩ != 0) = true := by simpa using hb
    go_wp2_with fail
    refine (crossed_true _).mono ?_
    rintro e w4 ⟨rfl, b4⟩
    have B4 : Hid (Below w.heap.size w w4) := bel_trans B3.out b4
    clear b4 B3
    go_wp2
    go_ret
    exact ⟨rfl, B4.out⟩
  rw [hb]
  have HZ : Hid (chk zs = 0) := hz
  have HR0 : Hid (RelO w ma mc zs 0 w3) := by
    refine ⟨mo, ba, op, oh, ot, fe, fp, fh, ft, st, lo, va, vk, l, ?_, hb, X0, X1, HS.out.keep B3.out, B3.out⟩
    have := lenR_in oh ot
    omega
  clear hz hb X0 X1 B3 HS
  go_wp2
  go_loopw [5, 6, 7, 8, 9, 10, 11, 13, 27] (fun _ _ _ _ _ _ _ _ i wx => ∃ k : Nat, i = .int .i64 k ∧ RelO w ma mc zs k wx) (fun _ _ _ _ _ _ _ _ i _ => 9 - (intOf i).toNat)
  case atStart => exact ⟨0, rfl, HR0.out⟩
  case round =>
    obtain ⟨k, rfl, mo, ba, op, oh, ot, fe, fp, fh, ft, st, lo, va, vk, l, hlen, hb, X0, X1, hL, hB⟩ := hrel
    obtain ⟨wo, rfl⟩ : ∃ wo : World, wo = wr := ⟨_, rfl⟩
    have hln := (lenR_in oh ot).1
    have hk9 : (k : Int) < 9 := by omega
    have HLN : Hid (lenR oh ot + k ≤ 7) := hlen
    have HBB : Hid (chkB ⟨mo, ba, l, op, oh, ot, st, fe, fp, fh, ft, lo⟩ = 0) := hb
    have HL : Hid (Ls _ _ l) := hL
    have B0' : Hid (Below w.heap.size w wo) := hB
    clear hlen hln hb hL hB HR0
    obtain ⟨⟨mo1, ba1, l1, op1, oh1, ot1, st1, fe1, fp1, fh1, ft1, lo1⟩, hB1⟩ : ∃ E, obB zs ⟨mo, ba, l, op, oh, ot, st, fe, fp, fh, ft, lo⟩ = E := ⟨_, rfl⟩
    obtain ⟨E, hE⟩ : ∃ E, obE zs ⟨mo, ba, l, op, oh, ot, st, fe, fp, fh, ft, lo⟩ = E := ⟨_, rfl⟩
    have HB1 : Hid (_ = _) := hB1
    have HE : Hid (_ = _) := hE
    clear hB1 hE
    obtain ⟨m0, -, s0⟩ := X0.one
    obtain ⟨⟨q0, q1, q2, q3, q4, q5, q6, q7, q8, q9, q10, q11⟩, sq⟩ := X1.twelve
    go_wp2_with fail
    refine (obey_at (HM.out.keep B0'.out) HL.out HE.out HB1.out).mono ?_
    rintro e w4 ⟨vc1, vk1, rfl, hL4, b4⟩
    have X0 := X0.keep b4
    have X1 := X1.keep b4
    have HL4 : Hid (Ls _ _ l1) := hL4
    have HL : Hid (Ls _ _ l) := HL.out.keep b4
    have B4 : Hid (Below w.heap.size w w4) := bel_trans B0'.out b4
    clear b4 B0' hL4 m0 s0 q0 q1 q2 q3 q4 q5 q6 q7 q8 q9 q10 q11 sq
    by_cases he : E = 0
    rotate_left
    · obtain ⟨h6, hlate⟩ := obE_late HZ.out HBB.out (by rw [HE.out]; exact he)
      rw [HE.out] at h6
      subst h6
      dsimp only at hlate
      obtain ⟨⟨q0, q1, q2, q3, q4, q5, q6, q7, q8, q9, q10, q11⟩, sq⟩ := X1.twelve
      cases st
      · have hoo : oh = ot := by rcases hlate with h | h; exact absurd h (by decide); exact h
        subst hoo
        obtain ⟨_, rh, _⟩ := chkR_ok (chkB_ok HBB.out).2.2.2.2.1
        have Rh := stepR_in rh
        clear rh hlate he
        go_wp2_with fail
        refine (length_any op oh oh _ Rh Rh).mono ?_
        rintro e w5 ⟨rfl, rfl⟩
        rw [(lenR_zero Rh Rh).2 rfl]
        go_wp2
        go_ret
        exact ⟨rfl, bel_alloc (bel_alloc B4.out _) _⟩
      · clear hlate he
        go_wp2
        go_ret
        exact ⟨rfl, bel_alloc B4.out _⟩
    subst he
    obtain ⟨_, _, hst, hne⟩ := obE_ok HE.out
    dsimp only at hst hne
    subst hst
    have HNE : Hid (¬ oh = ot) := hne
    have HRG : Hid (chkR op oh ot = 0) := (chkB_ok HBB.out).2.2.2.2.1
    clear hne
    obtain ⟨z, hz⟩ : ∃ z, nth zs (op * 8 + oh).toNat = z := ⟨_, rfl⟩
    obtain ⟨nh, hnh⟩ : ∃ z, (oh + 1) % 8 = z := ⟨_, rfl⟩
    have HNH : Hid (_ = _) := hnh
    have HW : Hid (ordW zs ⟨mo, ba, l, op, oh, ot, false, fe, fp, fh, ft, lo⟩ = z) := hz
    obtain ⟨c, e1, hro⟩ : ∃ c e1, (roO z = c ∧ roE z = e1) := ⟨_, _, rfl, rfl⟩
    obtain ⟨ok, od, opg⟩ := c
    obtain ⟨hO, hEE⟩ := hro
    have HRO : Hid (roO z = (ok, od, opg)) := hO
    have HRE : Hid (roE z = e1) := hEE
    have HCk : Hid (chkB ⟨mo1, ba1, l1, op1, oh1, ot1, st1, fe1, fp1, fh1, ft1, lo1⟩ = 0) := by
      show _ = _
      rw [← HB1.out]
      by_cases h1 : e1 = 0
      · exact (ob_right (k := ok) (d := od) (p := opg) HE.out (by rw [HW.out, HRE.out, h1]) (by rw [HW.out]; exact HRO.out)).2.1
      · exact (ob_bad HE.out (by rw [HW.out, HRE.out]; exact h1)).2
    clear hO hEE
    obtain ⟨m0, -, s0⟩ := X0.one
    obtain ⟨⟨q0, q1, q2, q3, q4, q5, q6, q7, q8, q9, q10, q11⟩, sq⟩ := X1.twelve
    go_wp2_with fail
    refine (pop_ok (HM.out.keep (bel_alloc B4.out _)) HZ.out HRG.out HNE.out).mono ?_
    rintro e w5 ⟨rfl, b5⟩
    rw [hz, hnh]
    have X0 := (X0.past _).keep b5
    have X1 := (X1.past _).keep b5
    have XC := (Box.newAt (w := w4) rfl 44 #[.int .i64 mo1, .int .i64 ba1, .slice vc1 l1.length vk1, .int .i64 op1, .int .i64 oh1, .int .i64 ot1, .bool st1, .int .i64 fe1, .int .i64 fp1, .int .i64 fh1, .int .i64 ft1, .bool lo1]).keep b5
    have HL4 : Hid (Ls _ _ l1) := (HL4.out.alloc _).keep b5
    have HL : Hid (Ls _ _ l) := (HL.out.alloc _).keep b5
    have B5 : Hid (Below w.heap.size w w5) := bel_trans (bel_alloc B4.out _) b5
    have zC : w.heap.size + 1 < w4.heap.size := sq
    clear b5 B4 m0 s0 q0 q1 q2 q3 q4 q5 q6 q7 q8 q9 q10 q11 sq hz hnh
    generalize w4.heap.size = C at *
    obtain ⟨⟨q0, q1, q2, q3, q4, q5, q6, q7, q8, q9, q10, q11⟩, sq⟩ := X1.twelve
    obtain ⟨⟨u0, u1, u2, u3, u4, u5, u6, u7, u8, u9, u10, u11⟩, su⟩ := XC.twelve
    go_wp2_with fail
    refine (bCheck_any _ _ _ _ _ _ _ _ _ _ _ _ l1 _ (HL4.out.alloc _)).mono ?_
    rintro e w6 ⟨rfl, b6⟩
    rw [HCk.out]
    have X0 := (X0.past _).keep b6
    have X1 := (X1.past _).keep b6
    have XC := (XC.past _).keep b6
    have XR := (Box.newAt (w := w5) rfl 42 #[.int .i64 op, .int .i64 nh, .int .i64 ot]).keep b6
    have HL4 : Hid (Ls _ _ l1) := (HL4.out.alloc _).keep b6
    have HL : Hid (Ls _ _ l) := (HL.out.alloc _).keep b6
    have B6 : Hid (Below w.heap.size w w6) := bel_trans (bel_alloc B5.out _) b6
    clear b6 B5 q0 q1 q2 q3 q4 q5 q6 q7 q8 q9 q10 q11 sq u0 u1 u2 u3 u4 u5 u6 u7 u8 u9 u10 u11 su
    generalize w5.heap.size = R at *
    go_wp2_with fail
    refine (readOrder_at HRE.out HRO.out).mono ?_
    rintro e w7 ⟨rfl, b7⟩
    have X0 := X0.keep b7
    have X1 := X1.keep b7
    have XC := XC.keep b7
    have XR := XR.keep b7
    have HL4 : Hid (Ls _ _ l1) := HL4.out.keep b7
    have HL : Hid (Ls _ _ l) := HL.out.keep b7
    have B7 : Hid (Below w.heap.size w w7) := bel_trans B6.out b7
    clear b7 B6
    by_cases h1 : e1 = 0
    rotate_left
    · have hbad := (ob_bad HE.out (by rw [HW.out, HRE.out]; exact h1)).1
      rw [HB1.out] at hbad
      simp only [Br.mk.injEq] at hbad
      obtain ⟨rfl, rfl, rfl, rfl, rfl, rfl, rfl, rfl, rfl, rfl, rfl, rfl⟩ := hbad
      have hq : (e1 != 0) = true := by simpa using h1
      obtain ⟨⟨q0, q1, q2, q3, q4, q5, q6, q7, q8, q9, q10, q11⟩, sq⟩ := X1.twelve
      obtain ⟨⟨u0, u1, u2, u3, u4, u5, u6, u7, u8, u9, u10, u11⟩, su⟩ := XC.twelve
      have zc1 : C < w7.heap.size + 1 := by omega
      have zc2 : w.heap.size + 1 < w7.heap.size + 1 := by omega
      go_wp2_with fail
      refine (bSame_any _ _ _ _ _ _ _ _ _ _ _ _ l1 _ _ _ _ _ _ _ _ _ _ _ _ l1 _ ((HL4.out.alloc _).alloc _) ((HL.out.alloc _).alloc _)).mono ?_
      rintro e w8 ⟨rfl, b8⟩
      rw [sameBr_self]
      have B8 : Hid (Below w.heap.size w w8) := bel_trans (bel_alloc (bel_alloc B7.out _) _) b8
      clear b8 B7 q0 q1 q2 q3 q4 q5 q6 q7 q8 q9 q10 q11 sq u0 u1 u2 u3 u4 u5 u6 u7 u8 u9 u10 u11 su
      go_wp2
      go_ret
      exact ⟨rfl, B8.out⟩
    subst h1
    obtain ⟨eB, -, -, -, hdec⟩ := ob_right (k := ok) (d := od) (p := opg) HE.out (by rw [HW.out]; exact HRE.out) (by rw [HW.out]; exact HRO.out)
    rw [HB1.out] at eB
    simp only [Br.mk.injEq] at eB
    dsimp only at hdec
    rw [HNH.out] at eB hdec
    obtain ⟨rfl, rfl, hl1, rfl, rfl, rfl, rfl, hfe, rfl, rfl, rfl, rfl⟩ := eB
    have HL1 : Hid (l1 = drC l ok od opg) := hl1
    have HFE : Hid (fe1 = if ok = 0 then (fe + 1) % 1000 else fe) := hfe
    have HDEC : Hid (_ = _) := hdec
    have HLC : Hid (chkC l = 0) := (chkB_ok HBB.out).2.2.2.1
    have hl6 : l1.length ≤ 6 := (chkC_zero.1 (chkB_ok HCk.out).2.2.2.1).1
    clear hl1 hfe hdec
    obtain ⟨⟨u0, u1, u2, u3, u4, u5, u6, u7, u8, u9, u10, u11⟩, su⟩ := XC.twelve
    go_wp2
    have X0 := X0.past (.cells #[.int .i64 ok, .int .i64 od, .int .i64 opg] 23)
    have X1 := X1.past (.cells #[.int .i64 ok, .int .i64 od, .int .i64 opg] 23)
    have XC := XC.past (.cells #[.int .i64 ok, .int .i64 od, .int .i64 opg] 23)
    have XR := XR.past (.cells #[.int .i64 ok, .int .i64 od, .int .i64 opg] 23)
    have XO := Box.newAt (w := w7) rfl 23 #[.int .i64 ok, .int .i64 od, .int .i64 opg]
    have HL4 : Hid (Ls (w7.alloc (.cells #[.int .i64 ok, .int .i64 od, .int .i64 opg] 23)) _ l1) := HL4.out.alloc _
    have HL : Hid (Ls (w7.alloc (.cells #[.int .i64 ok, .int .i64 od, .int .i64 opg] 23)) _ l) := HL.out.alloc _
    have B8 : Hid (Below w.heap.size w (w7.alloc (.cells #[.int .i64 ok, .int .i64 od, .int .i64 opg] 23))) := bel_alloc B7.out _
    clear B7 u0 u1 u2 u3 u4 u5 u6 u7 u8 u9 u10 u11 su
    generalize (w7.alloc (.cells #[.int .i64 ok, .int .i64 od, .int .i64 opg] 23)) = W8 at *
    generalize w7.heap.size = Od at *
    go_loopw [13, 87] (fun _ i wx => ∃ j : Nat, j ≤ l1.length ∧ i = .int .i64 j ∧ Below W8.heap.size W8 wx) (fun _ i _ => l1.length - (intOf i).toNat)
    case atStart => exact ⟨0, Nat.zero_le _, rfl, Below.refl _ _⟩
    case round =>
      obtain ⟨j, hj, rfl, hB8⟩ := hrel
      have X1' := X1.keep hB8
      have XO' := XO.keep hB8
      have HL4' := HL4.out.keep hB8
      have HL' := HL.out.keep hB8
      have BR : Hid (Below W8.heap.size W8 wr) := hB8
      by_cases hlt : j < l1.length
      · obtain ⟨lb, lof, lk, he, hlb, hat⟩ := HL4'.at hlt
        simp only [Value.slice.injEq, true_and] at he
        obtain ⟨rfl, rfl⟩ := he
        obtain ⟨y, hy⟩ : ∃ y, y = lth l1 j := ⟨_, rfl⟩
        rw [← hy] at hat
        have hin : y ∈ drC l ok od opg := by rw [← HL1.out, hy, lth_get hlt]; exact List.getElem_mem hlt
        obtain ⟨hmem, hk1⟩ := left_in hin
        obtain ⟨y1, y2, y3, y4, y5⟩ := y
        obtain ⟨g0, g1, g2, g3, g4⟩ := hat
        simp only at g0 g1 g2 g3 g4
        have HMEM : Hid ((y1, y2, y3, y4, y5) ∈ l) := hmem
        have hq : (ok == 1) = false := by simpa using hk1
        have hlt1 : (j : Int) < l1.length := by omega
        have HLq : Hid (Ls _ _ l) := HL'
        clear hy hin hmem hk1 hB8 HL4' HL'
        obtain ⟨⟨q0, q1, q2, q3, q4, q5, q6, q7, q8, q9, q10, q11⟩, sq⟩ := X1'.twelve
        obtain ⟨o0, o1, o2, -, -, -, sO⟩ := XO'.three
        go_wp2_with fail
        refine (containsL_in _ l y1 y2 y3 y4 y5 _ (HLq.out.alloc _) HMEM.out).mono ?_
        rintro e w9 ⟨rfl, b9⟩
        have B9 : Hid (Below W8.heap.size W8 w9) := bel_trans (bel_alloc BR.out _) b9
        clear b9 q0 q1 q2 q3 q4 q5 q6 q7 q8 q9 q10 q11 sq o0 o1 o2 sO g0 g1 g2 g3 g4
        go_wp2
        exact ⟨⟨j + 1, by omega, by go_num, B9.out⟩, by simp [intOf]; omega⟩
      · have Y0 := X0.keep hB8
        have Y1 := X1.keep hB8
        have YC := XC.keep hB8
        have YR := XR.keep hB8
        have YO := XO.keep hB8
        have BY : Hid (Below w.heap.size w wr) := bel_trans B8.out hB8
        have HLY : Hid (Ls wr _ l1) := HL4'
        have HLo : Hid (Ls wr _ l) := HL'
        have AP : Hid (Apart _ _ _) := HL4'.apart Y1
        clear X1' XO' HL4' HL' hB8 BR
        have nlt : ¬ (j : Int) < l1.length := by omega
        by_cases hk0 : ok = 0
        · subst hk0
          have hll : l1 = l := HL1.out.trans (left_all HLC.out)
          have hff : fe1 = (fe + 1) % 1000 := HFE.out
          have hq : (fe != fe1) = true := by have := ob_fence fe; simp; omega
          clear hff
          subst hll
          obtain ⟨⟨q0, q1, q2, q3, q4, q5, q6, q7, q8, q9, q10, q11⟩, sq⟩ := Y1.twelve
          obtain ⟨⟨u0, u1, u2, u3, u4, u5, u6, u7, u8, u9, u10, u11⟩, su⟩ := YC.twelve
          obtain ⟨o0, o1, o2, -, -, -, sO⟩ := YO.three
          obtain ⟨r0, r1, r2, -, -, -, sR⟩ := YR.three
          go_wp2_with fail
          refine (equalL_any _ _ l1 l1 _ HLo.out HLY.out).mono ?_
          rintro e wE ⟨rfl, n, rfl⟩
          rw [decide_eq_true (rfl : l1 = l1)]
          have Y0 : Box (wr.drewN n) _ _ _ := Y0
          have Y1 : Box (wr.drewN n) _ _ _ := Y1
          have YC : Box (wr.drewN n) _ _ _ := YC
          have YR : Box (wr.drewN n) _ _ _ := YR
          have YO : Box (wr.drewN n) _ _ _ := YO
          have HLY : Hid (Ls (wr.drewN n) _ l1) := HLY.out
          have BY : Hid (Below w.heap.size w (wr.drewN n)) := bel_drewN BY.out n
          clear q0 q1 q2 q3 q4 q5 q6 q7 q8 q9 q10 q11 sq u0 u1 u2 u3 u4 u5 u6 u7 u8 u9 u10 u11 su o0 o1 o2 sO r0 r1 r2 sR HLo
          generalize wr.drewN n = wE at *
          obtain ⟨⟨q0, q1, q2, q3, q4, q5, q6, q7, q8, q9, q10, q11⟩, sq⟩ := Y1.twelve
          obtain ⟨y0, y1, y2, y3, y4, y5, y6, y7, y8, y9, y10, y11⟩ := Y1.marks
          obtain ⟨⟨u0, u1, u2, u3, u4, u5, u6, u7, u8, u9, u10, u11⟩, su⟩ := YC.twelve
          obtain ⟨o0, o1, o2, -, -, -, sO⟩ := YO.three
          obtain ⟨r0, r1, r2, -, -, -, sR⟩ := YR.three
          go_wp2
          refine ⟨⟨k + 1, by go_num, mo1, ba1, op1, oh1, ot1, fe1, fp1, fh1, ft1, false, lo1, vc1, vk1, l1, ?_, HCk.out, ?_, ?_, ?_, ?_⟩, by simp [intOf]; omega⟩
          · have a1 := HDEC.out; have a2 := HLN.out; omega
          · exact Y0.other12 (by omega) _ _ _ _ _ _ _ _ _ _ _ _
          · exact Y1.set12 _ _ _ _ _ _ _ _ _ _ _ _
          · exact HLY.out.put12 AP.out _ _ _ _ _ _ _ _ _ _ _ _
          · exact bel_set12 (by omega) BY.out _ _ _ _ _ _ _ _ _ _ _ _
        · have hff : fe1 = fe := by rw [HFE.out, if_neg hk0]
          have hq : (ok == 0) = false := by simpa using hk0
          subst hff
          clear hk0
          obtain ⟨⟨q0, q1, q2, q3, q4, q5, q6, q7, q8, q9, q10, q11⟩, sq⟩ := Y1.twelve
          obtain ⟨y0, y1, y2, y3, y4, y5, y6, y7, y8, y9, y10, y11⟩ := Y1.marks
          obtain ⟨⟨u0, u1, u2, u3, u4, u5, u6, u7, u8, u9, u10, u11⟩, su⟩ := YC.twelve
          obtain ⟨o0, o1, o2, -, -, -, sO⟩ := YO.three
          obtain ⟨r0, r1, r2, -, -, -, sR⟩ := YR.three
          go_wp2
          refine ⟨⟨k + 1, by go_num, mo1, ba1, op1, oh1, ot1, fe1, fp1, fh1, ft1, false, lo1, vc1, vk1, l1, ?_, HCk.out, ?_, ?_, ?_, ?_⟩, by simp [intOf]; omega⟩
          · have a1 := HDEC.out; have a2 := HLN.out; omega
          · exact Y0.other12 (by omega) _ _ _ _ _ _ _ _ _ _ _ _
          · exact Y1.set12 _ _ _ _ _ _ _ _ _ _ _ _
          · exact HLY.out.put12 AP.out _ _ _ _ _ _ _ _ _ _ _ _
          · exact bel_set12 (by omega) BY.out _ _ _ _ _ _ _ _ _ _ _ _
end Go.Proofs.Ytemnklppplgcoab
/-
  What the openers share.
-/
namespace Go.Proofs.Ytemnklppplgcoab
open Go.ChangeShapes Go.WideShapes Go.ChangeAt Go.RowKit

theorem law_own : ownKnob Try.prog.godebug = none := by kernel_rfl
theorem law_laidOut : laidOutB Try.prog = true := by kernel_rfl
theorem int_cells : Try.prog.cellsOf 3 = 1 := by kernel_rfl
theorem bool_cells : Try.prog.cellsOf 4 = 1 := by kernel_rfl

theorem array5 {cs : List Value} (h : cs.length = 5) : ∃ c0 c1 c2 c3 c4, cs = [c0, c1, c2, c3, c4] := by
  match cs, h with
  | [c0, c1, c2, c3, c4], _ => exact ⟨c0, c1, c2, c3, c4, rfl⟩
theorem array3 {cs : List Value} (h : cs.length = 3) : ∃ c0 c1 c2, cs = [c0, c1, c2] := by
  match cs, h with
  | [c0, c1, c2], _ => exact ⟨c0, c1, c2, rfl⟩
theorem array4 {cs : List Value} (h : cs.length = 4) : ∃ c0 c1 c2 c3, cs = [c0, c1, c2, c3] := by
  match cs, h with
  | [c0, c1, c2, c3], _ => exact ⟨c0, c1, c2, c3, rfl⟩

section
variable {H : Type} {enc : TypeId × Value → H} {W : World}

theorem cell_int {n : Nat} {c : Value} {y : Option (DataW H × List MemPlace)} (h : DataW.trod enc Try.prog W 0 (fun _ => true) true n 3 [c] = y) (hy : y ≠ none) : ∃ a, c = .int .i64 a := by
  cases y with
  | none => exact absurd rfl hy
  | some y =>
    obtain ⟨a, e, _⟩ := DataW.trod_int Try.underlying3 h
    exact ⟨a, by simpa using e⟩
theorem cell_bool {n : Nat} {c : Value} {y : Option (DataW H × List MemPlace)} (h : DataW.trod enc Try.prog W 0 (fun _ => true) true n 4 [c] = y) (hy : y ≠ none) : ∃ a, c = .bool a := by
  cases y with
  | none => exact absurd rfl hy
  | some y =>
    obtain ⟨a, e, _⟩ := DataW.trod_bool Try.underlying4 h
    exact ⟨a, by simpa using e⟩

set_option maxRecDepth 100000 in
theorem cell_intw {n : Nat} {c : Value} {y : Option (DataW H × List MemPlace)} (h : DataW.trod enc Try.prog W 0 (fun _ => true) true n 3 [c] = y) (hy : y ≠ none) : ∃ a, c = .int .i64 a ∧ -9223372036854775808 ≤ a ∧ a ≤ 9223372036854775807 := by
  cases y with
  | none => exact absurd rfl hy
  | some y =>
    obtain ⟨a, e, _, hw⟩ := DataW.trod_int Try.underlying3 h
    refine ⟨a, by simpa using e, ?_⟩
    simp only [Lit.wf, Bool.and_eq_true, decide_eq_true_eq] at hw
    exact hw

end
end Go.Proofs.Ytemnklppplgcoab
/-
  A memory that comes in as an argument reads as a list of numbers (Sl).
-/
namespace Go.Proofs.Ytemnklppplgcoab
open Go.ChangeShapes Go.WideShapes Go.ChangeAt Go.RowKit

theorem mem_cells : Try.prog.cellsOf 39 = 1 := by kernel_rfl
theorem slice_cells : Try.prog.cellsOf 37 = 1 := by kernel_rfl

/-- A cell that reads as a slice of numbers. -/
theorem open_row {H : Type} {enc : TypeId × Value → H} {W : World} {fuel : Nat} {c0 : Value} {x : DataW H × List MemPlace}
    (h : DataW.trod enc Try.prog W 0 (fun _ => true) true fuel 37 [c0] = some x) : ∃ zs, Sl W c0 zs := by
  rcases open_ints Try.underlying37 Try.underlying3 int_cells h with ⟨hcs, _⟩ | ⟨a, len, cap, zs, hcs, _, hl, hm, hz, _, hcell, _⟩
  · simp only [List.cons.injEq, and_true] at hcs
    subst hcs
    exact ⟨[], Sl.nil _ _ _⟩
  · simp only [List.cons.injEq, and_true] at hcs
    subst hcs
    simp only [if_true] at hz
    by_cases h0 : len = 0
    · subst h0
      exact ⟨[], Sl.nil _ _ _⟩
    · obtain ⟨b, off, spot⟩ := a
      have hc := hcell 0 (by omega)
      have hspot : spot = none := by simpa [Addr.add] using World.cell?_spot hc
      subst hspot
      have hlen : (zs.take len).length = len := by simp; omega
      refine ⟨zs.take len, _, cap, by rw [hlen], by omega, .inr ⟨b, off, rfl, ?_, fun i hi => ?_⟩⟩
      · have := World.block_lt_of_cell? W _ hc
        simpa [Addr.add] using this
      · have ha : Addr.add ⟨b, off, none⟩ i = ⟨b, off + i, none⟩ := by unfold Addr.add; split <;> simp_all
        have := hcell i (by omega)
        rw [ha] at this
        rw [this]
        have hi' : i < len := by omega
        simp [nth, hi']

set_option maxRecDepth 100000 in
theorem open_mem {H : Type} {enc : TypeId × Value → H} {W : World} {b0 : Nat} {v : Value} {d : DataW H} {p : List MemPlace} (hv : Value.okWide Try.prog W .any b0 39 v)
    (h : DataW.Trod enc Try.prog W 0 (fun _ => true) true 39 v d p) : ∃ v0 zs, v = .agg #[v0] ∧ Sl W v0 zs := by
  obtain ⟨cs, rfl, hsz⟩ := okWide_struct Try.underlying39 hv
  rw [mem_cells] at hsz
  obtain ⟨l⟩ := cs
  match l, hsz with
  | [c0], _ =>
    obtain ⟨fuel, hf⟩ := h
    obtain ⟨y0, n, _, _, h0⟩ := trod_struct1 Try.underlying39 hf
    obtain ⟨zs, hs⟩ := open_row (c0 := c0) (by simpa [Value.cells, slice_cells] using h0)
    exact ⟨c0, zs, rfl, hs⟩
end Go.Proofs.Ytemnklppplgcoab
/-
  An order that comes in as an argument is written out.
-/
namespace Go.Proofs.Ytemnklppplgcoab
open Go.ChangeShapes Go.WideShapes Go.ChangeAt Go.RowKit

theorem ord_cells : Try.prog.cellsOf 23 = 3 := by kernel_rfl

section
variable {H : Type} {enc : TypeId × Value → H} {W : World}

set_option maxRecDepth 100000 in
theorem open_ord {b0 : Nat} {v : Value} {d : DataW H} {p : List MemPlace} (hv : Value.okWide Try.prog W .any b0 23 v) (h : DataW.Trod enc Try.prog W 0 (fun _ => true) true 23 v d p) :
    ∃ a b n, v = .agg #[.int .i64 a, .int .i64 b, .int .i64 n] ∧ (-9223372036854775808 ≤ a ∧ a ≤ 9223372036854775807) := by
  obtain ⟨cs, rfl, _⟩ := okWide_struct Try.underlying23 hv
  obtain ⟨fuel, hf⟩ := h
  obtain ⟨xs, n, _, _, hl, hlen, hf⟩ := DataW.trod_struct Try.underlying23 hf
  rw [ord_cells] at hl
  obtain ⟨l⟩ := cs
  simp only [Value.cells] at hl hf
  obtain ⟨c0, c1, c2, rfl⟩ := array3 hl
  have some_at : ∀ i, i < 3 → xs[i]? ≠ none := fun i hi => by
    rw [List.getElem?_eq_getElem (by rw [hlen]; exact hi)]; simp
  obtain ⟨a, rfl, ha⟩ := cell_intw (by simpa [int_cells] using hf 0 _ rfl) (some_at 0 (by omega))
  obtain ⟨b, rfl⟩ := cell_int (by simpa [int_cells] using hf 1 _ rfl) (some_at 1 (by omega))
  obtain ⟨q, rfl⟩ := cell_int (by simpa [int_cells] using hf 2 _ rfl) (some_at 2 (by omega))
  exact ⟨a, b, q, rfl, ha⟩

set_option maxRecDepth 100000 in
theorem open_odr {b0 : Nat} {v : Value} {d : DataW H} {p : List MemPlace} (hv : Value.okWide Try.prog W .any b0 23 v) (h : DataW.Trod enc Try.prog W 0 (fun _ => true) true 23 v d p) :
    ∃ a b n, v = .agg #[.int .i64 a, .int .i64 b, .int .i64 n] := by
  obtain ⟨a, b, n, e, _⟩ := open_ord hv h
  exact ⟨a, b, n, e⟩
end
end Go.Proofs.Ytemnklppplgcoab
/-
  Lines, a line, an order that come in as arguments are written out.
-/
namespace Go.Proofs.Ytemnklppplgcoab
open Go.ChangeShapes Go.WideShapes Go.ChangeAt Go.RowKit

theorem line_cells : Try.prog.cellsOf 68 = 5 := by kernel_rfl

section
variable {H : Type} {enc : TypeId × Value → H} {W : World}

set_option maxRecDepth 100000 in
/-- The cells of a line. -/
theorem line_open {fuel : Nat} {cs : List Value} {x : DataW H × List MemPlace} (h : DataW.trod enc Try.prog W 0 (fun _ => true) true fuel 68 cs = some x) :
    ∃ y : Ln, cs = [.int .i64 y.1, .int .i64 y.2.1, .int .i64 y.2.2.1, .bool y.2.2.2.1, .bool y.2.2.2.2] := by
  obtain ⟨xs, n, _, _, hl, hlen, hf⟩ := DataW.trod_struct Try.underlying68 h
  rw [line_cells] at hl
  obtain ⟨c0, c1, c2, c3, c4, rfl⟩ := array5 hl
  have some_at : ∀ i, i < 5 → xs[i]? ≠ none := fun i hi => by
    rw [List.getElem?_eq_getElem (by rw [hlen]; exact hi)]; simp
  obtain ⟨a, rfl⟩ := cell_int (by simpa [int_cells] using hf 0 _ rfl) (some_at 0 (by omega))
  obtain ⟨b, rfl⟩ := cell_int (by simpa [int_cells] using hf 1 _ rfl) (some_at 1 (by omega))
  obtain ⟨c, rfl⟩ := cell_int (by simpa [int_cells] using hf 2 _ rfl) (some_at 2 (by omega))
  obtain ⟨d, rfl⟩ := cell_bool (by simpa [bool_cells] using hf 3 _ rfl) (some_at 3 (by omega))
  obtain ⟨p, rfl⟩ := cell_bool (by simpa [bool_cells] using hf 4 _ rfl) (some_at 4 (by omega))
  exact ⟨(a, b, c, d, p), rfl⟩
set_option maxRecDepth 100000 in
theorem open_line {b0 : Nat} {v : Value} {d : DataW H} {p : List MemPlace} (hv : Value.okWide Try.prog W .any b0 68 v) (h : DataW.Trod enc Try.prog W 0 (fun _ => true) true 68 v d p) :
    ∃ a b c e n, v = .agg #[.int .i64 a, .int .i64 b, .int .i64 c, .bool e, .bool n] := by
  obtain ⟨cs, rfl, _⟩ := okWide_struct Try.underlying68 hv
  obtain ⟨fuel, hf⟩ := h
  obtain ⟨y, hc⟩ := line_open hf
  obtain ⟨l⟩ := cs
  simp only [Value.cells] at hc
  exact ⟨_, _, _, _, _, by rw [hc]⟩
theorem choose_len {P : Nat → Ln → Prop} : ∀ n, (∀ i, i < n → ∃ y, P i y) → ∃ l : List Ln, l.length = n ∧ ∀ i, i < n → P i (lth l i)
  | 0, _ => ⟨[], rfl, fun i hi => absurd hi (Nat.not_lt_zero _)⟩
  | n + 1, h => by
    obtain ⟨l, hl, hp⟩ := choose_len n fun i hi => h i (by omega)
    obtain ⟨y, hy⟩ := h n (by omega)
    refine ⟨l ++ [y], by simp [hl], fun i hi => ?_⟩
    by_cases e : i = n
    · subst e
      have : lth (l ++ [y]) i = y := by simp [lth, ← hl]
      rw [this]; exact hy
    · have : lth (l ++ [y]) i = lth l i := by
        have hi' : i < l.length := by omega
        simp [lth, List.getElem?_append_left hi']
      rw [this]; exact hp i (by omega)

set_option maxRecDepth 100000 in
/-- A cell that reads as a slice of lines. -/
theorem lines_row {fuel : Nat} {c0 : Value} {x : DataW H × List MemPlace} (h : DataW.trod enc Try.prog W 0 (fun _ => true) true fuel 40 [c0] = some x) : ∃ l, Ls W c0 l := by
  rcases Deep.open_slice Try.underlying40 h with ⟨hcs, _⟩ | ⟨a, len, cap, m, n, D, Pl, hcs, hb, hl, hm, hmm, _, hx⟩
  · simp only [List.cons.injEq, and_true] at hcs
    subst hcs
    exact ⟨[], Ls.nothing _⟩
  · simp only [List.cons.injEq, and_true] at hcs
    subst hcs
    simp only [if_true] at hmm
    rw [line_cells] at hx
    by_cases h0 : len = 0
    · subst h0
      exact ⟨[], Ls.nil _ _ _ hm⟩
    · obtain ⟨b, off, spot⟩ := a
      have each : ∀ i, i < len → ∃ y : Ln, ∀ j u, (j < 5 ∧ [Value.int .i64 y.1, .int .i64 y.2.1, .int .i64 y.2.2.1, .bool y.2.2.2.1, .bool y.2.2.2.2][j]? = some u) → W.cell? ((⟨b, off, spot⟩ : Addr).add (i * 5 + j)) = some u := by
        intro i hi
        obtain ⟨cs', h1, h2⟩ := hx i (by omega)
        obtain ⟨y, rfl⟩ := line_open h2
        obtain ⟨_, _, hcell⟩ := World.cells?_some h1
        refine ⟨y, fun j u ⟨hj, hu⟩ => ?_⟩
        have := hcell j (by omega)
        rw [Deep.add_add, hu] at this
        exact this
      obtain ⟨l, hlen, hp⟩ := choose_len (P := fun i y => ∀ j u, (j < 5 ∧ [Value.int .i64 y.1, .int .i64 y.2.1, .int .i64 y.2.2.1, .bool y.2.2.2.1, .bool y.2.2.2.2][j]? = some u) → W.cell? ((⟨b, off, spot⟩ : Addr).add (i * 5 + j)) = some u) len each
      have hc := hp 0 (by omega) 0 _ ⟨by omega, rfl⟩
      have hspot : spot = none := by simpa [Addr.add] using World.cell?_spot hc
      subst hspot
      have ha : ∀ i, Addr.add ⟨b, off, none⟩ i = ⟨b, off + i, none⟩ := fun i => by unfold Addr.add; split <;> simp_all
      refine ⟨l, _, cap, by rw [hlen], by omega, hm, .inr ⟨b, off, rfl, ?_, fun i hi => ?_⟩⟩
      · have := World.block_lt_of_cell? W _ hc
        simpa [Addr.add] using this
      · rw [hlen] at hi
        have hq := hp i hi
        refine ⟨?_, ?_, ?_, ?_, ?_⟩
        · have := hq 0 _ ⟨by omega, rfl⟩; rw [ha] at this; exact this
        · have := hq 1 _ ⟨by omega, rfl⟩; rw [ha, ← Nat.add_assoc] at this; exact this
        · have := hq 2 _ ⟨by omega, rfl⟩; rw [ha, ← Nat.add_assoc] at this; exact this
        · have := hq 3 _ ⟨by omega, rfl⟩; rw [ha, ← Nat.add_assoc] at this; exact this
        · have := hq 4 _ ⟨by omega, rfl⟩; rw [ha, ← Nat.add_assoc] at this; exact this
set_option maxRecDepth 100000 in
theorem open_lines {b0 : Nat} {v : Value} {d : DataW H} {p : List MemPlace} (hv : Value.okWide Try.prog W .any b0 40 v) (h : DataW.Trod enc Try.prog W 0 (fun _ => true) true 40 v d p) :
    ∃ l, Ls W v l := by
  obtain ⟨fuel, hf⟩ := h
  have hone : v.cells.toList = [v] := by
    simp only [Value.okWide, Try.underlying40, Cell.okWide] at hv
    cases v <;> simp_all [Value.cells, Cell.ok]
  rw [hone] at hf
  exact lines_row hf
end
end Go.Proofs.Ytemnklppplgcoab
/-
  A ring that comes in as an argument is written out.
-/
namespace Go.Proofs.Ytemnklppplgcoab
open Go.ChangeShapes Go.WideShapes Go.ChangeAt Go.RowKit

theorem ring_cells : Try.prog.cellsOf 42 = 3 := by kernel_rfl
section
variable {H : Type} {enc : TypeId × Value → H} {W : World}
set_option maxRecDepth 100000 in
/-- The cells of a ring. -/
theorem ring_open {fuel : Nat} {cs : List Value} {x : DataW H × List MemPlace} (h : DataW.trod enc Try.prog W 0 (fun _ => true) true fuel 42 cs = some x) :
    ∃ a b p, cs = [.int .i64 a, .int .i64 b, .int .i64 p] := by
  obtain ⟨xs, n, _, _, hl, hlen, hf⟩ := DataW.trod_struct Try.underlying42 h
  rw [ring_cells] at hl
  obtain ⟨c0, c1, c2, rfl⟩ := array3 hl
  have some_at : ∀ i, i < 3 → xs[i]? ≠ none := fun i hi => by
    rw [List.getElem?_eq_getElem (by rw [hlen]; exact hi)]; simp
  obtain ⟨a, rfl⟩ := cell_int (by simpa [int_cells] using hf 0 _ rfl) (some_at 0 (by omega))
  obtain ⟨b, rfl⟩ := cell_int (by simpa [int_cells] using hf 1 _ rfl) (some_at 1 (by omega))
  obtain ⟨p, rfl⟩ := cell_int (by simpa [int_cells] using hf 2 _ rfl) (some_at 2 (by omega))
  exact ⟨a, b, p, rfl⟩
set_option maxRecDepth 100000 in
theorem open_ring {b0 : Nat} {v : Value} {d : DataW H} {p : List MemPlace} (hv : Value.okWide Try.prog W .any b0 42 v) (h : DataW.Trod enc Try.prog W 0 (fun _ => true) true 42 v d p) :
    ∃ a b n, v = .agg #[.int .i64 a, .int .i64 b, .int .i64 n] := by
  obtain ⟨cs, rfl, _⟩ := okWide_struct Try.underlying42 hv
  obtain ⟨fuel, hf⟩ := h
  obtain ⟨a, b, n, hc⟩ := ring_open hf
  obtain ⟨l⟩ := cs
  simp only [Value.cells] at hc
  exact ⟨a, b, n, by rw [hc]⟩
end
end Go.Proofs.Ytemnklppplgcoab
/-
  A bridge that comes in as an argument is written out.
-/
namespace Go.Proofs.Ytemnklppplgcoab
open Go.ChangeShapes Go.WideShapes Go.ChangeAt Go.RowKit

theorem bri_cells : Try.prog.cellsOf 44 = 12 := by kernel_rfl
theorem lines_cells : Try.prog.cellsOf 40 = 1 := by kernel_rfl
theorem array12 {cs : List Value} (h : cs.length = 12) : ∃ c0 c1 c2 c3 c4 c5 c6 c7 c8 c9 c10 c11, cs = [c0, c1, c2, c3, c4, c5, c6, c7, c8, c9, c10, c11] := by
  match cs, h with
  | [c0, c1, c2, c3, c4, c5, c6, c7, c8, c9, c10, c11], _ => exact ⟨c0, c1, c2, c3, c4, c5, c6, c7, c8, c9, c10, c11, rfl⟩
section
variable {H : Type} {enc : TypeId × Value → H} {W : World}
set_option maxRecDepth 100000 in
theorem open_bri {b0 : Nat} {v : Value} {d : DataW H} {p : List MemPlace} (hv : Value.okWide Try.prog W .any b0 44 v) (h : DataW.Trod enc Try.prog W 0 (fun _ => true) true 44 v d p) :
    ∃ mo ba op oh ot fe fp fh ft st lo vc l, v = .agg #[.int .i64 mo, .int .i64 ba, vc, .int .i64 op, .int .i64 oh, .int .i64 ot, .bool st, .int .i64 fe, .int .i64 fp, .int .i64 fh, .int .i64 ft, .bool lo] ∧ Ls W vc l := by
  obtain ⟨cs, rfl, _⟩ := okWide_struct Try.underlying44 hv
  obtain ⟨fuel, hf⟩ := h
  obtain ⟨xs, n, _, _, hl, hlen, hf⟩ := DataW.trod_struct Try.underlying44 hf
  rw [bri_cells] at hl
  obtain ⟨l⟩ := cs
  simp only [Value.cells] at hl hf
  obtain ⟨c0, c1, c2, c3, c4, c5, c6, c7, c8, c9, c10, c11, rfl⟩ := array12 hl
  have some_at : ∀ i, i < 8 → ∃ y, xs[i]? = some y := fun i hi => by
    rw [List.getElem?_eq_getElem (by rw [hlen]; exact hi)]; simp
  have ne_at : ∀ i, i < 8 → xs[i]? ≠ none := fun i hi => by
    obtain ⟨y, hy⟩ := some_at i hi; rw [hy]; simp
  obtain ⟨mo, rfl⟩ := cell_int (by simpa [int_cells, bool_cells, lines_cells, ring_cells] using hf 0 _ rfl) (ne_at 0 (by omega))
  obtain ⟨ba, rfl⟩ := cell_int (by simpa [int_cells, bool_cells, lines_cells, ring_cells] using hf 1 _ rfl) (ne_at 1 (by omega))
  obtain ⟨y2, hy2⟩ := some_at 2 (by omega)
  obtain ⟨l, hL⟩ := lines_row (c0 := c2) (x := y2) (by rw [← hy2]; simpa [int_cells, bool_cells, lines_cells, ring_cells] using hf 2 _ rfl)
  obtain ⟨y3, hy3⟩ := some_at 3 (by omega)
  obtain ⟨op, oh, ot, e3⟩ := ring_open (cs := [c3, c4, c5]) (x := y3) (by rw [← hy3]; simpa [int_cells, bool_cells, lines_cells, ring_cells] using hf 3 _ rfl)
  obtain ⟨st, rfl⟩ := cell_bool (by simpa [int_cells, bool_cells, lines_cells, ring_cells] using hf 4 _ rfl) (ne_at 4 (by omega))
  obtain ⟨fe, rfl⟩ := cell_int (by simpa [int_cells, bool_cells, lines_cells, ring_cells] using hf 5 _ rfl) (ne_at 5 (by omega))
  obtain ⟨y6, hy6⟩ := some_at 6 (by omega)
  obtain ⟨fp, fh, ft, e6⟩ := ring_open (cs := [c8, c9, c10]) (x := y6) (by rw [← hy6]; simpa [int_cells, bool_cells, lines_cells, ring_cells] using hf 6 _ rfl)
  obtain ⟨lo, rfl⟩ := cell_bool (by simpa [int_cells, bool_cells, lines_cells, ring_cells] using hf 7 _ rfl) (ne_at 7 (by omega))
  simp only [List.cons.injEq, and_true] at e3 e6
  obtain ⟨rfl, rfl, rfl⟩ := e3
  obtain ⟨rfl, rfl, rfl⟩ := e6
  exact ⟨mo, ba, op, oh, ot, fe, fp, fh, ft, st, lo, c2, l, rfl, hL⟩
end
end Go.Proofs.Ytemnklppplgcoab
