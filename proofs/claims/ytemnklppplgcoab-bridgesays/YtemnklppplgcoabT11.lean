/-
  Laid together: SaysBWalk, Open0, Open, OpenO, OpenL, OpenR, OpenB.
-/
import Derived.Test.YtemnklppplgcoabT10
import Derived.Deep.RegionHeld3
import Derived.Deep.CutRange
import Derived.ProofKit
import Derived.OpenShut
import Derived.ShutString
import Derived.ChangeOld
import Derived.Deep.Slices
/-
  The walk of BridgeSays.
-/
namespace Go.Proofs.Ytemnklppplgcoab
open Go.RowKit

/-- The cells of two bridges, and nothing that has turned. -/
theorem keep24 {W w' : World} {m n : Nat} {t : TypeId} {a0 a1 a2 a3 a4 a5 a6 a7 a8 a9 a10 a11 b0 b1 b2 b3 b4 b5 b6 b7 b8 b9 b10 b11 : Value} (hm : Box W m t #[a0, a1, a2, a3, a4, a5, a6, a7, a8, a9, a10, a11]) (hn : Box W n t #[b0, b1, b2, b3, b4, b5, b6, b7, b8, b9, b10, b11]) (hb : Below W.heap.size W w') :
    w'.cell? ⟨m, 0, none⟩ = some a0 ∧ w'.cell? ⟨m, 1, none⟩ = some a1 ∧ w'.cell? ⟨m, 2, none⟩ = some a2 ∧ w'.cell? ⟨m, 3, none⟩ = some a3 ∧ w'.cell? ⟨m, 4, none⟩ = some a4 ∧ w'.cell? ⟨m, 5, none⟩ = some a5 ∧ w'.cell? ⟨m, 6, none⟩ = some a6 ∧ w'.cell? ⟨m, 7, none⟩ = some a7 ∧ w'.cell? ⟨m, 8, none⟩ = some a8 ∧ w'.cell? ⟨m, 9, none⟩ = some a9 ∧ w'.cell? ⟨m, 10, none⟩ = some a10 ∧ w'.cell? ⟨m, 11, none⟩ = some a11 ∧ w'.cell? ⟨n, 0, none⟩ = some b0 ∧ w'.cell? ⟨n, 1, none⟩ = some b1 ∧ w'.cell? ⟨n, 2, none⟩ = some b2 ∧ w'.cell? ⟨n, 3, none⟩ = some b3 ∧ w'.cell? ⟨n, 4, none⟩ = some b4 ∧ w'.cell? ⟨n, 5, none⟩ = some b5 ∧ w'.cell? ⟨n, 6, none⟩ = some b6 ∧ w'.cell? ⟨n, 7, none⟩ = some b7 ∧ w'.cell? ⟨n, 8, none⟩ = some b8 ∧ w'.cell? ⟨n, 9, none⟩ = some b9 ∧ w'.cell? ⟨n, 10, none⟩ = some b10 ∧ w'.cell? ⟨n, 11, none⟩ = some b11 ∧ Below W.heap.size W w' :=
  ⟨(hm.keep hb).cell 0, (hm.keep hb).cell 1, (hm.keep hb).cell 2, (hm.keep hb).cell 3, (hm.keep hb).cell 4, (hm.keep hb).cell 5, (hm.keep hb).cell 6, (hm.keep hb).cell 7, (hm.keep hb).cell 8, (hm.keep hb).cell 9, (hm.keep hb).cell 10, (hm.keep hb).cell 11, (hn.keep hb).cell 0, (hn.keep hb).cell 1, (hn.keep hb).cell 2, (hn.keep hb).cell 3, (hn.keep hb).cell 4, (hn.keep hb).cell 5, (hn.keep hb).cell 6, (hn.keep hb).cell 7, (hn.keep hb).cell 8, (hn.keep hb).cell 9, (hn.keep hb).cell 10, (hn.keep hb).cell 11, hb⟩
theorem limb24 {A0 A1 A2 A3 A4 A5 A6 A7 A8 A9 A10 A11 A12 A13 A14 A15 A16 A17 A18 A19 A20 A21 A22 A23 A24 : Prop} (h : A0 ∧ A1 ∧ A2 ∧ A3 ∧ A4 ∧ A5 ∧ A6 ∧ A7 ∧ A8 ∧ A9 ∧ A10 ∧ A11 ∧ A12 ∧ A13 ∧ A14 ∧ A15 ∧ A16 ∧ A17 ∧ A18 ∧ A19 ∧ A20 ∧ A21 ∧ A22 ∧ A23 ∧ A24) : A24 := h.2.2.2.2.2.2.2.2.2.2.2.2.2.2.2.2.2.2.2.2.2.2.2.2

/-- What Through answers, in one line for both ways. -/
theorem thR_both {zs : List Int} {b : Br} {d p : Int} {wt : Bool} {c : Br} {k f : Int} (h : thR zs b d p wt = (c, k, f)) : (¬ thE zs b d p = 0 → c = B0 ∧ k = 0 ∧ f = 0) ∧ (thE zs b d p = 0 → goT zs b d p wt = (c, k, f)) := by
  refine ⟨fun hE => ?_, fun hE => ?_⟩
  · rw [thR, if_neg hE] at h
    simp only [Prod.mk.injEq] at h
    exact ⟨h.1.symm, h.2.1.symm, h.2.2.symm⟩
  · rw [thR, if_pos hE] at h; exact h
theorem thE_split (zs : List Int) (b : Br) (d p : Int) : thE zs b d p = if bothB zs b = 0 then (if whoB d p = true then 0 else 4) else bothB zs b := rfl

set_option maxRecDepth 10000 in
set_option maxHeartbeats 8000000 in
theorem bridgeSays_walk (v : Value) (zs : List Int) (mo ba op oh ot fe fp fh ft : Int) (st lo : Bool) (vc : Value) (l : List Ln) (d p : Int) (wt : Bool) (mo2 ba2 op2 oh2 ot2 fe2 fp2 fh2 ft2 : Int) (st2 lo2 : Bool) (vc2 : Value) (l2 : List Ln) (w : World) (hs : Sl w v zs) (h : Ls w vc l) (h2 : Ls w vc2 l2) :
    Calls Try.prog 5 #[.agg #[v], .agg #[.int .i64 mo, .int .i64 ba, vc, .int .i64 op, .int .i64 oh, .int .i64 ot, .bool st, .int .i64 fe, .int .i64 fp, .int .i64 fh, .int .i64 ft, .bool lo], .int .i64 d, .int .i64 p, .bool wt, .agg #[.int .i64 mo2, .int .i64 ba2, vc2, .int .i64 op2, .int .i64 oh2, .int .i64 ot2, .bool st2, .int .i64 fe2, .int .i64 fp2, .int .i64 fh2, .int .i64 ft2, .bool lo2]] w fun e w' => e = .returned (.bool true) ∧ Below w.heap.size w w' := by
  have HS : Hid (Ls w vc l) := h
  obtain ⟨va, vk, rfl, -⟩ := h.shape
  have HS2 : Hid (Ls w vc2 l2) := h2
  obtain ⟨va2, vk2, rfl, -⟩ := h2.shape
  have HM : Hid (Sl w v zs) := hs
  obtain ⟨ma, mc, rfl⟩ := hs.shape
  clear h hs h2
  obtain ⟨⟨⟨mo1, ba1, l1, op1, oh1, ot1, st1, fe1, fp1, fh1, ft1, lo1⟩, k, f⟩, hR⟩ : ∃ x, thR zs ⟨mo, ba, l, op, oh, ot, st, fe, fp, fh, ft, lo⟩ d p wt = x := ⟨_, rfl⟩
  obtain ⟨⟨Y, n, g⟩, hRp⟩ : ∃ x, thR zs ⟨mo, ba, [], op, oh, ot, st, fe, fp, fh, ft, lo⟩ d p wt = x := ⟨_, rfl⟩
  have HR : Hid (_ = _) := hR
  have HRp : Hid (_ = _) := hRp
  obtain ⟨hZ, hO⟩ := thR_both hR
  obtain ⟨hZp, hOp⟩ := thR_both hRp
  clear hR hRp
  obtain ⟨E, hE⟩ : ∃ E, thE zs ⟨mo, ba, l, op, oh, ot, st, fe, fp, fh, ft, lo⟩ d p = E := ⟨_, rfl⟩
  obtain ⟨Ep, hEp⟩ : ∃ E, thE zs ⟨mo, ba, [], op, oh, ot, st, fe, fp, fh, ft, lo⟩ d p = E := ⟨_, rfl⟩
  obtain ⟨E1, hE1⟩ : ∃ E, bothB zs ⟨mo, ba, l, op, oh, ot, st, fe, fp, fh, ft, lo⟩ = E := ⟨_, rfl⟩
  obtain ⟨E2, hE2⟩ : ∃ E, bothB zs ⟨mo, ba, [], op, oh, ot, st, fe, fp, fh, ft, lo⟩ = E := ⟨_, rfl⟩
  obtain ⟨t, ht⟩ : ∃ t, whoB d p = t := ⟨_, rfl⟩
  have HE : Hid (_ = _) := hE
  have HEp : Hid (_ = _) := hEp
  have HE1 : Hid (_ = _) := hE1
  have HE2 : Hid (_ = _) := hE2
  have HT : Hid (_ = _) := ht
  have HEE : Hid (E = if E1 = 0 then (if t = true then 0 else 4) else E1) := by show _ = _; rw [← hE, thE_split, hE1, ht]
  have HEEp : Hid (Ep = if E2 = 0 then (if t = true then 0 else 4) else E2) := by show _ = _; rw [← hEp, thE_split, hE2, ht]
  rw [hE] at hZ hO
  rw [hEp] at hZp hOp
  have HZ : Hid (¬ E = 0 → _) := hZ
  have HO : Hid (E = 0 → _) := hO
  have HZp : Hid (¬ Ep = 0 → _) := hZp
  have HOp : Hid (Ep = 0 → _) := hOp
  clear hE hEp hE1 hE2 ht hZ hO hZp hOp
  have BA : Hid (Below w.heap.size w _) := bel_alloc (bel_alloc (bel_alloc (Below.refl w.heap.size w) (.cells #[.slice ma zs.length mc] 39)) (.cells #[.int .i64 mo, .int .i64 ba, .slice va l.length vk, .int .i64 op, .int .i64 oh, .int .i64 ot, .bool st, .int .i64 fe, .int .i64 fp, .int .i64 fh, .int .i64 ft, .bool lo] 44)) (.cells #[.int .i64 mo2, .int .i64 ba2, .slice va2 l2.length vk2, .int .i64 op2, .int .i64 oh2, .int .i64 ot2, .bool st2, .int .i64 fe2, .int .i64 fp2, .int .i64 fh2, .int .i64 ft2, .bool lo2] 44)
  go_enter Try.func5, Try.ntmps5
  go_wp2_with fail
  refine (through_at (HM.out.keep BA.out) (HS.out.keep BA.out) HE.out HR.out).mono ?_
  rintro e w1 ⟨va1, vk1, rfl, hL1, b1⟩
  have XM := (((Box.newAt (n := w.heap.size) rfl 39 #[.slice ma zs.length mc]).past _).past _).keep b1
  have XB := ((Box.newAt (n := w.heap.size + 1) (by simp) 44 #[.int .i64 mo, .int .i64 ba, .slice va l.length vk, .int .i64 op, .int .i64 oh, .int .i64 ot, .bool st, .int .i64 fe, .int .i64 fp, .int .i64 fh, .int .i64 ft, .bool lo]).past _).keep b1
  have XC := (Box.newAt (n := w.heap.size + 1 + 1) (by simp) 44 #[.int .i64 mo2, .int .i64 ba2, .slice va2 l2.length vk2, .int .i64 op2, .int .i64 oh2, .int .i64 ot2, .bool st2, .int .i64 fe2, .int .i64 fp2, .int .i64 fh2, .int .i64 ft2, .bool lo2]).keep b1
  have B1 : Hid (Below w.heap.size w w1) := bel_trans BA.out b1
  clear b1 BA
  obtain ⟨m0, -, s0⟩ := XM.one
  obtain ⟨⟨q0, q1, q2, q3, q4, q5, q6, q7, q8, q9, q10, q11⟩, sq⟩ := XB.twelve
  go_wp2_with fail
  refine (plain_at (HM.out.keep (bel_alloc B1.out _)) (HS.out.keep (bel_alloc B1.out _)) HEp.out HRp.out).mono ?_
  rintro e w2 ⟨rfl, b2⟩
  have XM := (XM.past _).keep b2
  have XB := (XB.past _).keep b2
  have XC := (XC.past _).keep b2
  have XX := (Box.newAt (w := w1) rfl 44 #[.int .i64 mo1, .int .i64 ba1, .slice va1 l1.length vk1, .int .i64 op1, .int .i64 oh1, .int .i64 ot1, .bool st1, .int .i64 fe1, .int .i64 fp1, .int .i64 fh1, .int .i64 ft1, .bool lo1]).keep b2
  have HLX := (hL1.alloc _).keep b2
  have B2 : Hid (Below w.heap.size w w2) := bel_trans (bel_alloc B1.out _) b2
  clear b2 B1 hL1 q0 q1 q2 q3 q4 q5 q6 q7 q8 q9 q10 q11 sq m0 s0
  generalize w1.heap.size = N at *
  obtain ⟨m0, -, s0⟩ := XM.one
  go_wp2_with fail
  refine (checkMem_any _ zs _ (HM.out.keep B2.out)).mono ?_
  rintro e w3 ⟨rfl, b3⟩
  have XM := XM.keep b3
  have XB := XB.keep b3
  have XC := XC.keep b3
  have XX := XX.keep b3
  have HLX := HLX.keep b3
  have B3 : Hid (Below w.heap.size w w3) := bel_trans B2.out b3
  have HL3 : Hid (Ls _ _ l1) := HLX
  clear b3 B2 m0 s0 HLX
  go_upto_if 54 with fail
  go_cut [20] from 51 to 56 (fun s wx => s = .int .i64 E1 ∧ Below w3.heap.size w3 wx)
  case first =>
    by_cases hk : chk zs = 0
    · have hH : Hid (bothB zs ⟨mo, ba, l, op, oh, ot, st, fe, fp, fh, ft, lo⟩ = chkB ⟨mo, ba, l, op, oh, ot, st, fe, fp, fh, ft, lo⟩) := if_pos hk
      rw [hk]
      obtain ⟨⟨q0, q1, q2, q3, q4, q5, q6, q7, q8, q9, q10, q11⟩, sq⟩ := XB.twelve
      go_wp2_with fail
      refine (checkBridge_any _ _ _ _ _ _ _ _ _ _ _ _ l _ (HS.out.keep B3.out)).mono ?_
      rintro e w4 ⟨rfl, b4⟩
      go_wp2
      go_meet
      exact ⟨by rw [← HE1.out, hH.out], b4⟩
    · have hH : Hid (bothB zs ⟨mo, ba, l, op, oh, ot, st, fe, fp, fh, ft, lo⟩ = chk zs) := if_neg hk
      have hq : (chk zs == 0) = false := by simpa using hk
      go_wp2
      go_meet
      exact ⟨by rw [← HE1.out, hH.out], Below.refl _ _⟩
  case rest =>
    obtain ⟨rfl, bc⟩ := hcut
    obtain ⟨wA, rfl⟩ : ∃ wA, wA = wc := ⟨wc, rfl⟩
    have XM := XM.keep bc
    have XB := XB.keep bc
    have XC := XC.keep bc
    have XX := XX.keep bc
    have HLA : Hid (Ls _ _ l1) := HL3.out.keep bc
    have BAA : Hid (Below w.heap.size w wA) := bel_trans B3.out bc
    have HSA : Hid (Ls wA _ l) := HS.out.keep BAA.out
    have HSA2 : Hid (Ls wA _ l2) := HS2.out.keep BAA.out
    clear bc HL3 B3
    go_upto_region 6 with fail
    go_cut [74] from 57 to 74 (fun s wx => s = .bool false ∧ Below wA.heap.size wA wx)
    case first =>
      obtain ⟨⟨q0, q1, q2, q3, q4, q5, q6, q7, q8, q9, q10, q11⟩, sq⟩ := XB.twelve
      obtain ⟨⟨u0, u1, u2, u3, u4, u5, u6, u7, u8, u9, u10, u11⟩, su⟩ := XC.twelve
      go_region_held3 (fun w' => w'.cell? ⟨w.heap.size + 1, 0, none⟩ = some (.int .i64 mo) ∧ w'.cell? ⟨w.heap.size + 1, 1, none⟩ = some (.int .i64 ba) ∧ w'.cell? ⟨w.heap.size + 1, 2, none⟩ = some (.slice va l.length vk) ∧ w'.cell? ⟨w.heap.size + 1, 3, none⟩ = some (.int .i64 op) ∧ w'.cell? ⟨w.heap.size + 1, 4, none⟩ = some (.int .i64 oh) ∧ w'.cell? ⟨w.heap.size + 1, 5, none⟩ = some (.int .i64 ot) ∧ w'.cell? ⟨w.heap.size + 1, 6, none⟩ = some (.bool st) ∧ w'.cell? ⟨w.heap.size + 1, 7, none⟩ = some (.int .i64 fe) ∧ w'.cell? ⟨w.heap.size + 1, 8, none⟩ = some (.int .i64 fp) ∧ w'.cell? ⟨w.heap.size + 1, 9, none⟩ = some (.int .i64 fh) ∧ w'.cell? ⟨w.heap.size + 1, 10, none⟩ = some (.int .i64 ft) ∧ w'.cell? ⟨w.heap.size + 1, 11, none⟩ = some (.bool lo) ∧ w'.cell? ⟨w.heap.size + 1 + 1, 0, none⟩ = some (.int .i64 mo2) ∧ w'.cell? ⟨w.heap.size + 1 + 1, 1, none⟩ = some (.int .i64 ba2) ∧ w'.cell? ⟨w.heap.size + 1 + 1, 2, none⟩ = some (.slice va2 l2.length vk2) ∧ w'.cell? ⟨w.heap.size + 1 + 1, 3, none⟩ = some (.int .i64 op2) ∧ w'.cell? ⟨w.heap.size + 1 + 1, 4, none⟩ = some (.int .i64 oh2) ∧ w'.cell? ⟨w.heap.size + 1 + 1, 5, none⟩ = some (.int .i64 ot2) ∧ w'.cell? ⟨w.heap.size + 1 + 1, 6, none⟩ = some (.bool st2) ∧ w'.cell? ⟨w.heap.size + 1 + 1, 7, none⟩ = some (.int .i64 fe2) ∧ w'.cell? ⟨w.heap.size + 1 + 1, 8, none⟩ = some (.int .i64 fp2) ∧ w'.cell? ⟨w.heap.size + 1 + 1, 9, none⟩ = some (.int .i64 fh2) ∧ w'.cell? ⟨w.heap.size + 1 + 1, 10, none⟩ = some (.int .i64 ft2) ∧ w'.cell? ⟨w.heap.size + 1 + 1, 11, none⟩ = some (.bool lo2) ∧ Below wA.heap.size wA w')
        (with_reducible refine keep24 XB XC ?_; (repeat (first | with_reducible assumption | (with_reducible (refine limb24 (?_ : _ ∧ _ ∧ _ ∧ _ ∧ _ ∧ _ ∧ _ ∧ _ ∧ _ ∧ _ ∧ _ ∧ _ ∧ _ ∧ _ ∧ _ ∧ _ ∧ _ ∧ _ ∧ _ ∧ _ ∧ _ ∧ _ ∧ _ ∧ _ ∧ _); assumption)) | with_reducible exact Below.refl _ _ | with_reducible refine Below.drew ?_ | with_reducible refine bel_drewN ?_ _ | with_reducible refine bel_alloc ?_ _ | with_reducible refine bel_trans ?_ (by assumption))))
        (first
          | (go_at_call 24; refine (crossed_true _).mono ?_; rintro e w5 ⟨rfl, b5⟩)
          | (go_at_call 25; refine (bCheck_any _ _ _ _ _ _ _ _ _ _ _ _ l _ ?_).mono ?_; (focus (refine HSA.out.keep ?_; (repeat (first | with_reducible assumption | (with_reducible (refine limb24 (?_ : _ ∧ _ ∧ _ ∧ _ ∧ _ ∧ _ ∧ _ ∧ _ ∧ _ ∧ _ ∧ _ ∧ _ ∧ _ ∧ _ ∧ _ ∧ _ ∧ _ ∧ _ ∧ _ ∧ _ ∧ _ ∧ _ ∧ _ ∧ _ ∧ _); assumption)) | with_reducible exact Below.refl _ _ | with_reducible refine Below.drew ?_ | with_reducible refine bel_drewN ?_ _ | with_reducible refine bel_alloc ?_ _ | with_reducible refine bel_trans ?_ (by assumption))))); rintro e w6 ⟨rfl, b6⟩)
          | (go_at_call 23; refine (checkBridge_any _ _ _ _ _ _ _ _ _ _ _ _ l _ ?_).mono ?_; (focus (refine HSA.out.keep ?_; (repeat (first | with_reducible assumption | (with_reducible (refine limb24 (?_ : _ ∧ _ ∧ _ ∧ _ ∧ _ ∧ _ ∧ _ ∧ _ ∧ _ ∧ _ ∧ _ ∧ _ ∧ _ ∧ _ ∧ _ ∧ _ ∧ _ ∧ _ ∧ _ ∧ _ ∧ _ ∧ _ ∧ _ ∧ _ ∧ _); assumption)) | with_reducible exact Below.refl _ _ | with_reducible refine Below.drew ?_ | with_reducible refine bel_drewN ?_ _ | with_reducible refine bel_alloc ?_ _ | with_reducible refine bel_trans ?_ (by assumption))))); rintro e w7 ⟨rfl, b7⟩)
          | (go_at_call 26; refine (bSame_any _ _ _ _ _ _ _ _ _ _ _ _ l _ _ _ _ _ _ _ _ _ _ _ _ l2 _ ?_ ?_).mono ?_; (focus (refine HSA.out.keep ?_; (repeat (first | with_reducible assumption | (with_reducible (refine limb24 (?_ : _ ∧ _ ∧ _ ∧ _ ∧ _ ∧ _ ∧ _ ∧ _ ∧ _ ∧ _ ∧ _ ∧ _ ∧ _ ∧ _ ∧ _ ∧ _ ∧ _ ∧ _ ∧ _ ∧ _ ∧ _ ∧ _ ∧ _ ∧ _ ∧ _); assumption)) | with_reducible exact Below.refl _ _ | with_reducible refine Below.drew ?_ | with_reducible refine bel_drewN ?_ _ | with_reducible refine bel_alloc ?_ _ | with_reducible refine bel_trans ?_ (by assumption))))); (focus (refine HSA2.out.keep ?_; (repeat (first | with_reducible assumption | (with_reducible (refine limb24 (?_ : _ ∧ _ ∧ _ ∧ _ ∧ _ ∧ _ ∧ _ ∧ _ ∧ _ ∧ _ ∧ _ ∧ _ ∧ _ ∧ _ ∧ _ ∧ _ ∧ _ ∧ _ ∧ _ ∧ _ ∧ _ ∧ _ ∧ _ ∧ _ ∧ _); assumption)) | with_reducible exact Below.refl _ _ | with_reducible refine Below.drew ?_ | with_reducible refine bel_drewN ?_ _ | with_reducible refine bel_alloc ?_ _ | with_reducible refine bel_trans ?_ (by assumption))))); rintro e w8 ⟨rfl, b8⟩)
          | (go_at_call 27; refine (sameBridge_any _ _ _ _ _ _ _ _ _ _ _ _ l _ _ _ _ _ _ _ _ _ _ _ _ l2 _ ?_ ?_).mono ?_; (focus (refine HSA.out.keep ?_; (repeat (first | with_reducible assumption | (with_reducible (refine limb24 (?_ : _ ∧ _ ∧ _ ∧ _ ∧ _ ∧ _ ∧ _ ∧ _ ∧ _ ∧ _ ∧ _ ∧ _ ∧ _ ∧ _ ∧ _ ∧ _ ∧ _ ∧ _ ∧ _ ∧ _ ∧ _ ∧ _ ∧ _ ∧ _ ∧ _); assumption)) | with_reducible exact Below.refl _ _ | with_reducible refine Below.drew ?_ | with_reducible refine bel_drewN ?_ _ | with_reducible refine bel_alloc ?_ _ | with_reducible refine bel_trans ?_ (by assumption))))); (focus (refine HSA2.out.keep ?_; (repeat (first | with_reducible assumption | (with_reducible (refine limb24 (?_ : _ ∧ _ ∧ _ ∧ _ ∧ _ ∧ _ ∧ _ ∧ _ ∧ _ ∧ _ ∧ _ ∧ _ ∧ _ ∧ _ ∧ _ ∧ _ ∧ _ ∧ _ ∧ _ ∧ _ ∧ _ ∧ _ ∧ _ ∧ _ ∧ _); assumption)) | with_reducible exact Below.refl _ _ | with_reducible refine Below.drew ?_ | with_reducible refine bel_drewN ?_ _ | with_reducible refine bel_alloc ?_ _ | with_reducible refine bel_trans ?_ (by assumption))))); rintro e w9 ⟨rfl, b9⟩))
      all_goals
        rename_i hH
        have hB := limb24 hH
        clear hH
        go_wp2_with fail
        go_meet
        exact ⟨by simp, hB⟩
    case rest =>
      obtain ⟨rfl, bc⟩ := hcut
      obtain ⟨wB, rfl⟩ : ∃ wB, wB = wc := ⟨wc, rfl⟩
      have XM := XM.keep bc
      have XB := XB.keep bc
      have XX := XX.keep bc
      have HLB : Hid (Ls _ _ l1) := HLA.out.keep bc
      have BB : Hid (Below w.heap.size w wB) := bel_trans BAA.out bc
      clear bc HLA BAA HSA HSA2 XC
      obtain ⟨⟨q0, q1, q2, q3, q4, q5, q6, q7, q8, q9, q10, q11⟩, sq⟩ := XB.twelve
      obtain ⟨m0, -, s0⟩ := XM.one
      go_wp2_with fail
      refine (checkMem_any _ zs _ (HM.out.keep (bel_alloc BB.out _))).mono ?_
      rintro e w5 ⟨rfl, b5⟩
      have XM := (XM.past _).keep b5
      have XB := (XB.past _).keep b5
      have XX := (XX.past _).keep b5
      have XW := (Box.newAt (w := wB) rfl 44 #[.int .i64 mo, .int .i64 ba, .slice none 0 0, .int .i64 op, .int .i64 oh, .int .i64 ot, .bool st, .int .i64 fe, .int .i64 fp, .int .i64 fh, .int .i64 ft, .bool lo]).keep b5
      have HLC : Hid (Ls _ _ l1) := (HLB.out.alloc _).keep b5
      have BC : Hid (Below w.heap.size w w5) := bel_trans (bel_alloc BB.out _) b5
      clear b5 BB HLB q0 q1 q2 q3 q4 q5 q6 q7 q8 q9 q10 q11 sq m0 s0
      generalize wB.heap.size = O at *
      go_upto_if 80 with fail
      go_cut [22] from 77 to 82 (fun s wx => s = .int .i64 E2 ∧ Below w5.heap.size w5 wx)
      case first =>
        by_cases hk : chk zs = 0
        · have hH : Hid (bothB zs ⟨mo, ba, [], op, oh, ot, st, fe, fp, fh, ft, lo⟩ = chkB ⟨mo, ba, [], op, oh, ot, st, fe, fp, fh, ft, lo⟩) := if_pos hk
          rw [hk]
          obtain ⟨⟨q0, q1, q2, q3, q4, q5, q6, q7, q8, q9, q10, q11⟩, sq⟩ := XW.twelve
          go_wp2_with fail
          refine (checkBridge_any _ _ _ _ _ _ _ _ _ _ _ _ [] _ (Ls.nothing _)).mono ?_
          rintro e w6 ⟨rfl, b6⟩
          go_wp2
          go_meet
          exact ⟨by rw [← HE2.out, hH.out], b6⟩
        · have hH : Hid (bothB zs ⟨mo, ba, [], op, oh, ot, st, fe, fp, fh, ft, lo⟩ = chk zs) := if_neg hk
          have hq : (chk zs == 0) = false := by simpa using hk
          go_wp2
          go_meet
          exact ⟨by rw [← HE2.out, hH.out], Below.refl _ _⟩
      case rest =>
        obtain ⟨rfl, bc⟩ := hcut
        obtain ⟨wD, rfl⟩ : ∃ wD, wD = wc := ⟨wc, rfl⟩
        have XM := XM.keep bc
        have XB := XB.keep bc
        have XX := XX.keep bc
        have XW := XW.keep bc
        have HLD : Hid (Ls _ _ l1) := HLC.out.keep bc
        have BD : Hid (Below w.heap.size w wD) := bel_trans BC.out bc
        clear bc HLC BC
        go_upto_region 13 with fail
        go_cut [23] from 83 to 96 (fun s wx => s = .bool t ∧ wx = wD)
        case first =>
          have hw : whoB d p = decide ((0 ≤ d ∧ d ≤ 7) ∧ (0 ≤ p ∧ p ≤ 63)) := rfl
          rw [HT.out] at hw
          by_cases d0 : 0 ≤ d
          rotate_left
          · have : t = false := by rw [hw]; simp [d0]
            subst this
            clear hw
            go_wp2
            go_meet
            exact ⟨rfl, rfl⟩
          by_cases d1 : d ≤ 7
          rotate_left
          · have : t = false := by rw [hw]; simp [d1]
            subst this
            clear hw
            go_wp2
            go_meet
            exact ⟨rfl, rfl⟩
          by_cases p0 : 0 ≤ p
          rotate_left
          · have : t = false := by rw [hw]; simp [p0]
            subst this
            clear hw
            go_wp2
            go_meet
            exact ⟨rfl, rfl⟩
          by_cases p1 : p ≤ 63
          rotate_left
          · have : t = false := by rw [hw]; simp [p1]
            subst this
            clear hw
            go_wp2
            go_meet
            exact ⟨rfl, rfl⟩
          have : t = true := by rw [hw]; simp [d0, d1, p0, p1]
          subst this
          clear hw
          go_wp2
          go_meet
          exact ⟨rfl, rfl⟩
        case rest =>
          obtain ⟨rfl, rfl⟩ := hcut
          obtain ⟨wD, rfl⟩ : ∃ wD, wD = wc := ⟨wc, rfl⟩
          go_upto_region 14 with fail
          go_cut [102] from 97 to 102 (fun s wx => (∃ q, s = .bool q ∧ (q = true → E = 4) ∧ (q = false → E = E1)) ∧ wx = wD)
          case first =>
            have hEE := HEE.out
            by_cases h1 : E1 = 0
            · cases t
              · have h4 : E = 4 := by rw [hEE, if_pos h1]; rfl
                have H4 : Hid (_ = _) := h4
                subst h1
                clear hEE h4
                go_wp2
                go_meet
                exact ⟨⟨true, rfl, (fun _ => H4.out), (fun h => Bool.noConfusion h)⟩, rfl⟩
              · have h4 : E = E1 := by rw [hEE, if_pos h1, h1]; rfl
                have H4 : Hid (_ = _) := h4
                subst h1
                clear hEE h4
                go_wp2
                go_meet
                exact ⟨⟨false, rfl, (fun h => Bool.noConfusion h), (fun _ => H4.out)⟩, rfl⟩
            · have h4 : E = E1 := by rw [hEE, if_neg h1]
              have H4 : Hid (_ = _) := h4
              have hq : (E1 == 0) = false := by simpa using h1
              clear hEE h1 h4
              go_wp2
              go_meet
              exact ⟨⟨false, rfl, (fun h => Bool.noConfusion h), (fun _ => H4.out)⟩, rfl⟩
          case rest =>
            obtain ⟨⟨q, rfl, hq1, hq2⟩, rfl⟩ := hcut
            obtain ⟨wD, rfl⟩ : ∃ wD, wD = wc := ⟨wc, rfl⟩
            have HQ1 : Hid (q = true → E = 4) := hq1
            have HQ2 : Hid (q = false → E = E1) := hq2
            clear hq1 hq2
            go_upto_if 102 with fail
            go_cut [20] from 97 to 102 (fun s wx => s = .int .i64 E ∧ wx = wD)
            case first =>
              cases q
              · have h4 := HQ2.out rfl
                have H4 : Hid (_ = _) := h4
                clear h4
                go_wp2
                go_meet
                exact ⟨by rw [H4.out], rfl⟩
              · have h4 := HQ1.out rfl
                have H4 : Hid (_ = _) := h4
                clear h4
                go_wp2
                go_meet
                exact ⟨by rw [H4.out], rfl⟩
            case rest =>
              obtain ⟨rfl, rfl⟩ := hcut
              obtain ⟨wD, rfl⟩ : ∃ wD, wD = wc := ⟨wc, rfl⟩
              clear HQ1 HQ2 q
              go_upto_region 16 with fail
              go_cut [108] from 103 to 108 (fun s wx => (∃ q, s = .bool q ∧ (q = true → Ep = 4) ∧ (q = false → Ep = E2)) ∧ wx = wD)
              case first =>
                have hEE := HEEp.out
                by_cases h1 : E2 = 0
                · cases t
                  · have h4 : Ep = 4 := by rw [hEE, if_pos h1]; rfl
                    have H4 : Hid (_ = _) := h4
                    subst h1
                    clear hEE h4
                    go_wp2
                    go_meet
                    exact ⟨⟨true, rfl, (fun _ => H4.out), (fun h => Bool.noConfusion h)⟩, rfl⟩
                  · have h4 : Ep = E2 := by rw [hEE, if_pos h1, h1]; rfl
                    have H4 : Hid (_ = _) := h4
                    subst h1
                    clear hEE h4
                    go_wp2
                    go_meet
                    exact ⟨⟨false, rfl, (fun h => Bool.noConfusion h), (fun _ => H4.out)⟩, rfl⟩
                · have h4 : Ep = E2 := by rw [hEE, if_neg h1]
                  have H4 : Hid (_ = _) := h4
                  have hq : (E2 == 0) = false := by simpa using h1
                  clear hEE h1 h4
                  go_wp2
                  go_meet
                  exact ⟨⟨false, rfl, (fun h => Bool.noConfusion h), (fun _ => H4.out)⟩, rfl⟩
              case rest =>
                obtain ⟨⟨q, rfl, hq1, hq2⟩, rfl⟩ := hcut
                obtain ⟨wD, rfl⟩ : ∃ wD, wD = wc := ⟨wc, rfl⟩
                have HQ1 : Hid (q = true → Ep = 4) := hq1
                have HQ2 : Hid (q = false → Ep = E2) := hq2
                clear hq1 hq2
                go_upto_if 108 with fail
                go_cut [22] from 103 to 108 (fun s wx => s = .int .i64 Ep ∧ wx = wD)
                case first =>
                  cases q
                  · have h4 := HQ2.out rfl
                    have H4 : Hid (_ = _) := h4
                    clear h4
                    go_wp2
                    go_meet
                    exact ⟨by rw [H4.out], rfl⟩
                  · have h4 := HQ1.out rfl
                    have H4 : Hid (_ = _) := h4
                    clear h4
                    go_wp2
                    go_meet
                    exact ⟨by rw [H4.out], rfl⟩
                case rest =>
                  obtain ⟨rfl, rfl⟩ := hcut
                  obtain ⟨wD, rfl⟩ : ∃ wD, wD = wc := ⟨wc, rfl⟩
                  clear HQ1 HQ2 q
                  go_upto_region 18 with fail
                  go_cut [142] from 109 to 142 (fun s wx => s = .bool false ∧ Below wD.heap.size wD wx)
                  case first =>
                    obtain ⟨⟨q0, q1, q2, q3, q4, q5, q6, q7, q8, q9, q10, q11⟩, sq⟩ := XX.twelve
                    by_cases hE : E = 0
                    · subst hE
                      by_cases hEp : Ep = 0
                      · subst hEp
                        go_wp2
                        go_meet
                        exact ⟨rfl, Below.refl _ _⟩
                      · obtain ⟨-, z2, z3⟩ := HZp.out hEp
                        subst z2 z3
                        have hq : (Ep != 0) = true := by simpa using hEp
                        go_wp2
                        go_meet
                        exact ⟨rfl, Below.refl _ _⟩
                    · obtain ⟨z1, z2, z3⟩ := HZ.out hE
                      subst z2 z3
                      simp only [B0, Br.mk.injEq] at z1
                      obtain ⟨rfl, rfl, rfl, rfl, rfl, rfl, rfl, rfl, rfl, rfl, rfl, rfl⟩ := z1
                      have hq : (E != 0) = true := by simpa using hE
                      go_wp2_with fail
                      refine (sameBridge_any _ _ _ _ _ _ _ _ _ _ _ _ [] _ _ _ _ _ _ _ _ _ _ _ _ [] _ HLD.out (Ls.nothing _)).mono ?_
                      rintro e w6 ⟨rfl, b6⟩
                      rw [sameBr_self]
                      have B6 : Hid (Below wD.heap.size wD w6) := b6
                      clear b6 q0 q1 q2 q3 q4 q5 q6 q7 q8 q9 q10 q11 sq
                      by_cases hEp : Ep = 0
                      · subst hEp
                        go_wp2
                        go_meet
                        exact ⟨rfl, B6.out⟩
                      · obtain ⟨-, z2, z3⟩ := HZp.out hEp
                        subst z2 z3
                        have hqp : (Ep != 0) = true := by simpa using hEp
                        go_wp2
                        go_meet
                        exact ⟨rfl, B6.out⟩
                  case rest =>
                    obtain ⟨rfl, bc⟩ := hcut
                    obtain ⟨wE, rfl⟩ : ∃ wE, wE = wc := ⟨wc, rfl⟩
                    have XM := XM.keep bc
                    have XB := XB.keep bc
                    have XX := XX.keep bc
                    have XW := XW.keep bc
                    have HLE : Hid (Ls _ _ l1) := HLD.out.keep bc
                    have BE : Hid (Below w.heap.size w wE) := bel_trans BD.out bc
                    clear bc HLD BD
                    go_upto_if 144 with fail
                    go_cut [24, 25, 26] from 143 to 172 (fun _ _ _ wx => Below wE.heap.size wE wx)
                    case first =>
                      by_cases hE : E = 0
                      · subst hE
                        obtain ⟨⟨q0, q1, q2, q3, q4, q5, q6, q7, q8, q9, q10, q11⟩, sq⟩ := XB.twelve
                        obtain ⟨m0, -, s0⟩ := XM.one
                        go_wp2_with fail
                        refine (goesTo_any _ zs _ _ _ _ _ _ _ _ _ _ _ _ l d p wt _ (HM.out.keep BE.out) (HS.out.keep BE.out) HE.out).mono ?_
                        rintro e w6 ⟨vc6, l6, k6, f6, rfl, hG6, hL6, b6⟩
                        have ho := HO.out (by first | rfl | trivial)
                        rw [hG6] at ho
                        simp only [Prod.mk.injEq, Br.mk.injEq] at ho
                        obtain ⟨⟨rfl, rfl, rfl, rfl, rfl, rfl, rfl, rfl, rfl, rfl, rfl, rfl⟩, rfl, rfl⟩ := ho
                        obtain ⟨va6, vk6, rfl, -⟩ := hL6.shape
                        clear q0 q1 q2 q3 q4 q5 q6 q7 q8 q9 q10 q11 sq m0 s0 hG6
                        have XX := XX.keep b6
                        have HL6 := (HLE.out.keep b6)
                        have B6 : Hid (Below wE.heap.size wE w6) := b6
                        clear b6
                        obtain ⟨⟨q0, q1, q2, q3, q4, q5, q6, q7, q8, q9, q10, q11⟩, sq⟩ := XX.twelve
                        go_wp2_with fail
                        refine (sameBridge_any _ _ _ _ _ _ _ _ _ _ _ _ l6 _ _ _ _ _ _ _ _ _ _ _ _ l6 _ (HL6.alloc _) (hL6.alloc _)).mono ?_
                        rintro e w7 ⟨rfl, b7⟩
                        rw [sameBr_self]
                        have B7 : Hid (Below wE.heap.size wE w7) := bel_trans (bel_alloc B6.out _) b7
                        clear b7 B6 hL6 HL6 q0 q1 q2 q3 q4 q5 q6 q7 q8 q9 q10 q11 sq
                        go_wp2
                        go_meet
                        exact B7.out
                      · have hq : (E == 0) = false := by simpa using hE
                        go_wp2
                        go_meet
                        exact Below.refl _ _
                    case rest =>
                      obtain ⟨wF, rfl⟩ : ∃ wF, wF = wc := ⟨wc, rfl⟩
                      have XM := XM.keep hcut
                      have XW := XW.keep hcut
                      have BF : Hid (Below w.heap.size w wF) := bel_trans BE.out hcut
                      clear hcut BE HLE
                      by_cases hEp : Ep = 0
                      · subst hEp
                        obtain ⟨⟨q0, q1, q2, q3, q4, q5, q6, q7, q8, q9, q10, q11⟩, sq⟩ := XW.twelve
                        obtain ⟨m0, -, s0⟩ := XM.one
                        go_wp2_with fail
                        refine (goesTo_any _ zs _ _ _ _ _ _ _ _ _ _ _ _ [] d p wt _ (HM.out.keep BF.out) (Ls.nothing _) HEp.out).mono ?_
                        rintro e w6 ⟨vc6, l6, k6, f6, rfl, hG6, hL6, b6⟩
                        have ho := HOp.out (by first | rfl | trivial)
                        rw [hG6] at ho
                        simp only [Prod.mk.injEq] at ho
                        obtain ⟨-, rfl, rfl⟩ := ho
                        obtain ⟨va6, vk6, rfl, -⟩ := hL6.shape
                        have B6 : Hid (Below w.heap.size w w6) := bel_trans BF.out b6
                        clear q0 q1 q2 q3 q4 q5 q6 q7 q8 q9 q10 q11 sq m0 s0 hG6 b6 hL6
                        go_wp2
                        go_ret
                        exact ⟨rfl, bel_alloc B6.out _⟩
                      · have hq : (Ep == 0) = false := by simpa using hEp
                        go_wp2
                        go_ret
                        exact ⟨rfl, BF.out⟩
end Go.Proofs.Ytemnklppplgcoab
/-
  What the openers share.
-/
namespace Go.Proofs.Ytemnklppplgcoab
open Go.ChangeShapes Go.WideShapes Go.ChangeAt Go.RowKit

theorem law_own : ownKnob Try.prog.godebug = none := by kernel_rfl
theorem law_laidOut : laidOutB Try.prog = true := by kernel_rfl
theorem int_cells : Try.prog.cellsOf 3 = 1 := by kernel_rfl
theorem bool_cells : Try.prog.cellsOf 4 = 1 := by kernel_rfl

theorem array5 {cs : List Value} (h : cs.length = 5) : ∃ c0 c1 c2 c3 c4, cs = [c0, c1, c2, c3, c4] := by
  match cs, h with
  | [c0, c1, c2, c3, c4], _ => exact ⟨c0, c1, c2, c3, c4, rfl⟩
theorem array3 {cs : List Value} (h : cs.length = 3) : ∃ c0 c1 c2, cs = [c0, c1, c2] := by
  match cs, h with
  | [c0, c1, c2], _ => exact ⟨c0, c1, c2, rfl⟩
theorem array4 {cs : List Value} (h : cs.length = 4) : ∃ c0 c1 c2 c3, cs = [c0, c1, c2, c3] := by
  match cs, h with
  | [c0, c1, c2, c3], _ => exact ⟨c0, c1, c2, c3, rfl⟩

section
variable {H : Type} {enc : TypeId × Value → H} {W : World}

theorem cell_int {n : Nat} {c : Value} {y : Option (DataW H × List MemPlace)} (h : DataW.trod enc Try.prog W 0 (fun _ => true) true n 3 [c] = y) (hy : y ≠ none) : ∃ a, c = .int .i64 a := by
  cases y with
  | none => exact absurd rfl hy
  | some y =>
    obtain ⟨a, e, _⟩ := DataW.trod_int Try.underlying3 h
    exact ⟨a, by simpa using e⟩
theorem cell_bool {n : Nat} {c : Value} {y : Option (DataW H × List MemPlace)} (h : DataW.trod enc Try.prog W 0 (fun _ => true) true n 4 [c] = y) (hy : y ≠ none) : ∃ a, c = .bool a := by
  cases y with
  | none => exact absurd rfl hy
  | some y =>
    obtain ⟨a, e, _⟩ := DataW.trod_bool Try.underlying4 h
    exact ⟨a, by simpa using e⟩

set_option maxRecDepth 100000 in
theorem cell_intw {n : Nat} {c : Value} {y : Option (DataW H × List MemPlace)} (h : DataW.trod enc Try.prog W 0 (fun _ => true) true n 3 [c] = y) (hy : y ≠ none) : ∃ a, c = .int .i64 a ∧ -9223372036854775808 ≤ a ∧ a ≤ 9223372036854775807 := by
  cases y with
  | none => exact absurd rfl hy
  | some y =>
    obtain ⟨a, e, _, hw⟩ := DataW.trod_int Try.underlying3 h
    refine ⟨a, by simpa using e, ?_⟩
    simp only [Lit.wf, Bool.and_eq_true, decide_eq_true_eq] at hw
    exact hw

end
end Go.Proofs.Ytemnklppplgcoab
/-
  A memory that comes in as an argument reads as a list of numbers (Sl).
-/
namespace Go.Proofs.Ytemnklppplgcoab
open Go.ChangeShapes Go.WideShapes Go.ChangeAt Go.RowKit

theorem mem_cells : Try.prog.cellsOf 39 = 1 := by kernel_rfl
theorem slice_cells : Try.prog.cellsOf 37 = 1 := by kernel_rfl

/-- A cell that reads as a slice of numbers. -/
theorem open_row {H : Type} {enc : TypeId × Value → H} {W : World} {fuel : Nat} {c0 : Value} {x : DataW H × List MemPlace}
    (h : DataW.trod enc Try.prog W 0 (fun _ => true) true fuel 37 [c0] = some x) : ∃ zs, Sl W c0 zs := by
  rcases open_ints Try.underlying37 Try.underlying3 int_cells h with ⟨hcs, _⟩ | ⟨a, len, cap, zs, hcs, _, hl, hm, hz, _, hcell, _⟩
  · simp only [List.cons.injEq, and_true] at hcs
    subst hcs
    exact ⟨[], Sl.nil _ _ _⟩
  · simp only [List.cons.injEq, and_true] at hcs
    subst hcs
    simp only [if_true] at hz
    by_cases h0 : len = 0
    · subst h0
      exact ⟨[], Sl.nil _ _ _⟩
    · obtain ⟨b, off, spot⟩ := a
      have hc := hcell 0 (by omega)
      have hspot : spot = none := by simpa [Addr.add] using World.cell?_spot hc
      subst hspot
      have hlen : (zs.take len).length = len := by simp; omega
      refine ⟨zs.take len, _, cap, by rw [hlen], by omega, .inr ⟨b, off, rfl, ?_, fun i hi => ?_⟩⟩
      · have := World.block_lt_of_cell? W _ hc
        simpa [Addr.add] using this
      · have ha : Addr.add ⟨b, off, none⟩ i = ⟨b, off + i, none⟩ := by unfold Addr.add; split <;> simp_all
        have := hcell i (by omega)
        rw [ha] at this
        rw [this]
        have hi' : i < len := by omega
        simp [nth, hi']

set_option maxRecDepth 100000 in
theorem open_mem {H : Type} {enc : TypeId × Value → H} {W : World} {b0 : Nat} {v : Value} {d : DataW H} {p : List MemPlace} (hv : Value.okWide Try.prog W .any b0 39 v)
    (h : DataW.Trod enc Try.prog W 0 (fun _ => true) true 39 v d p) : ∃ v0 zs, v = .agg #[v0] ∧ Sl W v0 zs := by
  obtain ⟨cs, rfl, hsz⟩ := okWide_struct Try.underlying39 hv
  rw [mem_cells] at hsz
  obtain ⟨l⟩ := cs
  match l, hsz with
  | [c0], _ =>
    obtain ⟨fuel, hf⟩ := h
    obtain ⟨y0, n, _, _, h0⟩ := trod_struct1 Try.underlying39 hf
    obtain ⟨zs, hs⟩ := open_row (c0 := c0) (by simpa [Value.cells, slice_cells] using h0)
    exact ⟨c0, zs, rfl, hs⟩
end Go.Proofs.Ytemnklppplgcoab
/-
  An order that comes in as an argument is written out.
-/
namespace Go.Proofs.Ytemnklppplgcoab
open Go.ChangeShapes Go.WideShapes Go.ChangeAt Go.RowKit

theorem ord_cells : Try.prog.cellsOf 23 = 3 := by kernel_rfl

section
variable {H : Type} {enc : TypeId × Value → H} {W : World}

set_option maxRecDepth 100000 in
theorem open_ord {b0 : Nat} {v : Value} {d : DataW H} {p : List MemPlace} (hv : Value.okWide Try.prog W .any b0 23 v) (h : DataW.Trod enc Try.prog W 0 (fun _ => true) true 23 v d p) :
    ∃ a b n, v = .agg #[.int .i64 a, .int .i64 b, .int .i64 n] ∧ (-9223372036854775808 ≤ a ∧ a ≤ 9223372036854775807) := by
  obtain ⟨cs, rfl, _⟩ := okWide_struct Try.underlying23 hv
  obtain ⟨fuel, hf⟩ := h
  obtain ⟨xs, n, _, _, hl, hlen, hf⟩ := DataW.trod_struct Try.underlying23 hf
  rw [ord_cells] at hl
  obtain ⟨l⟩ := cs
  simp only [Value.cells] at hl hf
  obtain ⟨c0, c1, c2, rfl⟩ := array3 hl
  have some_at : ∀ i, i < 3 → xs[i]? ≠ none := fun i hi => by
    rw [List.getElem?_eq_getElem (by rw [hlen]; exact hi)]; simp
  obtain ⟨a, rfl, ha⟩ := cell_intw (by simpa [int_cells] using hf 0 _ rfl) (some_at 0 (by omega))
  obtain ⟨b, rfl⟩ := cell_int (by simpa [int_cells] using hf 1 _ rfl) (some_at 1 (by omega))
  obtain ⟨q, rfl⟩ := cell_int (by simpa [int_cells] using hf 2 _ rfl) (some_at 2 (by omega))
  exact ⟨a, b, q, rfl, ha⟩

set_option maxRecDepth 100000 in
theorem open_odr {b0 : Nat} {v : Value} {d : DataW H} {p : List MemPlace} (hv : Value.okWide Try.prog W .any b0 23 v) (h : DataW.Trod enc Try.prog W 0 (fun _ => true) true 23 v d p) :
    ∃ a b n, v = .agg #[.int .i64 a, .int .i64 b, .int .i64 n] := by
  obtain ⟨a, b, n, e, _⟩ := open_ord hv h
  exact ⟨a, b, n, e⟩
end
end Go.Proofs.Ytemnklppplgcoab
/-
  Lines, a line, an order that come in as arguments are written out.
-/
namespace Go.Proofs.Ytemnklppplgcoab
open Go.ChangeShapes Go.WideShapes Go.ChangeAt Go.RowKit

theorem line_cells : Try.prog.cellsOf 68 = 5 := by kernel_rfl

section
variable {H : Type} {enc : TypeId × Value → H} {W : World}

set_option maxRecDepth 100000 in
/-- The cells of a line. -/
theorem line_open {fuel : Nat} {cs : List Value} {x : DataW H × List MemPlace} (h : DataW.trod enc Try.prog W 0 (fun _ => true) true fuel 68 cs = some x) :
    ∃ y : Ln, cs = [.int .i64 y.1, .int .i64 y.2.1, .int .i64 y.2.2.1, .bool y.2.2.2.1, .bool y.2.2.2.2] := by
  obtain ⟨xs, n, _, _, hl, hlen, hf⟩ := DataW.trod_struct Try.underlying68 h
  rw [line_cells] at hl
  obtain ⟨c0, c1, c2, c3, c4, rfl⟩ := array5 hl
  have some_at : ∀ i, i < 5 → xs[i]? ≠ none := fun i hi => by
    rw [List.getElem?_eq_getElem (by rw [hlen]; exact hi)]; simp
  obtain ⟨a, rfl⟩ := cell_int (by simpa [int_cells] using hf 0 _ rfl) (some_at 0 (by omega))
  obtain ⟨b, rfl⟩ := cell_int (by simpa [int_cells] using hf 1 _ rfl) (some_at 1 (by omega))
  obtain ⟨c, rfl⟩ := cell_int (by simpa [int_cells] using hf 2 _ rfl) (some_at 2 (by omega))
  obtain ⟨d, rfl⟩ := cell_bool (by simpa [bool_cells] using hf 3 _ rfl) (some_at 3 (by omega))
  obtain ⟨p, rfl⟩ := cell_bool (by simpa [bool_cells] using hf 4 _ rfl) (some_at 4 (by omega))
  exact ⟨(a, b, c, d, p), rfl⟩
set_option maxRecDepth 100000 in
theorem open_line {b0 : Nat} {v : Value} {d : DataW H} {p : List MemPlace} (hv : Value.okWide Try.prog W .any b0 68 v) (h : DataW.Trod enc Try.prog W 0 (fun _ => true) true 68 v d p) :
    ∃ a b c e n, v = .agg #[.int .i64 a, .int .i64 b, .int .i64 c, .bool e, .bool n] := by
  obtain ⟨cs, rfl, _⟩ := okWide_struct Try.underlying68 hv
  obtain ⟨fuel, hf⟩ := h
  obtain ⟨y, hc⟩ := line_open hf
  obtain ⟨l⟩ := cs
  simp only [Value.cells] at hc
  exact ⟨_, _, _, _, _, by rw [hc]⟩
theorem choose_len {P : Nat → Ln → Prop} : ∀ n, (∀ i, i < n → ∃ y, P i y) → ∃ l : List Ln, l.length = n ∧ ∀ i, i < n → P i (lth l i)
  | 0, _ => ⟨[], rfl, fun i hi => absurd hi (Nat.not_lt_zero _)⟩
  | n + 1, h => by
    obtain ⟨l, hl, hp⟩ := choose_len n fun i hi => h i (by omega)
    obtain ⟨y, hy⟩ := h n (by omega)
    refine ⟨l ++ [y], by simp [hl], fun i hi => ?_⟩
    by_cases e : i = n
    · subst e
      have : lth (l ++ [y]) i = y := by simp [lth, ← hl]
      rw [this]; exact hy
    · have : lth (l ++ [y]) i = lth l i := by
        have hi' : i < l.length := by omega
        simp [lth, List.getElem?_append_left hi']
      rw [this]; exact hp i (by omega)

set_option maxRecDepth 100000 in
/-- A cell that reads as a slice of lines. -/
theorem lines_row {fuel : Nat} {c0 : Value} {x : DataW H × List MemPlace} (h : DataW.trod enc Try.prog W 0 (fun _ => true) true fuel 40 [c0] = some x) : ∃ l, Ls W c0 l := by
  rcases Deep.open_slice Try.underlying40 h with ⟨hcs, _⟩ | ⟨a, len, cap, m, n, D, Pl, hcs, hb, hl, hm, hmm, _, hx⟩
  · simp only [List.cons.injEq, and_true] at hcs
    subst hcs
    exact ⟨[], Ls.nothing _⟩
  · simp only [List.cons.injEq, and_true] at hcs
    subst hcs
    simp only [if_true] at hmm
    rw [line_cells] at hx
    by_cases h0 : len = 0
    · subst h0
      exact ⟨[], Ls.nil _ _ _ hm⟩
    · obtain ⟨b, off, spot⟩ := a
      have each : ∀ i, i < len → ∃ y : Ln, ∀ j u, (j < 5 ∧ [Value.int .i64 y.1, .int .i64 y.2.1, .int .i64 y.2.2.1, .bool y.2.2.2.1, .bool y.2.2.2.2][j]? = some u) → W.cell? ((⟨b, off, spot⟩ : Addr).add (i * 5 + j)) = some u := by
        intro i hi
        obtain ⟨cs', h1, h2⟩ := hx i (by omega)
        obtain ⟨y, rfl⟩ := line_open h2
        obtain ⟨_, _, hcell⟩ := World.cells?_some h1
        refine ⟨y, fun j u ⟨hj, hu⟩ => ?_⟩
        have := hcell j (by omega)
        rw [Deep.add_add, hu] at this
        exact this
      obtain ⟨l, hlen, hp⟩ := choose_len (P := fun i y => ∀ j u, (j < 5 ∧ [Value.int .i64 y.1, .int .i64 y.2.1, .int .i64 y.2.2.1, .bool y.2.2.2.1, .bool y.2.2.2.2][j]? = some u) → W.cell? ((⟨b, off, spot⟩ : Addr).add (i * 5 + j)) = some u) len each
      have hc := hp 0 (by omega) 0 _ ⟨by omega, rfl⟩
      have hspot : spot = none := by simpa [Addr.add] using World.cell?_spot hc
      subst hspot
      have ha : ∀ i, Addr.add ⟨b, off, none⟩ i = ⟨b, off + i, none⟩ := fun i => by unfold Addr.add; split <;> simp_all
      refine ⟨l, _, cap, by rw [hlen], by omega, hm, .inr ⟨b, off, rfl, ?_, fun i hi => ?_⟩⟩
      · have := World.block_lt_of_cell? W _ hc
        simpa [Addr.add] using this
      · rw [hlen] at hi
        have hq := hp i hi
        refine ⟨?_, ?_, ?_, ?_, ?_⟩
        · have := hq 0 _ ⟨by omega, rfl⟩; rw [ha] at this; exact this
        · have := hq 1 _ ⟨by omega, rfl⟩; rw [ha, ← Nat.add_assoc] at this; exact this
        · have := hq 2 _ ⟨by omega, rfl⟩; rw [ha, ← Nat.add_assoc] at this; exact this
        · have := hq 3 _ ⟨by omega, rfl⟩; rw [ha, ← Nat.add_assoc] at this; exact this
        · have := hq 4 _ ⟨by omega, rfl⟩; rw [ha, ← Nat.add_assoc] at this; exact this
set_option maxRecDepth 100000 in
theorem open_lines {b0 : Nat} {v : Value} {d : DataW H} {p : List MemPlace} (hv : Value.okWide Try.prog W .any b0 40 v) (h : DataW.Trod enc Try.prog W 0 (fun _ => true) true 40 v d p) :
    ∃ l, Ls W v l := by
  obtain ⟨fuel, hf⟩ := h
  have hone : v.cells.toList = [v] := by
    simp only [Value.okWide, Try.underlying40, Cell.okWide] at hv
    cases v <;> simp_all [Value.cells, Cell.ok]
  rw [hone] at hf
  exact lines_row hf
end
end Go.Proofs.Ytemnklppplgcoab
/-
  A ring that comes in as an argument is written out.
-/
namespace Go.Proofs.Ytemnklppplgcoab
open Go.ChangeShapes Go.WideShapes Go.ChangeAt Go.RowKit

theorem ring_cells : Try.prog.cellsOf 42 = 3 := by kernel_rfl
section
variable {H : Type} {enc : TypeId × Value → H} {W : World}
set_option maxRecDepth 100000 in
/-- The cells of a ring. -/
theorem ring_open {fuel : Nat} {cs : List Value} {x : DataW H × List MemPlace} (h : DataW.trod enc Try.prog W 0 (fun _ => true) true fuel 42 cs = some x) :
    ∃ a b p, cs = [.int .i64 a, .int .i64 b, .int .i64 p] := by
  obtain ⟨xs, n, _, _, hl, hlen, hf⟩ := DataW.trod_struct Try.underlying42 h
  rw [ring_cells] at hl
  obtain ⟨c0, c1, c2, rfl⟩ := array3 hl
  have some_at : ∀ i, i < 3 → xs[i]? ≠ none := fun i hi => by
    rw [List.getElem?_eq_getElem (by rw [hlen]; exact hi)]; simp
  obtain ⟨a, rfl⟩ := cell_int (by simpa [int_cells] using hf 0 _ rfl) (some_at 0 (by omega))
  obtain ⟨b, rfl⟩ := cell_int (by simpa [int_cells] using hf 1 _ rfl) (some_at 1 (by omega))
  obtain ⟨p, rfl⟩ := cell_int (by simpa [int_cells] using hf 2 _ rfl) (some_at 2 (by omega))
  exact ⟨a, b, p, rfl⟩
set_option maxRecDepth 100000 in
theorem open_ring {b0 : Nat} {v : Value} {d : DataW H} {p : List MemPlace} (hv : Value.okWide Try.prog W .any b0 42 v) (h : DataW.Trod enc Try.prog W 0 (fun _ => true) true 42 v d p) :
    ∃ a b n, v = .agg #[.int .i64 a, .int .i64 b, .int .i64 n] := by
  obtain ⟨cs, rfl, _⟩ := okWide_struct Try.underlying42 hv
  obtain ⟨fuel, hf⟩ := h
  obtain ⟨a, b, n, hc⟩ := ring_open hf
  obtain ⟨l⟩ := cs
  simp only [Value.cells] at hc
  exact ⟨a, b, n, by rw [hc]⟩
end
end Go.Proofs.Ytemnklppplgcoab
/-
  A bridge that comes in as an argument is written out.
-/
namespace Go.Proofs.Ytemnklppplgcoab
open Go.ChangeShapes Go.WideShapes Go.ChangeAt Go.RowKit

theorem bri_cells : Try.prog.cellsOf 44 = 12 := by kernel_rfl
theorem lines_cells : Try.prog.cellsOf 40 = 1 := by kernel_rfl
theorem array12 {cs : List Value} (h : cs.length = 12) : ∃ c0 c1 c2 c3 c4 c5 c6 c7 c8 c9 c10 c11, cs = [c0, c1, c2, c3, c4, c5, c6, c7, c8, c9, c10, c11] := by
  match cs, h with
  | [c0, c1, c2, c3, c4, c5, c6, c7, c8, c9, c10, c11], _ => exact ⟨c0, c1, c2, c3, c4, c5, c6, c7, c8, c9, c10, c11, rfl⟩
section
variable {H : Type} {enc : TypeId × Value → H} {W : World}
set_option maxRecDepth 100000 in
theorem open_bri {b0 : Nat} {v : Value} {d : DataW H} {p : List MemPlace} (hv : Value.okWide Try.prog W .any b0 44 v) (h : DataW.Trod enc Try.prog W 0 (fun _ => true) true 44 v d p) :
    ∃ mo ba op oh ot fe fp fh ft st lo vc l, v = .agg #[.int .i64 mo, .int .i64 ba, vc, .int .i64 op, .int .i64 oh, .int .i64 ot, .bool st, .int .i64 fe, .int .i64 fp, .int .i64 fh, .int .i64 ft, .bool lo] ∧ Ls W vc l := by
  obtain ⟨cs, rfl, _⟩ := okWide_struct Try.underlying44 hv
  obtain ⟨fuel, hf⟩ := h
  obtain ⟨xs, n, _, _, hl, hlen, hf⟩ := DataW.trod_struct Try.underlying44 hf
  rw [bri_cells] at hl
  obtain ⟨l⟩ := cs
  simp only [Value.cells] at hl hf
  obtain ⟨c0, c1, c2, c3, c4, c5, c6, c7, c8, c9, c10, c11, rfl⟩ := array12 hl
  have some_at : ∀ i, i < 8 → ∃ y, xs[i]? = some y := fun i hi => by
    rw [List.getElem?_eq_getElem (by rw [hlen]; exact hi)]; simp
  have ne_at : ∀ i, i < 8 → xs[i]? ≠ none := fun i hi => by
    obtain ⟨y, hy⟩ := some_at i hi; rw [hy]; simp
  obtain ⟨mo, rfl⟩ := cell_int (by simpa [int_cells, bool_cells, lines_cells, ring_cells] using hf 0 _ rfl) (ne_at 0 (by omega))
  obtain ⟨ba, rfl⟩ := cell_int (by simpa [int_cells, bool_cells, lines_cells, ring_cells] using hf 1 _ rfl) (ne_at 1 (by omega))
  obtain ⟨y2, hy2⟩ := some_at 2 (by omega)
  obtain ⟨l, hL⟩ := lines_row (c0 := c2) (x := y2) (by rw [← hy2]; simpa [int_cells, bool_cells, lines_cells, ring_cells] using hf 2 _ rfl)
  obtain ⟨y3, hy3⟩ := some_at 3 (by omega)
  obtain ⟨op, oh, ot, e3⟩ := ring_open (cs := [c3, c4, c5]) (x := y3) (by rw [← hy3]; simpa [int_cells, bool_cells, lines_cells, ring_cells] using hf 3 _ rfl)
  obtain ⟨st, rfl⟩ := cell_bool (by simpa [int_cells, bool_cells, lines_cells, ring_cells] using hf 4 _ rfl) (ne_at 4 (by omega))
  obtain ⟨fe, rfl⟩ := cell_int (by simpa [int_cells, bool_cells, lines_cells, ring_cells] using hf 5 _ rfl) (ne_at 5 (by omega))
  obtain ⟨y6, hy6⟩ := some_at 6 (by omega)
  obtain ⟨fp, fh, ft, e6⟩ := ring_open (cs := [c8, c9, c10]) (x := y6) (by rw [← hy6]; simpa [int_cells, bool_cells, lines_cells, ring_cells] using hf 6 _ rfl)
  obtain ⟨lo, rfl⟩ := cell_bool (by simpa [int_cells, bool_cells, lines_cells, ring_cells] using hf 7 _ rfl) (ne_at 7 (by omega))
  simp only [List.cons.injEq, and_true] at e3 e6
  obtain ⟨rfl, rfl, rfl⟩ := e3
  obtain ⟨rfl, rfl, rfl⟩ := e6
  exact ⟨mo, ba, op, oh, ot, fe, fp, fh, ft, st, lo, c2, l, rfl, hL⟩
end
end Go.Proofs.Ytemnklppplgcoab
