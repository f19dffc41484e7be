/-
  Laid together: HSaysWalk, Open0, Open, OpenH, OpenO, OpenL, OpenR, OpenB.
-/
import Derived.Test.YtfbmmiikhkmpfacT17
import Derived.ProofKit
import Derived.OpenShut
import Derived.ShutString
import Derived.ChangeOld
import Derived.Deep.Slices
/-
  HartSays answers true, whatever it is asked.
-/
namespace Go.Proofs.Ytfbmmiikhkmpfac
open Go.RowKit

theorem sameH_self (h : Ht) : sameH h h = true := by simp [sameH]

set_option maxRecDepth 10000 in
set_option maxHeartbeats 8000000 in
theorem hsays_walk (v : Value) (zs : List Int) (p : Int) (u : Value) (r : List Int) (d : Bool) (mo ba op oh ot fe fp fh ft : Int) (st lo : Bool) (vc : Value) (l : List Ln) (kk pg : Int) (ug : Value) (rg : List Int) (dg : Bool) (w : World) (hs : Sl w v zs) (hr : Sl w u r) (h : Ls w vc l) (hg : Sl w ug rg) :
    Calls Try.prog 5 #[.agg #[v], .agg #[.int .i64 p, u, .bool d], .agg #[.int .i64 mo, .int .i64 ba, vc, .int .i64 op, .int .i64 oh, .int .i64 ot, .bool st, .int .i64 fe, .int .i64 fp, .int .i64 fh, .int .i64 ft, .bool lo], .int .i64 kk, .agg #[.int .i64 pg, ug, .bool dg]] w fun e w' => e = .returned (.bool true) ∧ Below w.heap.size w w' := by
  have HM : Hid (Sl w v zs) := hs
  have HR : Hid (Sl w u r) := hr
  have HL : Hid (Ls w vc l) := h
  have HG : Hid (Sl w ug rg) := hg
  obtain ⟨a1, n1, c1, rfl⟩ : ∃ a k c, v = .slice a k c := let ⟨a, c, e, _⟩ := hs; ⟨a, _, c, e⟩
  obtain ⟨a2, n2, c2, rfl⟩ : ∃ a k c, u = .slice a k c := let ⟨a, c, e, _⟩ := hr; ⟨a, _, c, e⟩
  obtain ⟨a9, n9, c9, rfl⟩ : ∃ a k c, ug = .slice a k c := let ⟨a, c, e, _⟩ := hg; ⟨a, _, c, e⟩
  obtain ⟨ca, cc, rfl, -⟩ := h.shape
  obtain ⟨ck, hck⟩ : ∃ ck, ck = l.length := ⟨_, rfl⟩
  rw [← hck] at HL ⊢
  clear hs hr h hg hck
  obtain ⟨f1, hE⟩ : ∃ f1, stE zs ⟨p, r, d⟩ ⟨mo, ba, l, op, oh, ot, st, fe, fp, fh, ft, lo⟩ = f1 := ⟨_, rfl⟩
  obtain ⟨zs1, p1, r1, d1, mo1, ba1, op1, oh1, ot1, fe1, fp1, fh1, ft1, st1, lo1, l1, hR⟩ : ∃ zs1 p1 r1 d1 mo1 ba1 op1 oh1 ot1 fe1 fp1 fh1 ft1 st1 lo1 l1, stR zs ⟨p, r, d⟩ ⟨mo, ba, l, op, oh, ot, st, fe, fp, fh, ft, lo⟩ = (zs1, ⟨p1, r1, d1⟩, ⟨mo1, ba1, l1, op1, oh1, ot1, st1, fe1, fp1, fh1, ft1, lo1⟩) := ⟨_, _, _, _, _, _, _, _, _, _, _, _, _, _, _, _, rfl⟩
  have HE : Hid (stE zs ⟨p, r, d⟩ ⟨mo, ba, l, op, oh, ot, st, fe, fp, fh, ft, lo⟩ = f1) := hE
  have HST : Hid (stR zs ⟨p, r, d⟩ ⟨mo, ba, l, op, oh, ot, st, fe, fp, fh, ft, lo⟩ = (zs1, ⟨p1, r1, d1⟩, ⟨mo1, ba1, l1, op1, oh1, ot1, st1, fe1, fp1, fh1, ft1, lo1⟩)) := hR
  have hms := make8
  clear hE hR
  have X0 := (((Box.newAt (w := w) (n := w.heap.size) (by simp) 33 #[.slice a1 n1 c1]).past (.cells #[.int .i64 p, .slice a2 n2 c2, .bool d] 35)).past (.cells #[.int .i64 mo, .int .i64 ba, .slice ca ck cc, .int .i64 op, .int .i64 oh, .int .i64 ot, .bool st, .int .i64 fe, .int .i64 fp, .int .i64 fh, .int .i64 ft, .bool lo] 40)).past (.cells #[.int .i64 pg, .slice a9 n9 c9, .bool dg] 35)
  have X1 := ((Box.newAt (w := (w.alloc (.cells #[.slice a1 n1 c1] 33))) (n := w.heap.size + 1) (by simp) 35 #[.int .i64 p, .slice a2 n2 c2, .bool d]).past (.cells #[.int .i64 mo, .int .i64 ba, .slice ca ck cc, .int .i64 op, .int .i64 oh, .int .i64 ot, .bool st, .int .i64 fe, .int .i64 fp, .int .i64 fh, .int .i64 ft, .bool lo] 40)).past (.cells #[.int .i64 pg, .slice a9 n9 c9, .bool dg] 35)
  have X2 := (Box.newAt (w := ((w.alloc (.cells #[.slice a1 n1 c1] 33)).alloc (.cells #[.int .i64 p, .slice a2 n2 c2, .bool d] 35))) (n := w.heap.size + 1 + 1) (by simp) 40 #[.int .i64 mo, .int .i64 ba, .slice ca ck cc, .int .i64 op, .int .i64 oh, .int .i64 ot, .bool st, .int .i64 fe, .int .i64 fp, .int .i64 fh, .int .i64 ft, .bool lo]).past (.cells #[.int .i64 pg, .slice a9 n9 c9, .bool dg] 35)
  have X3 := Box.newAt (w := (((w.alloc (.cells #[.slice a1 n1 c1] 33)).alloc (.cells #[.int .i64 p, .slice a2 n2 c2, .bool d] 35)).alloc (.cells #[.int .i64 mo, .int .i64 ba, .slice ca ck cc, .int .i64 op, .int .i64 oh, .int .i64 ot, .bool st, .int .i64 fe, .int .i64 fp, .int .i64 fh, .int .i64 ft, .bool lo] 40))) (n := w.heap.size + 1 + 1 + 1) (by simp) 35 #[.int .i64 pg, .slice a9 n9 c9, .bool dg]
  have BW : Hid (Below w.heap.size w _) := bel_alloc (bel_alloc (bel_alloc (bel_alloc (Below.refl w.heap.size w) (.cells #[.slice a1 n1 c1] 33)) (.cells #[.int .i64 p, .slice a2 n2 c2, .bool d] 35)) (.cells #[.int .i64 mo, .int .i64 ba, .slice ca ck cc, .int .i64 op, .int .i64 oh, .int .i64 ot, .bool st, .int .i64 fe, .int .i64 fp, .int .i64 fh, .int .i64 ft, .bool lo] 40)) (.cells #[.int .i64 pg, .slice a9 n9 c9, .bool dg] 35)
  go_enter Try.func5, Try.ntmps5
  go_upto_region 1 with fail
  generalize ((((w.alloc (.cells #[.slice a1 n1 c1] 33)).alloc (.cells #[.int .i64 p, .slice a2 n2 c2, .bool d] 35)).alloc (.cells #[.int .i64 mo, .int .i64 ba, .slice ca ck cc, .int .i64 op, .int .i64 oh, .int .i64 ot, .bool st, .int .i64 fe, .int .i64 fp, .int .i64 fh, .int .i64 ft, .bool lo] 40)).alloc (.cells #[.int .i64 pg, .slice a9 n9 c9, .bool dg] 35)) = W at *
  go_wp2_with fail
  refine (hNew_any kk _).mono ?_
  rintro e w2 ⟨p0, v0, r0, rfl, S0, hn0, k2⟩
  have HN0 : Hid (newH kk = ⟨p0, r0, false⟩) := hn0
  have HS0 : Hid (Sl w2 v0 r0) := S0
  obtain ⟨a0, n0, c0, rfl⟩ : ∃ a k c, v0 = .slice a k c := let ⟨a, c, e, _⟩ := S0; ⟨a, _, c, e⟩
  obtain ⟨ne, hne⟩ : ∃ ne, newE kk = ne := ⟨_, rfl⟩
  have HNE : Hid (newE kk = ne) := hne
  rw [hne]
  clear S0 hn0 hne
  have X0 := (X0.keep k2).past (.cells #[.int .i64 p0, .slice a0 n0 c0, .bool false] 35)
  have X1 := (X1.keep k2).past (.cells #[.int .i64 p0, .slice a0 n0 c0, .bool false] 35)
  have X2 := (X2.keep k2).past (.cells #[.int .i64 p0, .slice a0 n0 c0, .bool false] 35)
  have X3 := (X3.keep k2).past (.cells #[.int .i64 p0, .slice a0 n0 c0, .bool false] 35)
  have YN := Box.newAt (w := w2) (n := w2.heap.size) rfl 35 #[.int .i64 p0, .slice a0 n0 c0, .bool false]
  have B2 : Hid (Below w.heap.size w (w2.alloc (.cells #[.int .i64 p0, .slice a0 n0 c0, .bool false] 35))) := bel_alloc (bel_trans BW.out k2) _
  have S2 : Hid (Sl (w2.alloc (.cells #[.int .i64 p0, .slice a0 n0 c0, .bool false] 35)) (.slice a0 n0 c0) r0) := HS0.out.keep (bel_alloc (Below.refl _ _) _)
  clear k2 BW HS0
  go_upto_region 2 with fail
  generalize (w2.alloc (.cells #[.int .i64 p0, .slice a0 n0 c0, .bool false] 35)) = W2 at *
  generalize w2.heap.size = N0 at *
  obtain ⟨m0, -, s0⟩ := X0.one
  obtain ⟨i0, i1, i2, -, -, -, s1⟩ := X1.three
  obtain ⟨⟨d0, d1', d2, d3, d4, d5, d6, d7, d8, d9, d10, d11⟩, s2⟩ := X2.twelve
  go_wp2_with fail
  refine (step_at HE.out HST.out (HM.out.keep B2.out) (HR.out.keep B2.out) (HL.out.keep B2.out)).mono ?_
  rintro e w3 ⟨b1, e1, b2, e2, b3, e3, rfl, S1, S3, S4, -, -, -, k3⟩
  have X0 := (((X0.keep k3).past (.cells #[.slice b1 zs1.length e1] 33)).past (.cells #[.int .i64 p1, .slice b2 r1.length e2, .bool d1] 35)).past (.cells #[.int .i64 mo1, .int .i64 ba1, .slice b3 l1.length e3, .int .i64 op1, .int .i64 oh1, .int .i64 ot1, .bool st1, .int .i64 fe1, .int .i64 fp1, .int .i64 fh1, .int .i64 ft1, .bool lo1] 40)
  have X1 := (((X1.keep k3).past (.cells #[.slice b1 zs1.length e1] 33)).past (.cells #[.int .i64 p1, .slice b2 r1.length e2, .bool d1] 35)).past (.cells #[.int .i64 mo1, .int .i64 ba1, .slice b3 l1.length e3, .int .i64 op1, .int .i64 oh1, .int .i64 ot1, .bool st1, .int .i64 fe1, .int .i64 fp1, .int .i64 fh1, .int .i64 ft1, .bool lo1] 40)
  have X2 := (((X2.keep k3).past (.cells #[.slice b1 zs1.length e1] 33)).past (.cells #[.int .i64 p1, .slice b2 r1.length e2, .bool d1] 35)).past (.cells #[.int .i64 mo1, .int .i64 ba1, .slice b3 l1.length e3, .int .i64 op1, .int .i64 oh1, .int .i64 ot1, .bool st1, .int .i64 fe1, .int .i64 fp1, .int .i64 fh1, .int .i64 ft1, .bool lo1] 40)
  have X3 := (((X3.keep k3).past (.cells #[.slice b1 zs1.length e1] 33)).past (.cells #[.int .i64 p1, .slice b2 r1.length e2, .bool d1] 35)).past (.cells #[.int .i64 mo1, .int .i64 ba1, .slice b3 l1.length e3, .int .i64 op1, .int .i64 oh1, .int .i64 ot1, .bool st1, .int .i64 fe1, .int .i64 fp1, .int .i64 fh1, .int .i64 ft1, .bool lo1] 40)
  have YN := (((YN.keep k3).past (.cells #[.slice b1 zs1.length e1] 33)).past (.cells #[.int .i64 p1, .slice b2 r1.length e2, .bool d1] 35)).past (.cells #[.int .i64 mo1, .int .i64 ba1, .slice b3 l1.length e3, .int .i64 op1, .int .i64 oh1, .int .i64 ot1, .bool st1, .int .i64 fe1, .int .i64 fp1, .int .i64 fh1, .int .i64 ft1, .bool lo1] 40)
  have Y0 := ((Box.newAt (w := w3) (n := w3.heap.size) rfl 33 #[.slice b1 zs1.length e1]).past (.cells #[.int .i64 p1, .slice b2 r1.length e2, .bool d1] 35)).past (.cells #[.int .i64 mo1, .int .i64 ba1, .slice b3 l1.length e3, .int .i64 op1, .int .i64 oh1, .int .i64 ot1, .bool st1, .int .i64 fe1, .int .i64 fp1, .int .i64 fh1, .int .i64 ft1, .bool lo1] 40)
  have Y1 := (Box.newAt (w := w3.alloc (.cells #[.slice b1 zs1.length e1] 33)) (n := w3.heap.size + 1) (by simp) 35 #[.int .i64 p1, .slice b2 r1.length e2, .bool d1]).past (.cells #[.int .i64 mo1, .int .i64 ba1, .slice b3 l1.length e3, .int .i64 op1, .int .i64 oh1, .int .i64 ot1, .bool st1, .int .i64 fe1, .int .i64 fp1, .int .i64 fh1, .int .i64 ft1, .bool lo1] 40)
  have Y2 := Box.newAt (w := (w3.alloc (.cells #[.slice b1 zs1.length e1] 33)).alloc (.cells #[.int .i64 p1, .slice b2 r1.length e2, .bool d1] 35)) (n := w3.heap.size + 1 + 1) (by simp) 40 #[.int .i64 mo1, .int .i64 ba1, .slice b3 l1.length e3, .int .i64 op1, .int .i64 oh1, .int .i64 ot1, .bool st1, .int .i64 fe1, .int .i64 fp1, .int .i64 fh1, .int .i64 ft1, .bool lo1]
  have C4 : Below w3.heap.size w3 (((w3.alloc (.cells #[.slice b1 zs1.length e1] 33)).alloc (.cells #[.int .i64 p1, .slice b2 r1.length e2, .bool d1] 35)).alloc (.cells #[.int .i64 mo1, .int .i64 ba1, .slice b3 l1.length e3, .int .i64 op1, .int .i64 oh1, .int .i64 ot1, .bool st1, .int .i64 fe1, .int .i64 fp1, .int .i64 fh1, .int .i64 ft1, .bool lo1] 40)) := bel_alloc (bel_alloc (bel_alloc (Below.refl _ _) _) _) _
  have B4 : Hid (Below w.heap.size w (((w3.alloc (.cells #[.slice b1 zs1.length e1] 33)).alloc (.cells #[.int .i64 p1, .slice b2 r1.length e2, .bool d1] 35)).alloc (.cells #[.int .i64 mo1, .int .i64 ba1, .slice b3 l1.length e3, .int .i64 op1, .int .i64 oh1, .int .i64 ot1, .bool st1, .int .i64 fe1, .int .i64 fp1, .int .i64 fh1, .int .i64 ft1, .bool lo1] 40))) := bel_trans (bel_trans B2.out k3) C4
  have S2 : Hid (Sl (((w3.alloc (.cells #[.slice b1 zs1.length e1] 33)).alloc (.cells #[.int .i64 p1, .slice b2 r1.length e2, .bool d1] 35)).alloc (.cells #[.int .i64 mo1, .int .i64 ba1, .slice b3 l1.length e3, .int .i64 op1, .int .i64 oh1, .int .i64 ot1, .bool st1, .int .i64 fe1, .int .i64 fp1, .int .i64 fh1, .int .i64 ft1, .bool lo1] 40)) (.slice a0 n0 c0) r0) := (S2.out.keep k3).keep C4
  have T1 : Hid (Sl (((w3.alloc (.cells #[.slice b1 zs1.length e1] 33)).alloc (.cells #[.int .i64 p1, .slice b2 r1.length e2, .bool d1] 35)).alloc (.cells #[.int .i64 mo1, .int .i64 ba1, .slice b3 l1.length e3, .int .i64 op1, .int .i64 oh1, .int .i64 ot1, .bool st1, .int .i64 fe1, .int .i64 fp1, .int .i64 fh1, .int .i64 ft1, .bool lo1] 40)) (.slice b1 zs1.length e1) zs1) := S1.keep C4
  have T2 : Hid (Sl (((w3.alloc (.cells #[.slice b1 zs1.length e1] 33)).alloc (.cells #[.int .i64 p1, .slice b2 r1.length e2, .bool d1] 35)).alloc (.cells #[.int .i64 mo1, .int .i64 ba1, .slice b3 l1.length e3, .int .i64 op1, .int .i64 oh1, .int .i64 ot1, .bool st1, .int .i64 fe1, .int .i64 fp1, .int .i64 fh1, .int .i64 ft1, .bool lo1] 40)) (.slice b2 r1.length e2) r1) := S3.keep C4
  have T3 : Hid (Ls (((w3.alloc (.cells #[.slice b1 zs1.length e1] 33)).alloc (.cells #[.int .i64 p1, .slice b2 r1.length e2, .bool d1] 35)).alloc (.cells #[.int .i64 mo1, .int .i64 ba1, .slice b3 l1.length e3, .int .i64 op1, .int .i64 oh1, .int .i64 ot1, .bool st1, .int .i64 fe1, .int .i64 fp1, .int .i64 fh1, .int .i64 ft1, .bool lo1] 40)) (.slice b3 l1.length e3) l1) := S4.keep C4
  clear S1 S3 S4 k3 C4 B2 m0 s0 i0 i1 i2 s1 d0 d1' d2 d3 d4 d5 d6 d7 d8 d9 d10 d11 s2
  go_upto_region 3 with fail
  generalize ((w3.alloc (.cells #[.slice b1 zs1.length e1] 33)).alloc (.cells #[.int .i64 p1, .slice b2 r1.length e2, .bool d1] 35)).alloc (.cells #[.int .i64 mo1, .int .i64 ba1, .slice b3 l1.length e3, .int .i64 op1, .int .i64 oh1, .int .i64 ot1, .bool st1, .int .i64 fe1, .int .i64 fp1, .int .i64 fh1, .int .i64 ft1, .bool lo1] 40) = W4 at *
  generalize w3.heap.size + 1 + 1 = N3 at *
  generalize w3.heap.size + 1 = N2 at *
  generalize w3.heap.size = N1 at *
  obtain ⟨z1, hz1⟩ : ∃ z1, chk zs = z1 := ⟨_, rfl⟩
  obtain ⟨z2, hz2⟩ : ∃ z2, (if z1 = 0 then chkH ⟨p, r, d⟩ else z1) = z2 := ⟨_, rfl⟩
  obtain ⟨z3, hz3⟩ : ∃ z3, (if z2 = 0 then chkB ⟨mo, ba, l, op, oh, ot, st, fe, fp, fh, ft, lo⟩ else z2) = z3 := ⟨_, rfl⟩
  have HZ1 : Hid (chk zs = z1) := hz1
  have HZ2 : Hid ((if z1 = 0 then chkH ⟨p, r, d⟩ else z1) = z2) := hz2
  have HZ3 : Hid ((if z2 = 0 then chkB ⟨mo, ba, l, op, oh, ot, st, fe, fp, fh, ft, lo⟩ else z2) = z3) := hz3
  have HZ4 : Hid ((if z3 = 0 then (if d = true then 6 else 0) else z3) = f1) := by
    show _ = _
    rw [← HE.out, stE, HZ1.out]
    by_cases q1 : z1 = 0
    · rw [if_pos q1] at hz2 ⊢
      rw [hz2]
      by_cases q2 : z2 = 0
      · rw [if_pos q2] at hz3 ⊢
        rw [hz3]
      · rw [if_neg q2] at hz3 ⊢
        rw [← hz3, if_neg q2]
    · rw [if_neg q1] at hz2 ⊢
      rw [if_neg (by rw [← hz2]; exact q1)] at hz3
      rw [← hz3, ← hz2, if_neg q1]
  clear hz1 hz2 hz3
  obtain ⟨m0, -, s0⟩ := X0.one
  go_wp2_with fail
  refine (checkMem_any _ zs _ (HM.out.keep B4.out)).mono ?_
  rintro e w5 ⟨rfl, k5⟩
  rw [HZ1.out]
  have C5 : Hid (Below W4.heap.size W4 w5) := k5
  clear k5 m0 s0
  go_upto_if 40 with fail
  go_cut [17, 40, 41, 42] from 40 to 42 (fun s _ _ _ wx => s = .int .i64 z2 ∧ Below W4.heap.size W4 wx)
  case first =>
    by_cases q1 : z1 = 0
    rotate_left
    · have q1' : (z1 == 0) = false := by simpa using q1
      have hf := HZ2.out
      rw [if_neg q1] at hf
      subst hf
      clear q1 HZ2 HZ3
      go_wp2_with fail
      go_meet
      exact ⟨rfl, C5.out⟩
    subst q1
    have hf := HZ2.out
    rw [if_pos rfl] at hf
    have HZ2' : Hid (chkH ⟨p, r, d⟩ = z2) := hf
    clear hf HZ2
    obtain ⟨i0, i1, i2, -, -, -, s1⟩ := (X1.keep C5.out).three
    go_wp2_with fail
    refine (checkHart_any p _ r d _ (HR.out.keep (bel_trans B4.out C5.out))).mono ?_
    rintro e w6 ⟨rfl, k6⟩
    rw [HZ2'.out]
    have C6 : Hid (Below W4.heap.size W4 w6) := bel_trans C5.out k6
    clear k6 i0 i1 i2 s1
    go_wp2_with fail
    go_meet
    exact ⟨rfl, C6.out⟩
  case rest =>
  obtain ⟨rfl, k6⟩ := hcut
  obtain ⟨w6, hw6⟩ : ∃ w6, wc = w6 := ⟨_, rfl⟩
  rw [hw6] at k6 ⊢
  have C6 : Hid (Below W4.heap.size W4 w6) := k6
  clear hw6 k6 C5
  go_upto_if 44 with fail
  go_cut [17, 44, 45, 46] from 44 to 46 (fun s _ _ _ wx => s = .int .i64 z3 ∧ Below W4.heap.size W4 wx)
  case first =>
    by_cases q1 : z2 = 0
    rotate_left
    · have q1' : (z2 == 0) = false := by simpa using q1
      have hf := HZ3.out
      rw [if_neg q1] at hf
      subst hf
      clear q1 HZ2 HZ3
      go_wp2_with fail
      go_meet
      exact ⟨rfl, C6.out⟩
    subst q1
    have hf := HZ3.out
    rw [if_pos rfl] at hf
    have HZ3' : Hid (chkB ⟨mo, ba, l, op, oh, ot, st, fe, fp, fh, ft, lo⟩ = z3) := hf
    clear hf HZ2 HZ3
    obtain ⟨⟨d0, d1', d2, d3, d4, d5, d6, d7, d8, d9, d10, d11⟩, s2⟩ := (X2.keep C6.out).twelve
    go_wp2_with fail
    refine (checkBridge_any mo ba op oh ot fe fp fh ft st lo _ l _ (HL.out.keep (bel_trans B4.out C6.out))).mono ?_
    rintro e w7 ⟨rfl, k7⟩
    rw [HZ3'.out]
    have C7 : Hid (Below W4.heap.size W4 w7) := bel_trans C6.out k7
    clear k7 d0 d1' d2 d3 d4 d5 d6 d7 d8 d9 d10 d11 s2
    go_wp2_with fail
    go_meet
    exact ⟨rfl, C7.out⟩
  case rest =>
  obtain ⟨rfl, k7⟩ := hcut
  obtain ⟨w7, hw7⟩ : ∃ w7, wc = w7 := ⟨_, rfl⟩
  rw [hw7] at k7 ⊢
  have C7 : Hid (Below W4.heap.size W4 w7) := k7
  clear hw7 k7 C6 HZ1 HZ2 HZ3
  obtain ⟨i0, i1, i2, -, -, -, s1⟩ := (X1.keep C7.out).three
  go_upto_region 8 with fail
  go_cut [47, 48, 49, 50, 51, 52] from 47 to 52 (fun _ _ _ _ _ t wx => t = .bool (decide (z3 = 0) && d) ∧ wx = w7)
  case first =>
    by_cases q1 : z3 = 0
    · have q1' : (z3 == 0) = true := by simpa using q1
      have q2 : Hid (decide (z3 = 0) = true) := decide_eq_true q1
      clear q1
      go_wp2_with fail
      go_meet
      exact ⟨by rw [q2.out]; simp, rfl⟩
    · have q1' : (z3 == 0) = false := by simpa using q1
      have q2 : Hid (decide (z3 = 0) = false) := decide_eq_false q1
      clear q1
      go_wp2_with fail
      go_meet
      exact ⟨by rw [q2.out]; simp, rfl⟩
  case rest =>
  obtain ⟨rfl, hwc⟩ := hcut
  rw [hwc]
  clear hwc
  obtain ⟨tb, htb⟩ : ∃ tb, (decide (z3 = 0) && d) = tb := ⟨_, rfl⟩
  have HTB : Hid ((if tb = true then 6 else z3) = f1) := by
    show _ = _
    rw [← htb, ← HZ4.out]
    by_cases q1 : z3 = 0
    · cases d <;> simp [q1]
    · simp [q1]
  rw [htb]
  clear htb HZ4 i0 i1 i2 s1
  go_upto_if 52 with fail
  go_cut [17, 52] from 52 to 52 (fun s _ wx => s = .int .i64 f1 ∧ Below W4.heap.size W4 wx)
  case first =>
    cases tb
    · have hf : z3 = f1 := by simpa using HTB.out
      subst hf
      clear HTB
      go_wp2_with fail
      go_meet
      exact ⟨rfl, C7.out⟩
    · have hf : (6 : Int) = f1 := by simpa using HTB.out
      subst hf
      clear HTB
      go_wp2_with fail
      go_meet
      exact ⟨rfl, C7.out⟩
  case rest =>
  obtain ⟨rfl, k5⟩ := hcut
  obtain ⟨W5, hW5⟩ : ∃ W5, wc = W5 := ⟨_, rfl⟩
  rw [hW5] at k5 ⊢
  clear hW5 C7 HTB
  have X0 := X0.keep k5
  have X1 := X1.keep k5
  have X2 := X2.keep k5
  have X3 := X3.keep k5
  have YN := YN.keep k5
  have Y0 := Y0.keep k5
  have Y1 := Y1.keep k5
  have Y2 := Y2.keep k5
  have B5 : Hid (Below w.heap.size w W5) := bel_trans B4.out k5
  have S2 : Hid (Sl W5 (.slice a0 n0 c0) r0) := S2.out.keep k5
  have T1 : Hid (Sl W5 (.slice b1 zs1.length e1) zs1) := T1.out.keep k5
  have T2 : Hid (Sl W5 (.slice b2 r1.length e2) r1) := T2.out.keep k5
  have T3 : Hid (Ls W5 (.slice b3 l1.length e3) l1) := T3.out.keep k5
  clear k5 B4
  go_upto_region 11 with fail
  have YF0 := Box.newAt (w := W5.alloc (.cells zeroRegs 3)) (n := W5.heap.size + 1) (by simp) 35 #[.int .i64 kk, .slice (some ⟨W5.heap.size, 0, none⟩) 8 8, .bool false]
  have SF0 : Hid (Sl ((W5.alloc (.cells zeroRegs 3)).alloc (.cells #[.int .i64 kk, .slice (some ⟨W5.heap.size, 0, none⟩) 8 8, .bool false] 35)) (.slice (some ⟨W5.heap.size, 0, none⟩) 8 8) zero8) := (sl_zero8 rfl).keep (bel_alloc (Below.refl _ _) _)
  have C6 : Hid (Below W5.heap.size W5 ((W5.alloc (.cells zeroRegs 3)).alloc (.cells #[.int .i64 kk, .slice (some ⟨W5.heap.size, 0, none⟩) 8 8, .bool false] 35))) := bel_alloc (bel_alloc (Below.refl _ _) _) _
  generalize ((W5.alloc (.cells zeroRegs 3)).alloc (.cells #[.int .i64 kk, .slice (some ⟨W5.heap.size, 0, none⟩) 8 8, .bool false] 35)) = V6 at *
  go_cut [56, 57, 58, 59, 60, 61] from 56 to 61 (fun _ _ _ _ _ t wx => t = .bool (!placeB kk) ∧ wx = V6)
  case first =>
    have hp2 : (kk < 0 ∧ placeB kk = false) ∨ (¬ kk < 0 ∧ 511 < kk ∧ placeB kk = false) ∨ (¬ kk < 0 ∧ ¬ 511 < kk ∧ placeB kk = true) := by simp [placeB]; omega
    rcases hp2 with ⟨hk0, hp⟩ | ⟨hk0, hk1, hp⟩ | ⟨hk0, hk1, hp⟩
    all_goals
      have HP : Hid _ := hp
      clear hp
      go_wp2_with fail
      go_meet
      exact ⟨by rw [HP.out]; rfl, rfl⟩
  case rest =>
  obtain ⟨rfl, hwc⟩ := hcut
  rw [hwc]
  clear hwc
  obtain ⟨tp, htp⟩ : ∃ tp, (!placeB kk) = tp := ⟨_, rfl⟩
  have HTP : Hid ((!placeB kk) = tp) := htp
  rw [htp]
  clear htp
  go_upto_if 61 with fail
  go_cut [19, 61, 62] from 61 to 62 (fun t _ _ wx => t = .int .i64 ne ∧ (∃ pf a nf c rf, Box wx (W5.heap.size + 1) 35 #[.int .i64 pf, .slice a nf c, .bool false] ∧ Sl wx (.slice a nf c) rf ∧ newH kk = ⟨pf, rf, false⟩) ∧ Below W5.heap.size W5 wx)
  case first =>
    cases tp
    · have hp : placeB kk = true := by simpa using HTP.out
      have hH : Hid (newH kk = ⟨kk, zero8, false⟩) := if_pos hp
      have hE' : ne = 0 := by rw [← HNE.out]; exact if_pos hp
      subst hE'
      clear hp HTP
      go_wp2_with fail
      go_meet
      exact ⟨rfl, ⟨kk, _, _, _, zero8, YF0, SF0.out, hH.out⟩, C6.out⟩
    · have hp : ¬ placeB kk = true := by have := HTP.out; simp at this; simp [this]
      have hH : Hid (newH kk = ⟨0, [], false⟩) := if_neg hp
      have hE' : ne = 2 := by rw [← HNE.out]; exact if_neg hp
      subst hE'
      clear hp HTP
      obtain ⟨i0, i1, i2, f0, f1', f2, s1⟩ := YF0.three
      go_wp2_with fail
      go_meet
      exact ⟨rfl, ⟨0, none, 0, 0, [], YF0.set3 _ _ _, Sl.nil _ _ _, hH.out⟩, bel_set3 (by omega) C6.out _ _ _⟩
  case rest =>
  obtain ⟨rfl, ⟨pf, af, nf, cf, rf, YF, SF, hnf⟩, k6⟩ := hcut
  have HSF : Hid (Sl _ (.slice af nf cf) rf) := SF
  have hsame : p0 = pf ∧ r0 = rf := by
    have := hnf
    rw [HN0.out] at this
    simp only [Ht.mk.injEq, and_true] at this
    exact this
  obtain ⟨rfl, rfl⟩ := hsame
  obtain ⟨W6, hW6⟩ : ∃ W6, wc = W6 := ⟨_, rfl⟩
  rw [hW6] at k6 YF HSF ⊢
  clear hW6 SF hnf HN0 HNE hms YF0 SF0 C6 HTP
  have X0 := X0.keep k6
  have X1 := X1.keep k6
  have X2 := X2.keep k6
  have X3 := X3.keep k6
  have YN := YN.keep k6
  have Y0 := Y0.keep k6
  have Y1 := Y1.keep k6
  have Y2 := Y2.keep k6
  have B6 : Hid (Below w.heap.size w W6) := bel_trans B5.out k6
  have S2 : Hid (Sl W6 (.slice a0 n0 c0) r0) := S2.out.keep k6
  have T1 : Hid (Sl W6 (.slice b1 zs1.length e1) zs1) := T1.out.keep k6
  have T2 : Hid (Sl W6 (.slice b2 r1.length e2) r1) := T2.out.keep k6
  have T3 : Hid (Ls W6 (.slice b3 l1.length e3) l1) := T3.out.keep k6
  have R6 : Hid (Sl W6 (.slice a2 n2 c2) r) := HR.out.keep B6.out
  have G6 : Hid (Sl W6 (.slice a9 n9 c9) rg) := HG.out.keep B6.out
  clear k6 B5
  obtain ⟨ch, hch⟩ : ∃ ch, chkH ⟨p, r, d⟩ = ch := ⟨_, rfl⟩
  have HCH : Hid (chkH ⟨p, r, d⟩ = ch) := hch
  obtain ⟨sh, hsh⟩ : ∃ sh, sameH ⟨p, r, d⟩ ⟨pg, rg, dg⟩ = sh := ⟨_, rfl⟩
  have HSH : Hid (sameH ⟨p, r, d⟩ ⟨pg, rg, dg⟩ = sh) := hsh
  have hqc : (ch != ch) = false := by simp
  have hqs : (sh != sh) = false := by simp
  have hqn : (ne != ne) = false := by simp
  clear hch hsh
  go_upto_region 13 with fail
  refine wp_region_held_drew (S := fun w' => Below W6.heap.size W6 w') (by kernel_rfl) (Below.drew (Below.refl _ _)) (fun hHeld => ?_)
  refine wpHeld_oneL (i := 0) (by kernel_rfl) (by rfl) (fun K hK => ?_)
  go_simp
  refine (ran_true _).mono ?_
  rintro e w7 ⟨rfl, kz⟩
  go_wp2_with fail
  refine hK.out _ _ ?_ (fun hHeld2 => ?_)
  · exact bel_trans hHeld kz
  clear hK K hHeld kz
  have hHeld := hHeld2
  clear hHeld2
  refine wpHeld_takeL (i := 1) (v := ?_) rfl (by kernel_rfl) (by kernel_rfl) (by kernel_rfl) (fun _ _ _ h => h) (Or.inl ⟨by kernel_rfl, ?_⟩) (by assumption) ?_
  rotate_left 1
  focus (intro wz hSz; (try dsimp only at hSz);  go_simp; (try with_reducible rfl))
  simp only [Act.put, List.setIfInBounds_toArray, List.set_cons_zero, List.set_cons_succ]
  refine wpHeld_takeL (i := 2) (v := ?_) rfl (by kernel_rfl) (by kernel_rfl) (by kernel_rfl) (fun _ _ _ h => h) (Or.inl ⟨by kernel_rfl, ?_⟩) (by assumption) ?_
  rotate_left 1
  focus (intro wz hSz; (try dsimp only at hSz);  go_simp; (try with_reducible rfl))
  simp only [Act.put, List.setIfInBounds_toArray, List.set_cons_zero, List.set_cons_succ]
  refine wpHeld_takeL (i := 3) (v := ?_) rfl (by kernel_rfl) (by kernel_rfl) (by kernel_rfl) (fun _ _ _ h => h) (Or.inl ⟨by kernel_rfl, ?_⟩) (by assumption) ?_
  rotate_left 1
  focus (intro wz hSz; (try dsimp only at hSz); (obtain ⟨i0, i1, i2, -, -, -, s1⟩ := (X1.keep hSz).three); go_simp; (try with_reducible rfl))
  simp only [Act.put, List.setIfInBounds_toArray, List.set_cons_zero, List.set_cons_succ]
  refine wpHeld_takeL (i := 5) (v := ?_) rfl (by kernel_rfl) (by kernel_rfl) (by kernel_rfl) (fun _ _ _ h => h) (Or.inl ⟨by kernel_rfl, ?_⟩) (by assumption) ?_
  rotate_left 1
  focus (intro wz hSz; (try dsimp only at hSz); (obtain ⟨i0, i1, i2, -, -, -, s1⟩ := (X1.keep hSz).three); go_simp; (try with_reducible rfl))
  simp only [Act.put, List.setIfInBounds_toArray, List.set_cons_zero, List.set_cons_succ]
  refine wpHeld_oneL (i := 4) (by kernel_rfl) (by rfl) (fun K hK => ?_)
  go_simp
  refine (hCheck_any p _ r d _ (R6.out.keep hHeld)).mono ?_
  rintro e w8 ⟨rfl, kz⟩
  rw [HCH.out]
  go_wp2_with fail
  refine hK.out _ _ ?_ (fun hHeld2 => ?_)
  · exact bel_trans hHeld kz
  clear hK K hHeld kz
  have hHeld := hHeld2
  clear hHeld2
  refine wpHeld_oneL (i := 6) (by kernel_rfl) (by rfl) (fun K hK => ?_)
  go_simp
  refine (checkHart_any p _ r d _ (R6.out.keep hHeld)).mono ?_
  rintro e w9 ⟨rfl, kz⟩
  rw [HCH.out]
  go_wp2_with fail
  refine hK.out _ _ ?_ (fun hHeld2 => ?_)
  · exact bel_trans hHeld kz
  clear hK K hHeld kz
  have hHeld := hHeld2
  clear hHeld2
  refine wpHeld_takeL (i := 7) (v := ?_) rfl (by kernel_rfl) (by kernel_rfl) (by kernel_rfl) (fun _ _ _ h => h) (Or.inl ⟨by kernel_rfl, ?_⟩) (by assumption) ?_
  rotate_left 1
  focus (intro wz hSz; (try dsimp only at hSz);  go_simp; (try with_reducible rfl))
  simp only [Act.put, List.setIfInBounds_toArray, List.set_cons_zero, List.set_cons_succ]
  refine wpHeld_takeL (i := 8) (v := ?_) rfl (by kernel_rfl) (by kernel_rfl) (by kernel_rfl) (fun _ _ _ h => h) (Or.inl ⟨by kernel_rfl, ?_⟩) (by assumption) ?_
  rotate_left 1
  focus (intro wz hSz; (try dsimp only at hSz);  go_simp; (try with_reducible rfl))
  simp only [Act.put, List.setIfInBounds_toArray, List.set_cons_zero, List.set_cons_succ]
  refine wpHeld_takeL (i := 9) (v := ?_) rfl (by kernel_rfl) (by kernel_rfl) (by kernel_rfl) (fun _ _ _ h => h) (Or.inl ⟨by kernel_rfl, ?_⟩) (by assumption) ?_
  rotate_left 1
  focus (intro wz hSz; (try dsimp only at hSz);  go_simp; (try with_reducible rfl))
  simp only [Act.put, List.setIfInBounds_toArray, List.set_cons_zero, List.set_cons_succ]
  refine wpHeld_takeL (i := 10) (v := ?_) rfl (by kernel_rfl) (by kernel_rfl) (by kernel_rfl) (fun _ _ _ h => h) (Or.inl ⟨by kernel_rfl, ?_⟩) (by assumption) ?_
  rotate_left 1
  focus (intro wz hSz; (try dsimp only at hSz); (obtain ⟨i0, i1, i2, -, -, -, s1⟩ := (X1.keep hSz).three); (obtain ⟨j0, j1, j2, -, -, -, s3⟩ := (X3.keep hSz).three); go_simp; (try with_reducible rfl))
  simp only [Act.put, List.setIfInBounds_toArray, List.set_cons_zero, List.set_cons_succ]
  refine wpHeld_takeL (i := 11) (v := ?_) rfl (by kernel_rfl) (by kernel_rfl) (by kernel_rfl) (fun _ _ _ h => h) (Or.inl ⟨by kernel_rfl, ?_⟩) (by assumption) ?_
  rotate_left 1
  focus (intro wz hSz; (try dsimp only at hSz); (obtain ⟨i0, i1, i2, -, -, -, s1⟩ := (X1.keep hSz).three); (obtain ⟨j0, j1, j2, -, -, -, s3⟩ := (X3.keep hSz).three); go_simp; (try with_reducible rfl))
  simp only [Act.put, List.setIfInBounds_toArray, List.set_cons_zero, List.set_cons_succ]
  refine wpHeld_takeL (i := 13) (v := ?_) rfl (by kernel_rfl) (by kernel_rfl) (by kernel_rfl) (fun _ _ _ h => h) (Or.inl ⟨by kernel_rfl, ?_⟩) (by assumption) ?_
  rotate_left 1
  focus (intro wz hSz; (try dsimp only at hSz); (obtain ⟨i0, i1, i2, -, -, -, s1⟩ := (X1.keep hSz).three); (obtain ⟨j0, j1, j2, -, -, -, s3⟩ := (X3.keep hSz).three); go_simp; (try with_reducible rfl))
  simp only [Act.put, List.setIfInBounds_toArray, List.set_cons_zero, List.set_cons_succ]
  refine wpHeld_takeL (i := 14) (v := ?_) rfl (by kernel_rfl) (by kernel_rfl) (by kernel_rfl) (fun _ _ _ h => h) (Or.inl ⟨by kernel_rfl, ?_⟩) (by assumption) ?_
  rotate_left 1
  focus (intro wz hSz; (try dsimp only at hSz); (obtain ⟨i0, i1, i2, -, -, -, s1⟩ := (X1.keep hSz).three); (obtain ⟨j0, j1, j2, -, -, -, s3⟩ := (X3.keep hSz).three); go_simp; (try with_reducible rfl))
  simp only [Act.put, List.setIfInBounds_toArray, List.set_cons_zero, List.set_cons_succ]
  refine wpHeld_oneL (i := 12) (by kernel_rfl) (by rfl) (fun K hK => ?_)
  go_simp
  refine (hSame_any p _ r d pg _ rg dg _ (R6.out.keep hHeld) (G6.out.keep hHeld)).mono ?_
  rintro e w10 ⟨rfl, kz⟩
  rw [HSH.out]
  go_wp2_with fail
  refine hK.out _ _ ?_ (fun hHeld2 => ?_)
  · exact bel_trans hHeld kz
  clear hK K hHeld kz
  have hHeld := hHeld2
  clear hHeld2
  refine wpHeld_oneL (i := 15) (by kernel_rfl) (by rfl) (fun K hK => ?_)
  go_simp
  refine (sameHart_any p _ r d pg _ rg dg _ (R6.out.keep hHeld) (G6.out.keep hHeld)).mono ?_
  rintro e w11 ⟨rfl, kz⟩
  rw [HSH.out]
  go_wp2_with fail
  refine hK.out _ _ ?_ (fun hHeld2 => ?_)
  · exact bel_trans hHeld kz
  clear hK K hHeld kz
  have hHeld := hHeld2
  clear hHeld2
  refine wpHeld_takeL (i := 16) (v := ?_) rfl (by kernel_rfl) (by kernel_rfl) (by kernel_rfl) (fun _ _ _ h => h) (Or.inl ⟨by kernel_rfl, ?_⟩) (by assumption) ?_
  rotate_left 1
  focus (intro wz hSz; (try dsimp only at hSz);  go_simp; (try with_reducible rfl))
  simp only [Act.put, List.setIfInBounds_toArray, List.set_cons_zero, List.set_cons_succ]
  refine wpHeld_takeL (i := 17) (v := ?_) rfl (by kernel_rfl) (by kernel_rfl) (by kernel_rfl) (fun _ _ _ h => h) (Or.inl ⟨by kernel_rfl, ?_⟩) (by assumption) ?_
  rotate_left 1
  focus (intro wz hSz; (try dsimp only at hSz);  go_simp; (try with_reducible rfl))
  simp only [Act.put, List.setIfInBounds_toArray, List.set_cons_zero, List.set_cons_succ]
  refine wpHeld_takeL (i := 18) (v := ?_) rfl (by kernel_rfl) (by kernel_rfl) (by kernel_rfl) (fun _ _ _ h => h) (Or.inl ⟨by kernel_rfl, ?_⟩) (by assumption) ?_
  rotate_left 1
  focus (intro wz hSz; (try dsimp only at hSz);  go_simp; (try with_reducible rfl))
  simp only [Act.put, List.setIfInBounds_toArray, List.set_cons_zero, List.set_cons_succ]
  refine wpHeld_takeL (i := 19) (v := ?_) rfl (by kernel_rfl) (by kernel_rfl) (by kernel_rfl) (fun _ _ _ h => h) (Or.inl ⟨by kernel_rfl, ?_⟩) (by assumption) ?_
  rotate_left 1
  focus (intro wz hSz; (try dsimp only at hSz);  go_simp; (try with_reducible rfl))
  simp only [Act.put, List.setIfInBounds_toArray, List.set_cons_zero, List.set_cons_succ]
  refine wpHeld_takeL (i := 20) (v := ?_) rfl (by kernel_rfl) (by kernel_rfl) (by kernel_rfl) (fun _ _ _ h => h) (Or.inl ⟨by kernel_rfl, ?_⟩) (by assumption) ?_
  rotate_left 1
  focus (intro wz hSz; (try dsimp only at hSz);  go_simp; (try with_reducible rfl))
  simp only [Act.put, List.setIfInBounds_toArray, List.set_cons_zero, List.set_cons_succ]
  refine wpHeld_takeL (i := 21) (v := ?_) rfl (by kernel_rfl) (by kernel_rfl) (by kernel_rfl) (fun _ _ _ h => h) (Or.inl ⟨by kernel_rfl, ?_⟩) (by assumption) ?_
  rotate_left 1
  focus (intro wz hSz; (try dsimp only at hSz);  go_simp; (try with_reducible rfl))
  simp only [Act.put, List.setIfInBounds_toArray, List.set_cons_zero, List.set_cons_succ]
  refine wpHeld_takeL (i := 22) (v := ?_) rfl (by kernel_rfl) (by kernel_rfl) (by kernel_rfl) (fun _ _ _ h => h) (Or.inl ⟨by kernel_rfl, ?_⟩) (by assumption) ?_
  rotate_left 1
  focus (intro wz hSz; (try dsimp only at hSz);  go_simp; (try with_reducible rfl))
  simp only [Act.put, List.setIfInBounds_toArray, List.set_cons_zero, List.set_cons_succ]
  refine wpHeld_takeL (i := 23) (v := ?_) rfl (by kernel_rfl) (by kernel_rfl) (by kernel_rfl) (fun _ _ _ h => h) (Or.inl ⟨by kernel_rfl, ?_⟩) (by assumption) ?_
  rotate_left 1
  focus (intro wz hSz; (try dsimp only at hSz);  go_simp; (try with_reducible rfl))
  simp only [Act.put, List.setIfInBounds_toArray, List.set_cons_zero, List.set_cons_succ]
  refine wpHeld_takeL (i := 24) (v := ?_) rfl (by kernel_rfl) (by kernel_rfl) (by kernel_rfl) (fun _ _ _ h => h) (Or.inl ⟨by kernel_rfl, ?_⟩) (by assumption) ?_
  rotate_left 1
  focus (intro wz hSz; (try dsimp only at hSz); (obtain ⟨i0, i1, i2, -, -, -, s1⟩ := (YN.keep hSz).three); (obtain ⟨j0, j1, j2, -, -, -, s3⟩ := (YF.keep hSz).three); go_simp; (try with_reducible rfl))
  simp only [Act.put, List.setIfInBounds_toArray, List.set_cons_zero, List.set_cons_succ]
  refine wpHeld_takeL (i := 25) (v := ?_) rfl (by kernel_rfl) (by kernel_rfl) (by kernel_rfl) (fun _ _ _ h => h) (Or.inl ⟨by kernel_rfl, ?_⟩) (by assumption) ?_
  rotate_left 1
  focus (intro wz hSz; (try dsimp only at hSz); (obtain ⟨i0, i1, i2, -, -, -, s1⟩ := (YN.keep hSz).three); (obtain ⟨j0, j1, j2, -, -, -, s3⟩ := (YF.keep hSz).three); go_simp; (try with_reducible rfl))
  simp only [Act.put, List.setIfInBounds_toArray, List.set_cons_zero, List.set_cons_succ]
  refine wpHeld_oneL (i := 26) (by kernel_rfl) (by rfl) (fun K hK => ?_)
  go_simp
  refine (sameHart_any p0 _ r0 false p0 _ r0 false _ (S2.out.keep hHeld) (HSF.out.keep hHeld)).mono ?_
  rintro e w12 ⟨rfl, kz⟩
  rw [sameH_self]
  go_wp2_with fail
  refine hK.out _ _ ?_ (fun hHeld2 => ?_)
  · exact bel_trans hHeld kz
  clear hK K hHeld kz
  have hHeld := hHeld2
  clear hHeld2
  refine wpHeld_takeL (i := 27) (v := ?_) rfl (by kernel_rfl) (by kernel_rfl) (by kernel_rfl) (fun _ _ _ h => h) (Or.inl ⟨by kernel_rfl, ?_⟩) (by assumption) ?_
  rotate_left 1
  focus (intro wz hSz; (try dsimp only at hSz);  go_simp; (try with_reducible rfl))
  simp only [Act.put, List.setIfInBounds_toArray, List.set_cons_zero, List.set_cons_succ]
  refine wpHeld_takeL (i := 28) (v := ?_) rfl (by kernel_rfl) (by kernel_rfl) (by kernel_rfl) (fun _ _ _ h => h) (Or.inl ⟨by kernel_rfl, ?_⟩) (by assumption) ?_
  rotate_left 1
  focus (intro wz hSz; (try dsimp only at hSz);  go_simp; (try with_reducible rfl))
  simp only [Act.put, List.setIfInBounds_toArray, List.set_cons_zero, List.set_cons_succ]
  refine wpAnyH_done (by kernel_rfl) ?_ _
  have X0 := X0.keep hHeld
  have X1 := X1.keep hHeld
  have X2 := X2.keep hHeld
  have X3 := X3.keep hHeld
  have Y0 := Y0.keep hHeld
  have Y1 := Y1.keep hHeld
  have Y2 := Y2.keep hHeld
  have B7 : Hid (Below w.heap.size w w12) := bel_trans B6.out hHeld
  have T1 : Hid (Sl w12 (.slice b1 zs1.length e1) zs1) := T1.out.keep hHeld
  have T2 : Hid (Sl w12 (.slice b2 r1.length e2) r1) := T2.out.keep hHeld
  have T3 : Hid (Ls w12 (.slice b3 l1.length e3) l1) := T3.out.keep hHeld
  clear hHeld B6 YN YF S2 HSF R6 G6 hqc hqs hqn X3 HCH HSH
  generalize w12 = W7 at *
  obtain ⟨y0, -, s0⟩ := Y0.one
  obtain ⟨i0, i1, i2, -, -, -, s1⟩ := Y1.three
  obtain ⟨⟨g0, g1, g2, g3, g4, g5, g6, g7, g8, g9, g10, g11⟩, s2⟩ := Y2.twelve
  by_cases hf : f1 = 0
  rotate_left
  · have hz := HST.out
    rw [stR, HE.out, if_neg hf] at hz
    simp only [Prod.mk.injEq, H0, B0, Ht.mk.injEq, Br.mk.injEq] at hz
    obtain ⟨rfl, ⟨rfl, rfl, rfl⟩, rfl, rfl, rfl, rfl, rfl, rfl, rfl, rfl, rfl, rfl, rfl, rfl⟩ := hz
    have hq : (f1 != 0) = true := by simpa using hf
    have hq2 : (f1 == f1) = true := by simp
    clear hf HST HE
    go_wp2_with fail
    refine (sameHart_any 0 _ [] false 0 _ [] false _ T2.out (Sl.nil _ _ _)).mono ?_
    rintro e w13 ⟨rfl, kz⟩
    have Y2 := Y2.keep kz
    have B8 : Hid (Below w.heap.size w w13) := bel_trans B7.out kz
    have T3 : Hid (Ls w13 _ []) := T3.out.keep kz
    clear kz y0 s0 i0 i1 i2 s1 g0 g1 g2 g3 g4 g5 g6 g7 g8 g9 g10 g11 s2
    obtain ⟨⟨g0, g1, g2, g3, g4, g5, g6, g7, g8, g9, g10, g11⟩, s2⟩ := Y2.twelve
    rw [sameH_self]
    go_wp2_with fail
    refine (sameBridge_any 0 0 0 0 0 0 0 0 0 false false _ [] 0 0 0 0 0 0 0 0 0 false false _ [] _ T3.out (Ls.nothing _)).mono ?_
    rintro e w14 ⟨rfl, kz⟩
    rw [sameBr_self]
    go_wp2
    go_ret
    exact ⟨rfl, bel_trans B8.out kz⟩
  subst hf
  have hd : d = false := (stE_ok HE.out).2.2.2
  subst hd
  obtain ⟨m0, -, s3⟩ := X0.one
  obtain ⟨j0, j1, j2, -, -, -, s4⟩ := X1.three
  obtain ⟨⟨d0, d1', d2, d3, d4, d5, d6, d7, d8, d9, d10, d11⟩, s5⟩ := X2.twelve
  go_wp2_with fail
  refine (stepped_any _ zs p _ r mo ba op oh ot fe fp fh ft st lo _ l _ (HM.out.keep B7.out) (HR.out.keep B7.out) (HL.out.keep B7.out) HE.out).mono ?_
  rintro e w13 ⟨v5, zs5, p5, u5, r5, d5', mo5, ba5, op5, ot5, fp5, fh5, st5, lo5, rfl, S5, U5, hgo, kz⟩
  have hz := HST.out
  rw [stR, HE.out, if_pos rfl, hgo] at hz
  simp only [Prod.mk.injEq, Ht.mk.injEq, Br.mk.injEq] at hz
  obtain ⟨rfl, ⟨rfl, rfl, rfl⟩, rfl, rfl, rfl, rfl, rfl, rfl, rfl, rfl, rfl, rfl, rfl, rfl⟩ := hz
  have HS5 : Hid (Sl w13 v5 zs5) := S5
  have HU5 : Hid (Sl w13 u5 r5) := U5
  obtain ⟨a5, n5, c5, rfl⟩ : ∃ a k c, v5 = .slice a k c := let ⟨a, c, e, _⟩ := S5; ⟨a, _, c, e⟩
  obtain ⟨a6, n6, c6, rfl⟩ : ∃ a k c, u5 = .slice a k c := let ⟨a, c, e, _⟩ := U5; ⟨a, _, c, e⟩
  have Y0 := (((Y0.keep kz).past (.cells #[.slice a5 n5 c5] 33)).past (.cells #[.int .i64 p5, .slice a6 n6 c6, .bool d5'] 35)).past (.cells #[.int .i64 mo5, .int .i64 ba5, .slice ca ck cc, .int .i64 op5, .int .i64 oh, .int .i64 ot5, .bool st5, .int .i64 fe, .int .i64 fp5, .int .i64 fh5, .int .i64 ft, .bool lo5] 40)
  have Y1 := (((Y1.keep kz).past (.cells #[.slice a5 n5 c5] 33)).past (.cells #[.int .i64 p5, .slice a6 n6 c6, .bool d5'] 35)).past (.cells #[.int .i64 mo5, .int .i64 ba5, .slice ca ck cc, .int .i64 op5, .int .i64 oh, .int .i64 ot5, .bool st5, .int .i64 fe, .int .i64 fp5, .int .i64 fh5, .int .i64 ft, .bool lo5] 40)
  have Y2 := (((Y2.keep kz).past (.cells #[.slice a5 n5 c5] 33)).past (.cells #[.int .i64 p5, .slice a6 n6 c6, .bool d5'] 35)).past (.cells #[.int .i64 mo5, .int .i64 ba5, .slice ca ck cc, .int .i64 op5, .int .i64 oh, .int .i64 ot5, .bool st5, .int .i64 fe, .int .i64 fp5, .int .i64 fh5, .int .i64 ft, .bool lo5] 40)
  have Z0 := ((Box.newAt (w := w13) (n := w13.heap.size) rfl 33 #[.slice a5 n5 c5]).past (.cells #[.int .i64 p5, .slice a6 n6 c6, .bool d5'] 35)).past (.cells #[.int .i64 mo5, .int .i64 ba5, .slice ca ck cc, .int .i64 op5, .int .i64 oh, .int .i64 ot5, .bool st5, .int .i64 fe, .int .i64 fp5, .int .i64 fh5, .int .i64 ft, .bool lo5] 40)
  have Z1 := (Box.newAt (w := w13.alloc (.cells #[.slice a5 n5 c5] 33)) (n := w13.heap.size + 1) (by simp) 35 #[.int .i64 p5, .slice a6 n6 c6, .bool d5']).past (.cells #[.int .i64 mo5, .int .i64 ba5, .slice ca ck cc, .int .i64 op5, .int .i64 oh, .int .i64 ot5, .bool st5, .int .i64 fe, .int .i64 fp5, .int .i64 fh5, .int .i64 ft, .bool lo5] 40)
  have Z2 := Box.newAt (w := (w13.alloc (.cells #[.slice a5 n5 c5] 33)).alloc (.cells #[.int .i64 p5, .slice a6 n6 c6, .bool d5'] 35)) (n := w13.heap.size + 1 + 1) (by simp) 40 #[.int .i64 mo5, .int .i64 ba5, .slice ca ck cc, .int .i64 op5, .int .i64 oh, .int .i64 ot5, .bool st5, .int .i64 fe, .int .i64 fp5, .int .i64 fh5, .int .i64 ft, .bool lo5]
  have C8 : Below w13.heap.size w13 (((w13.alloc (.cells #[.slice a5 n5 c5] 33)).alloc (.cells #[.int .i64 p5, .slice a6 n6 c6, .bool d5'] 35)).alloc (.cells #[.int .i64 mo5, .int .i64 ba5, .slice ca ck cc, .int .i64 op5, .int .i64 oh, .int .i64 ot5, .bool st5, .int .i64 fe, .int .i64 fp5, .int .i64 fh5, .int .i64 ft, .bool lo5] 40)) := bel_alloc (bel_alloc (bel_alloc (Below.refl _ _) _) _) _
  have B8 : Hid (Below w.heap.size w (((w13.alloc (.cells #[.slice a5 n5 c5] 33)).alloc (.cells #[.int .i64 p5, .slice a6 n6 c6, .bool d5'] 35)).alloc (.cells #[.int .i64 mo5, .int .i64 ba5, .slice ca ck cc, .int .i64 op5, .int .i64 oh, .int .i64 ot5, .bool st5, .int .i64 fe, .int .i64 fp5, .int .i64 fh5, .int .i64 ft, .bool lo5] 40))) := bel_trans (bel_trans B7.out kz) C8
  have T1 : Hid (Sl (((w13.alloc (.cells #[.slice a5 n5 c5] 33)).alloc (.cells #[.int .i64 p5, .slice a6 n6 c6, .bool d5'] 35)).alloc (.cells #[.int .i64 mo5, .int .i64 ba5, .slice ca ck cc, .int .i64 op5, .int .i64 oh, .int .i64 ot5, .bool st5, .int .i64 fe, .int .i64 fp5, .int .i64 fh5, .int .i64 ft, .bool lo5] 40)) (.slice b1 zs5.length e1) zs5) := (T1.out.keep kz).keep C8
  have T2 : Hid (Sl (((w13.alloc (.cells #[.slice a5 n5 c5] 33)).alloc (.cells #[.int .i64 p5, .slice a6 n6 c6, .bool d5'] 35)).alloc (.cells #[.int .i64 mo5, .int .i64 ba5, .slice ca ck cc, .int .i64 op5, .int .i64 oh, .int .i64 ot5, .bool st5, .int .i64 fe, .int .i64 fp5, .int .i64 fh5, .int .i64 ft, .bool lo5] 40)) (.slice b2 r5.length e2) r5) := (T2.out.keep kz).keep C8
  have T3 : Hid (Ls (((w13.alloc (.cells #[.slice a5 n5 c5] 33)).alloc (.cells #[.int .i64 p5, .slice a6 n6 c6, .bool d5'] 35)).alloc (.cells #[.int .i64 mo5, .int .i64 ba5, .slice ca ck cc, .int .i64 op5, .int .i64 oh, .int .i64 ot5, .bool st5, .int .i64 fe, .int .i64 fp5, .int .i64 fh5, .int .i64 ft, .bool lo5] 40)) (.slice b3 l.length e3) l) := (T3.out.keep kz).keep C8
  have V1 : Hid (Sl (((w13.alloc (.cells #[.slice a5 n5 c5] 33)).alloc (.cells #[.int .i64 p5, .slice a6 n6 c6, .bool d5'] 35)).alloc (.cells #[.int .i64 mo5, .int .i64 ba5, .slice ca ck cc, .int .i64 op5, .int .i64 oh, .int .i64 ot5, .bool st5, .int .i64 fe, .int .i64 fp5, .int .i64 fh5, .int .i64 ft, .bool lo5] 40)) (.slice a5 n5 c5) zs5) := HS5.out.keep C8
  have V2 : Hid (Sl (((w13.alloc (.cells #[.slice a5 n5 c5] 33)).alloc (.cells #[.int .i64 p5, .slice a6 n6 c6, .bool d5'] 35)).alloc (.cells #[.int .i64 mo5, .int .i64 ba5, .slice ca ck cc, .int .i64 op5, .int .i64 oh, .int .i64 ot5, .bool st5, .int .i64 fe, .int .i64 fp5, .int .i64 fh5, .int .i64 ft, .bool lo5] 40)) (.slice a6 n6 c6) r5) := HU5.out.keep C8
  have V3 : Hid (Ls (((w13.alloc (.cells #[.slice a5 n5 c5] 33)).alloc (.cells #[.int .i64 p5, .slice a6 n6 c6, .bool d5'] 35)).alloc (.cells #[.int .i64 mo5, .int .i64 ba5, .slice ca ck cc, .int .i64 op5, .int .i64 oh, .int .i64 ot5, .bool st5, .int .i64 fe, .int .i64 fp5, .int .i64 fh5, .int .i64 ft, .bool lo5] 40)) (.slice ca ck cc) l) := HL.out.keep B8.out
  clear kz C8 HS5 HU5 S5 U5 y0 s0 i0 i1 i2 s1 g0 g1 g2 g3 g4 g5 g6 g7 g8 g9 g10 g11 s2 m0 s3 j0 j1 j2 s4 d0 d1' d2 d3 d4 d5 d6 d7 d8 d9 d10 d11 s5 X0 X1 X2 B7
  go_upto_region 18 with fail
  generalize ((w13.alloc (.cells #[.slice a5 n5 c5] 33)).alloc (.cells #[.int .i64 p5, .slice a6 n6 c6, .bool d5'] 35)).alloc (.cells #[.int .i64 mo5, .int .i64 ba5, .slice ca ck cc, .int .i64 op5, .int .i64 oh, .int .i64 ot5, .bool st5, .int .i64 fe, .int .i64 fp5, .int .i64 fh5, .int .i64 ft, .bool lo5] 40) = W8 at *
  generalize w13.heap.size + 1 + 1 = K3 at *
  generalize w13.heap.size + 1 = K2 at *
  generalize w13.heap.size = K1 at *
  obtain ⟨y0, -, s0⟩ := Y0.one
  obtain ⟨x0, -, t0⟩ := Z0.one
  go_wp2_with fail
  refine (equal_any _ _ zs5 zs5 _ T1.out V1.out).mono ?_
  rintro e w14 ⟨rfl, nz, rfl⟩
  rw [decide_eq_true (rfl : zs5 = zs5)]
  have Y1 := Y1.drewN nz
  have Y2 := Y2.drewN nz
  have Z1 := Z1.drewN nz
  have Z2 := Z2.drewN nz
  have B9 : Hid (Below w.heap.size w (W8.drewN nz)) := bel_drewN B8.out _
  have T2 : Hid (Sl (W8.drewN nz) (.slice b2 r5.length e2) r5) := T2.out
  have T3 : Hid (Ls (W8.drewN nz) (.slice b3 l.length e3) l) := T3.out
  have V2 : Hid (Sl (W8.drewN nz) (.slice a6 n6 c6) r5) := V2.out
  have V3 : Hid (Ls (W8.drewN nz) (.slice ca ck cc) l) := V3.out
  clear y0 s0 x0 t0 Y0 Z0 T1 V1 B8
  generalize W8.drewN nz = W9 at *
  obtain ⟨i0, i1, i2, -, -, -, s1⟩ := Y1.three
  obtain ⟨j0, j1, j2, -, -, -, s2⟩ := Z1.three
  go_wp2_with fail
  refine (sameHart_any p5 _ r5 d5' p5 _ r5 d5' _ T2.out V2.out).mono ?_
  rintro e w15 ⟨rfl, kz⟩
  rw [sameH_self]
  have Y2 := Y2.keep kz
  have Z2 := Z2.keep kz
  have B10 : Hid (Below w.heap.size w w15) := bel_trans B9.out kz
  have T3 : Hid (Ls w15 (.slice b3 l.length e3) l) := T3.out.keep kz
  have V3 : Hid (Ls w15 (.slice ca ck cc) l) := V3.out.keep kz
  clear kz i0 i1 i2 s1 j0 j1 j2 s2 Y1 Z1 B9 T2 V2
  obtain ⟨⟨g0, g1, g2, g3, g4, g5, g6, g7, g8, g9, g10, g11⟩, s2⟩ := Y2.twelve
  obtain ⟨⟨d0, d1', d2, d3, d4, d5, d6, d7, d8, d9, d10, d11⟩, s5⟩ := Z2.twelve
  go_wp2_with fail
  refine (sameBridge_any mo5 ba5 op5 oh ot5 fe fp5 fh5 ft st5 lo5 _ l mo5 ba5 op5 oh ot5 fe fp5 fh5 ft st5 lo5 _ l _ T3.out V3.out).mono ?_
  rintro e w16 ⟨rfl, kz⟩
  rw [sameBr_self]
  go_wp2
  go_ret
  exact ⟨rfl, bel_trans B10.out kz⟩
end Go.Proofs.Ytfbmmiikhkmpfac
/-
  What the openers share.
-/
namespace Go.Proofs.Ytfbmmiikhkmpfac
open Go.ChangeShapes Go.WideShapes Go.ChangeAt Go.RowKit

theorem law_own : ownKnob Try.prog.godebug = none := by kernel_rfl
theorem law_laidOut : laidOutB Try.prog = true := by kernel_rfl
theorem int_cells : Try.prog.cellsOf 3 = 1 := by kernel_rfl
theorem bool_cells : Try.prog.cellsOf 4 = 1 := by kernel_rfl

theorem array5 {cs : List Value} (h : cs.length = 5) : ∃ c0 c1 c2 c3 c4, cs = [c0, c1, c2, c3, c4] := by
  match cs, h with
  | [c0, c1, c2, c3, c4], _ => exact ⟨c0, c1, c2, c3, c4, rfl⟩
theorem array3 {cs : List Value} (h : cs.length = 3) : ∃ c0 c1 c2, cs = [c0, c1, c2] := by
  match cs, h with
  | [c0, c1, c2], _ => exact ⟨c0, c1, c2, rfl⟩
theorem array4 {cs : List Value} (h : cs.length = 4) : ∃ c0 c1 c2 c3, cs = [c0, c1, c2, c3] := by
  match cs, h with
  | [c0, c1, c2, c3], _ => exact ⟨c0, c1, c2, c3, rfl⟩

section
variable {H : Type} {enc : TypeId × Value → H} {W : World}

theorem cell_int {n : Nat} {c : Value} {y : Option (DataW H × List MemPlace)} (h : DataW.trod enc Try.prog W 0 (fun _ => true) true n 3 [c] = y) (hy : y ≠ none) : ∃ a, c = .int .i64 a := by
  cases y with
  | none => exact absurd rfl hy
  | some y =>
    obtain ⟨a, e, _⟩ := DataW.trod_int Try.underlying3 h
    exact ⟨a, by simpa using e⟩
theorem cell_bool {n : Nat} {c : Value} {y : Option (DataW H × List MemPlace)} (h : DataW.trod enc Try.prog W 0 (fun _ => true) true n 4 [c] = y) (hy : y ≠ none) : ∃ a, c = .bool a := by
  cases y with
  | none => exact absurd rfl hy
  | some y =>
    obtain ⟨a, e, _⟩ := DataW.trod_bool Try.underlying4 h
    exact ⟨a, by simpa using e⟩

set_option maxRecDepth 100000 in
theorem cell_intw {n : Nat} {c : Value} {y : Option (DataW H × List MemPlace)} (h : DataW.trod enc Try.prog W 0 (fun _ => true) true n 3 [c] = y) (hy : y ≠ none) : ∃ a, c = .int .i64 a ∧ -9223372036854775808 ≤ a ∧ a ≤ 9223372036854775807 := by
  cases y with
  | none => exact absurd rfl hy
  | some y =>
    obtain ⟨a, e, _, hw⟩ := DataW.trod_int Try.underlying3 h
    refine ⟨a, by simpa using e, ?_⟩
    simp only [Lit.wf, Bool.and_eq_true, decide_eq_true_eq] at hw
    exact hw

end
end Go.Proofs.Ytfbmmiikhkmpfac
/-
  A memory that comes in as an argument reads as a list of numbers (Sl).
-/
namespace Go.Proofs.Ytfbmmiikhkmpfac
open Go.ChangeShapes Go.WideShapes Go.ChangeAt Go.RowKit

theorem mem_cells : Try.prog.cellsOf 33 = 1 := by kernel_rfl
theorem slice_cells : Try.prog.cellsOf 31 = 1 := by kernel_rfl

/-- A cell that reads as a slice of numbers. -/
theorem open_row {H : Type} {enc : TypeId × Value → H} {W : World} {fuel : Nat} {c0 : Value} {x : DataW H × List MemPlace}
    (h : DataW.trod enc Try.prog W 0 (fun _ => true) true fuel 31 [c0] = some x) : ∃ zs, Sl W c0 zs := by
  rcases open_ints Try.underlying31 Try.underlying3 int_cells h with ⟨hcs, _⟩ | ⟨a, len, cap, zs, hcs, _, hl, hm, hz, _, hcell, _⟩
  · simp only [List.cons.injEq, and_true] at hcs
    subst hcs
    exact ⟨[], Sl.nil _ _ _⟩
  · simp only [List.cons.injEq, and_true] at hcs
    subst hcs
    simp only [if_true] at hz
    by_cases h0 : len = 0
    · subst h0
      exact ⟨[], Sl.nil _ _ _⟩
    · obtain ⟨b, off, spot⟩ := a
      have hc := hcell 0 (by omega)
      have hspot : spot = none := by simpa [Addr.add] using World.cell?_spot hc
      subst hspot
      have hlen : (zs.take len).length = len := by simp; omega
      refine ⟨zs.take len, _, cap, by rw [hlen], by omega, .inr ⟨b, off, rfl, ?_, fun i hi => ?_⟩⟩
      · have := World.block_lt_of_cell? W _ hc
        simpa [Addr.add] using this
      · have ha : Addr.add ⟨b, off, none⟩ i = ⟨b, off + i, none⟩ := by unfold Addr.add; split <;> simp_all
        have := hcell i (by omega)
        rw [ha] at this
        rw [this]
        have hi' : i < len := by omega
        simp [nth, hi']

set_option maxRecDepth 100000 in
theorem open_mem {H : Type} {enc : TypeId × Value → H} {W : World} {b0 : Nat} {v : Value} {d : DataW H} {p : List MemPlace} (hv : Value.okWide Try.prog W .any b0 33 v)
    (h : DataW.Trod enc Try.prog W 0 (fun _ => true) true 33 v d p) : ∃ v0 zs, v = .agg #[v0] ∧ Sl W v0 zs := by
  obtain ⟨cs, rfl, hsz⟩ := okWide_struct Try.underlying33 hv
  rw [mem_cells] at hsz
  obtain ⟨l⟩ := cs
  match l, hsz with
  | [c0], _ =>
    obtain ⟨fuel, hf⟩ := h
    obtain ⟨y0, n, _, _, h0⟩ := trod_struct1 Try.underlying33 hf
    obtain ⟨zs, hs⟩ := open_row (c0 := c0) (by simpa [Value.cells, slice_cells] using h0)
    exact ⟨c0, zs, rfl, hs⟩
end Go.Proofs.Ytfbmmiikhkmpfac
/-
  A hart that comes in as an argument is written out.
-/
namespace Go.Proofs.Ytfbmmiikhkmpfac
open Go.ChangeShapes Go.WideShapes Go.ChangeAt Go.RowKit

theorem hart_cells : Try.prog.cellsOf 35 = 3 := by kernel_rfl
section
variable {H : Type} {enc : TypeId × Value → H} {W : World}
set_option maxRecDepth 100000 in
theorem open_hrt {b0 : Nat} {v : Value} {d : DataW H} {p : List MemPlace} (hv : Value.okWide Try.prog W .any b0 35 v) (h : DataW.Trod enc Try.prog W 0 (fun _ => true) true 35 v d p) :
    ∃ a u l b, v = .agg #[.int .i64 a, u, .bool b] ∧ Sl W u l := by
  obtain ⟨cs, rfl, _⟩ := okWide_struct Try.underlying35 hv
  obtain ⟨fuel, hf⟩ := h
  obtain ⟨xs, n, _, _, hl, hlen, hf⟩ := DataW.trod_struct Try.underlying35 hf
  rw [hart_cells] at hl
  obtain ⟨l⟩ := cs
  simp only [Value.cells] at hl hf
  obtain ⟨c0, c1, c2, rfl⟩ := array3 hl
  have some_at : ∀ i, i < 3 → ∃ y, xs[i]? = some y := fun i hi => by
    rw [List.getElem?_eq_getElem (by rw [hlen]; exact hi)]; simp
  have ne_at : ∀ i, i < 3 → xs[i]? ≠ none := fun i hi => by
    obtain ⟨y, hy⟩ := some_at i hi; rw [hy]; simp
  obtain ⟨a, rfl⟩ := cell_int (by simpa [int_cells, bool_cells, slice_cells] using hf 0 _ rfl) (ne_at 0 (by omega))
  obtain ⟨y1, hy1⟩ := some_at 1 (by omega)
  obtain ⟨l, hL⟩ := open_row (c0 := c1) (x := y1) (by rw [← hy1]; simpa [int_cells, bool_cells, slice_cells] using hf 1 _ rfl)
  obtain ⟨b, rfl⟩ := cell_bool (by simpa [int_cells, bool_cells, slice_cells] using hf 2 _ rfl) (ne_at 2 (by omega))
  exact ⟨a, c1, l, b, rfl, hL⟩
end
end Go.Proofs.Ytfbmmiikhkmpfac
/-
  An order that comes in as an argument is written out.
-/
namespace Go.Proofs.Ytfbmmiikhkmpfac
open Go.ChangeShapes Go.WideShapes Go.ChangeAt Go.RowKit

section
variable {H : Type} {enc : TypeId × Value → H} {W : World}

end
end Go.Proofs.Ytfbmmiikhkmpfac
/-
  Lines, a line, an order that come in as arguments are written out.
-/
namespace Go.Proofs.Ytfbmmiikhkmpfac
open Go.ChangeShapes Go.WideShapes Go.ChangeAt Go.RowKit

theorem line_cells : Try.prog.cellsOf 56 = 5 := by kernel_rfl

section
variable {H : Type} {enc : TypeId × Value → H} {W : World}

set_option maxRecDepth 100000 in
/-- The cells of a line. -/
theorem line_open {fuel : Nat} {cs : List Value} {x : DataW H × List MemPlace} (h : DataW.trod enc Try.prog W 0 (fun _ => true) true fuel 56 cs = some x) :
    ∃ y : Ln, cs = [.int .i64 y.1, .int .i64 y.2.1, .int .i64 y.2.2.1, .bool y.2.2.2.1, .bool y.2.2.2.2] := by
  obtain ⟨xs, n, _, _, hl, hlen, hf⟩ := DataW.trod_struct Try.underlying56 h
  rw [line_cells] at hl
  obtain ⟨c0, c1, c2, c3, c4, rfl⟩ := array5 hl
  have some_at : ∀ i, i < 5 → xs[i]? ≠ none := fun i hi => by
    rw [List.getElem?_eq_getElem (by rw [hlen]; exact hi)]; simp
  obtain ⟨a, rfl⟩ := cell_int (by simpa [int_cells] using hf 0 _ rfl) (some_at 0 (by omega))
  obtain ⟨b, rfl⟩ := cell_int (by simpa [int_cells] using hf 1 _ rfl) (some_at 1 (by omega))
  obtain ⟨c, rfl⟩ := cell_int (by simpa [int_cells] using hf 2 _ rfl) (some_at 2 (by omega))
  obtain ⟨d, rfl⟩ := cell_bool (by simpa [bool_cells] using hf 3 _ rfl) (some_at 3 (by omega))
  obtain ⟨p, rfl⟩ := cell_bool (by simpa [bool_cells] using hf 4 _ rfl) (some_at 4 (by omega))
  exact ⟨(a, b, c, d, p), rfl⟩
set_option maxRecDepth 100000 in
theorem open_line {b0 : Nat} {v : Value} {d : DataW H} {p : List MemPlace} (hv : Value.okWide Try.prog W .any b0 56 v) (h : DataW.Trod enc Try.prog W 0 (fun _ => true) true 56 v d p) :
    ∃ a b c e n, v = .agg #[.int .i64 a, .int .i64 b, .int .i64 c, .bool e, .bool n] := by
  obtain ⟨cs, rfl, _⟩ := okWide_struct Try.underlying56 hv
  obtain ⟨fuel, hf⟩ := h
  obtain ⟨y, hc⟩ := line_open hf
  obtain ⟨l⟩ := cs
  simp only [Value.cells] at hc
  exact ⟨_, _, _, _, _, by rw [hc]⟩
theorem choose_len {P : Nat → Ln → Prop} : ∀ n, (∀ i, i < n → ∃ y, P i y) → ∃ l : List Ln, l.length = n ∧ ∀ i, i < n → P i (lth l i)
  | 0, _ => ⟨[], rfl, fun i hi => absurd hi (Nat.not_lt_zero _)⟩
  | n + 1, h => by
    obtain ⟨l, hl, hp⟩ := choose_len n fun i hi => h i (by omega)
    obtain ⟨y, hy⟩ := h n (by omega)
    refine ⟨l ++ [y], by simp [hl], fun i hi => ?_⟩
    by_cases e : i = n
    · subst e
      have : lth (l ++ [y]) i = y := by simp [lth, ← hl]
      rw [this]; exact hy
    · have : lth (l ++ [y]) i = lth l i := by
        have hi' : i < l.length := by omega
        simp [lth, List.getElem?_append_left hi']
      rw [this]; exact hp i (by omega)

set_option maxRecDepth 100000 in
/-- A cell that reads as a slice of lines. -/
theorem lines_row {fuel : Nat} {c0 : Value} {x : DataW H × List MemPlace} (h : DataW.trod enc Try.prog W 0 (fun _ => true) true fuel 36 [c0] = some x) : ∃ l, Ls W c0 l := by
  rcases Deep.open_slice Try.underlying36 h with ⟨hcs, _⟩ | ⟨a, len, cap, m, n, D, Pl, hcs, hb, hl, hm, hmm, _, hx⟩
  · simp only [List.cons.injEq, and_true] at hcs
    subst hcs
    exact ⟨[], Ls.nothing _⟩
  · simp only [List.cons.injEq, and_true] at hcs
    subst hcs
    simp only [if_true] at hmm
    rw [line_cells] at hx
    by_cases h0 : len = 0
    · subst h0
      exact ⟨[], Ls.nil _ _ _ hm⟩
    · obtain ⟨b, off, spot⟩ := a
      have each : ∀ i, i < len → ∃ y : Ln, ∀ j u, (j < 5 ∧ [Value.int .i64 y.1, .int .i64 y.2.1, .int .i64 y.2.2.1, .bool y.2.2.2.1, .bool y.2.2.2.2][j]? = some u) → W.cell? ((⟨b, off, spot⟩ : Addr).add (i * 5 + j)) = some u := by
        intro i hi
        obtain ⟨cs', h1, h2⟩ := hx i (by omega)
        obtain ⟨y, rfl⟩ := line_open h2
        obtain ⟨_, _, hcell⟩ := World.cells?_some h1
        refine ⟨y, fun j u ⟨hj, hu⟩ => ?_⟩
        have := hcell j (by omega)
        rw [Deep.add_add, hu] at this
        exact this
      obtain ⟨l, hlen, hp⟩ := choose_len (P := fun i y => ∀ j u, (j < 5 ∧ [Value.int .i64 y.1, .int .i64 y.2.1, .int .i64 y.2.2.1, .bool y.2.2.2.1, .bool y.2.2.2.2][j]? = some u) → W.cell? ((⟨b, off, spot⟩ : Addr).add (i * 5 + j)) = some u) len each
      have hc := hp 0 (by omega) 0 _ ⟨by omega, rfl⟩
      have hspot : spot = none := by simpa [Addr.add] using World.cell?_spot hc
      subst hspot
      have ha : ∀ i, Addr.add ⟨b, off, none⟩ i = ⟨b, off + i, none⟩ := fun i => by unfold Addr.add; split <;> simp_all
      refine ⟨l, _, cap, by rw [hlen], by omega, hm, .inr ⟨b, off, rfl, ?_, fun i hi => ?_⟩⟩
      · have := World.block_lt_of_cell? W _ hc
        simpa [Addr.add] using this
      · rw [hlen] at hi
        have hq := hp i hi
        refine ⟨?_, ?_, ?_, ?_, ?_⟩
        · have := hq 0 _ ⟨by omega, rfl⟩; rw [ha] at this; exact this
        · have := hq 1 _ ⟨by omega, rfl⟩; rw [ha, ← Nat.add_assoc] at this; exact this
        · have := hq 2 _ ⟨by omega, rfl⟩; rw [ha, ← Nat.add_assoc] at this; exact this
        · have := hq 3 _ ⟨by omega, rfl⟩; rw [ha, ← Nat.add_assoc] at this; exact this
        · have := hq 4 _ ⟨by omega, rfl⟩; rw [ha, ← Nat.add_assoc] at this; exact this
set_option maxRecDepth 100000 in
theorem open_lines {b0 : Nat} {v : Value} {d : DataW H} {p : List MemPlace} (hv : Value.okWide Try.prog W .any b0 36 v) (h : DataW.Trod enc Try.prog W 0 (fun _ => true) true 36 v d p) :
    ∃ l, Ls W v l := by
  obtain ⟨fuel, hf⟩ := h
  have hone : v.cells.toList = [v] := by
    simp only [Value.okWide, Try.underlying36, Cell.okWide] at hv
    cases v <;> simp_all [Value.cells, Cell.ok]
  rw [hone] at hf
  exact lines_row hf
end
end Go.Proofs.Ytfbmmiikhkmpfac
/-
  A ring that comes in as an argument is written out.
-/
namespace Go.Proofs.Ytfbmmiikhkmpfac
open Go.ChangeShapes Go.WideShapes Go.ChangeAt Go.RowKit

theorem ring_cells : Try.prog.cellsOf 38 = 3 := by kernel_rfl
section
variable {H : Type} {enc : TypeId × Value → H} {W : World}
set_option maxRecDepth 100000 in
/-- The cells of a ring. -/
theorem ring_open {fuel : Nat} {cs : List Value} {x : DataW H × List MemPlace} (h : DataW.trod enc Try.prog W 0 (fun _ => true) true fuel 38 cs = some x) :
    ∃ a b p, cs = [.int .i64 a, .int .i64 b, .int .i64 p] := by
  obtain ⟨xs, n, _, _, hl, hlen, hf⟩ := DataW.trod_struct Try.underlying38 h
  rw [ring_cells] at hl
  obtain ⟨c0, c1, c2, rfl⟩ := array3 hl
  have some_at : ∀ i, i < 3 → xs[i]? ≠ none := fun i hi => by
    rw [List.getElem?_eq_getElem (by rw [hlen]; exact hi)]; simp
  obtain ⟨a, rfl⟩ := cell_int (by simpa [int_cells] using hf 0 _ rfl) (some_at 0 (by omega))
  obtain ⟨b, rfl⟩ := cell_int (by simpa [int_cells] using hf 1 _ rfl) (some_at 1 (by omega))
  obtain ⟨p, rfl⟩ := cell_int (by simpa [int_cells] using hf 2 _ rfl) (some_at 2 (by omega))
  exact ⟨a, b, p, rfl⟩
set_option maxRecDepth 100000 in
theorem open_ring {b0 : Nat} {v : Value} {d : DataW H} {p : List MemPlace} (hv : Value.okWide Try.prog W .any b0 38 v) (h : DataW.Trod enc Try.prog W 0 (fun _ => true) true 38 v d p) :
    ∃ a b n, v = .agg #[.int .i64 a, .int .i64 b, .int .i64 n] := by
  obtain ⟨cs, rfl, _⟩ := okWide_struct Try.underlying38 hv
  obtain ⟨fuel, hf⟩ := h
  obtain ⟨a, b, n, hc⟩ := ring_open hf
  obtain ⟨l⟩ := cs
  simp only [Value.cells] at hc
  exact ⟨a, b, n, by rw [hc]⟩
end
end Go.Proofs.Ytfbmmiikhkmpfac
/-
  A bridge that comes in as an argument is written out.
-/
namespace Go.Proofs.Ytfbmmiikhkmpfac
open Go.ChangeShapes Go.WideShapes Go.ChangeAt Go.RowKit

theorem bri_cells : Try.prog.cellsOf 40 = 12 := by kernel_rfl
theorem lines_cells : Try.prog.cellsOf 36 = 1 := by kernel_rfl
theorem array12 {cs : List Value} (h : cs.length = 12) : ∃ c0 c1 c2 c3 c4 c5 c6 c7 c8 c9 c10 c11, cs = [c0, c1, c2, c3, c4, c5, c6, c7, c8, c9, c10, c11] := by
  match cs, h with
  | [c0, c1, c2, c3, c4, c5, c6, c7, c8, c9, c10, c11], _ => exact ⟨c0, c1, c2, c3, c4, c5, c6, c7, c8, c9, c10, c11, rfl⟩
section
variable {H : Type} {enc : TypeId × Value → H} {W : World}
set_option maxRecDepth 100000 in
theorem open_bri {b0 : Nat} {v : Value} {d : DataW H} {p : List MemPlace} (hv : Value.okWide Try.prog W .any b0 40 v) (h : DataW.Trod enc Try.prog W 0 (fun _ => true) true 40 v d p) :
    ∃ mo ba op oh ot fe fp fh ft st lo vc l, v = .agg #[.int .i64 mo, .int .i64 ba, vc, .int .i64 op, .int .i64 oh, .int .i64 ot, .bool st, .int .i64 fe, .int .i64 fp, .int .i64 fh, .int .i64 ft, .bool lo] ∧ Ls W vc l := by
  obtain ⟨cs, rfl, _⟩ := okWide_struct Try.underlying40 hv
  obtain ⟨fuel, hf⟩ := h
  obtain ⟨xs, n, _, _, hl, hlen, hf⟩ := DataW.trod_struct Try.underlying40 hf
  rw [bri_cells] at hl
  obtain ⟨l⟩ := cs
  simp only [Value.cells] at hl hf
  obtain ⟨c0, c1, c2, c3, c4, c5, c6, c7, c8, c9, c10, c11, rfl⟩ := array12 hl
  have some_at : ∀ i, i < 8 → ∃ y, xs[i]? = some y := fun i hi => by
    rw [List.getElem?_eq_getElem (by rw [hlen]; exact hi)]; simp
  have ne_at : ∀ i, i < 8 → xs[i]? ≠ none := fun i hi => by
    obtain ⟨y, hy⟩ := some_at i hi; rw [hy]; simp
  obtain ⟨mo, rfl⟩ := cell_int (by simpa [int_cells, bool_cells, lines_cells, ring_cells] using hf 0 _ rfl) (ne_at 0 (by omega))
  obtain ⟨ba, rfl⟩ := cell_int (by simpa [int_cells, bool_cells, lines_cells, ring_cells] using hf 1 _ rfl) (ne_at 1 (by omega))
  obtain ⟨y2, hy2⟩ := some_at 2 (by omega)
  obtain ⟨l, hL⟩ := lines_row (c0 := c2) (x := y2) (by rw [← hy2]; simpa [int_cells, bool_cells, lines_cells, ring_cells] using hf 2 _ rfl)
  obtain ⟨y3, hy3⟩ := some_at 3 (by omega)
  obtain ⟨op, oh, ot, e3⟩ := ring_open (cs := [c3, c4, c5]) (x := y3) (by rw [← hy3]; simpa [int_cells, bool_cells, lines_cells, ring_cells] using hf 3 _ rfl)
  obtain ⟨st, rfl⟩ := cell_bool (by simpa [int_cells, bool_cells, lines_cells, ring_cells] using hf 4 _ rfl) (ne_at 4 (by omega))
  obtain ⟨fe, rfl⟩ := cell_int (by simpa [int_cells, bool_cells, lines_cells, ring_cells] using hf 5 _ rfl) (ne_at 5 (by omega))
  obtain ⟨y6, hy6⟩ := some_at 6 (by omega)
  obtain ⟨fp, fh, ft, e6⟩ := ring_open (cs := [c8, c9, c10]) (x := y6) (by rw [← hy6]; simpa [int_cells, bool_cells, lines_cells, ring_cells] using hf 6 _ rfl)
  obtain ⟨lo, rfl⟩ := cell_bool (by simpa [int_cells, bool_cells, lines_cells, ring_cells] using hf 7 _ rfl) (ne_at 7 (by omega))
  simp only [List.cons.injEq, and_true] at e3 e6
  obtain ⟨rfl, rfl, rfl⟩ := e3
  obtain ⟨rfl, rfl, rfl⟩ := e6
  exact ⟨mo, ba, op, oh, ot, fe, fp, fh, ft, st, lo, c2, l, rfl, hL⟩
end
end Go.Proofs.Ytfbmmiikhkmpfac
