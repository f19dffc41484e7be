/-
  Laid together: HKeepsWalk, Open0, Open, OpenH, OpenO, OpenL, OpenR, OpenB.
-/
import Derived.Test.YtfbmmiikhkmpfacT16
import Derived.ProofKit
import Derived.OpenShut
import Derived.ShutString
import Derived.ChangeOld
import Derived.Deep.Slices
/-
  HartKeeps answers true, whatever it is asked.
-/
namespace Go.Proofs.Ytfbmmiikhkmpfac
open Go.RowKit

set_option maxRecDepth 10000 in
set_option maxHeartbeats 8000000 in
theorem hkeeps_walk (v : Value) (zs : List Int) (p : Int) (u : Value) (r : List Int) (d : Bool) (mo ba op oh ot fe fp fh ft : Int) (st lo : Bool) (vc : Value) (l : List Ln) (w : World) (hs : Sl w v zs) (hr : Sl w u r) (h : Ls w vc l) :
    Calls Try.prog 6 #[.agg #[v], .agg #[.int .i64 p, u, .bool d], .agg #[.int .i64 mo, .int .i64 ba, vc, .int .i64 op, .int .i64 oh, .int .i64 ot, .bool st, .int .i64 fe, .int .i64 fp, .int .i64 fh, .int .i64 ft, .bool lo]] w fun e w' => e = .returned (.bool true) ∧ Below w.heap.size w w' := by
  have HM : Hid (Sl w v zs) := hs
  have HR : Hid (Sl w u r) := hr
  have HL : Hid (Ls w vc l) := h
  obtain ⟨a1, n1, c1, rfl⟩ : ∃ a k c, v = .slice a k c := let ⟨a, c, e, _⟩ := hs; ⟨a, _, c, e⟩
  obtain ⟨a2, n2, c2, rfl⟩ : ∃ a k c, u = .slice a k c := let ⟨a, c, e, _⟩ := hr; ⟨a, _, c, e⟩
  obtain ⟨ca, cc, rfl, -⟩ := h.shape
  obtain ⟨ck, hck⟩ : ∃ ck, ck = l.length := ⟨_, rfl⟩
  rw [← hck] at HL ⊢
  clear hs hr h hck
  obtain ⟨f1, hE⟩ : ∃ f1, stE zs ⟨p, r, d⟩ ⟨mo, ba, l, op, oh, ot, st, fe, fp, fh, ft, lo⟩ = f1 := ⟨_, rfl⟩
  obtain ⟨zs1, p1, r1, d1, mo1, ba1, op1, oh1, ot1, fe1, fp1, fh1, ft1, st1, lo1, l1, hR⟩ : ∃ zs1 p1 r1 d1 mo1 ba1 op1 oh1 ot1 fe1 fp1 fh1 ft1 st1 lo1 l1, stR zs ⟨p, r, d⟩ ⟨mo, ba, l, op, oh, ot, st, fe, fp, fh, ft, lo⟩ = (zs1, ⟨p1, r1, d1⟩, ⟨mo1, ba1, l1, op1, oh1, ot1, st1, fe1, fp1, fh1, ft1, lo1⟩) := ⟨_, _, _, _, _, _, _, _, _, _, _, _, _, _, _, _, rfl⟩
  have HE : Hid _ := hE
  have HST : Hid _ := hR
  clear hE hR
  have X0 := ((Box.newAt (w := w) (n := w.heap.size) (by simp) 33 #[.slice a1 n1 c1]).past (.cells #[.int .i64 p, .slice a2 n2 c2, .bool d] 35)).past (.cells #[.int .i64 mo, .int .i64 ba, .slice ca ck cc, .int .i64 op, .int .i64 oh, .int .i64 ot, .bool st, .int .i64 fe, .int .i64 fp, .int .i64 fh, .int .i64 ft, .bool lo] 40)
  have X1 := (Box.newAt (w := (w.alloc (.cells #[.slice a1 n1 c1] 33))) (n := w.heap.size + 1) (by simp) 35 #[.int .i64 p, .slice a2 n2 c2, .bool d]).past (.cells #[.int .i64 mo, .int .i64 ba, .slice ca ck cc, .int .i64 op, .int .i64 oh, .int .i64 ot, .bool st, .int .i64 fe, .int .i64 fp, .int .i64 fh, .int .i64 ft, .bool lo] 40)
  have X2 := Box.newAt (w := ((w.alloc (.cells #[.slice a1 n1 c1] 33)).alloc (.cells #[.int .i64 p, .slice a2 n2 c2, .bool d] 35))) (n := w.heap.size + 1 + 1) (by simp) 40 #[.int .i64 mo, .int .i64 ba, .slice ca ck cc, .int .i64 op, .int .i64 oh, .int .i64 ot, .bool st, .int .i64 fe, .int .i64 fp, .int .i64 fh, .int .i64 ft, .bool lo]
  have BW : Hid (Below w.heap.size w _) := bel_alloc (bel_alloc (bel_alloc (Below.refl w.heap.size w) (.cells #[.slice a1 n1 c1] 33)) (.cells #[.int .i64 p, .slice a2 n2 c2, .bool d] 35)) (.cells #[.int .i64 mo, .int .i64 ba, .slice ca ck cc, .int .i64 op, .int .i64 oh, .int .i64 ot, .bool st, .int .i64 fe, .int .i64 fp, .int .i64 fh, .int .i64 ft, .bool lo] 40)
  have WS : Hid ((((w.alloc (.cells #[.slice a1 n1 c1] 33)).alloc (.cells #[.int .i64 p, .slice a2 n2 c2, .bool d] 35)).alloc (.cells #[.int .i64 mo, .int .i64 ba, .slice ca ck cc, .int .i64 op, .int .i64 oh, .int .i64 ot, .bool st, .int .i64 fe, .int .i64 fp, .int .i64 fh, .int .i64 ft, .bool lo] 40)).heap.size = w.heap.size + 1 + 1 + 1) := by show _ = _; simp
  go_enter Try.func6, Try.ntmps6
  go_upto_region 1 with fail
  generalize (((w.alloc (.cells #[.slice a1 n1 c1] 33)).alloc (.cells #[.int .i64 p, .slice a2 n2 c2, .bool d] 35)).alloc (.cells #[.int .i64 mo, .int .i64 ba, .slice ca ck cc, .int .i64 op, .int .i64 oh, .int .i64 ot, .bool st, .int .i64 fe, .int .i64 fp, .int .i64 fh, .int .i64 ft, .bool lo] 40)) = W at *
  obtain ⟨m0, -, s0⟩ := X0.one
  obtain ⟨i0, i1, i2, -, -, -, s1⟩ := X1.three
  obtain ⟨⟨d0, d1', d2, d3, d4, d5, d6, d7, d8, d9, d10, d11⟩, s2⟩ := X2.twelve
  go_wp2_with fail
  refine (step_at HE.out HST.out (HM.out.keep BW.out) (HR.out.keep BW.out) (HL.out.keep BW.out)).mono ?_
  rintro e w1 ⟨b1, e1, b2, e2, b3, e3, rfl, S1, S2, S3, -, -, -, k1⟩
  have X0 := (((X0.keep k1).past (.cells #[.slice b1 zs1.length e1] 33)).past (.cells #[.int .i64 p1, .slice b2 r1.length e2, .bool d1] 35)).past (.cells #[.int .i64 mo1, .int .i64 ba1, .slice b3 l1.length e3, .int .i64 op1, .int .i64 oh1, .int .i64 ot1, .bool st1, .int .i64 fe1, .int .i64 fp1, .int .i64 fh1, .int .i64 ft1, .bool lo1] 40)
  have X1 := (((X1.keep k1).past (.cells #[.slice b1 zs1.length e1] 33)).past (.cells #[.int .i64 p1, .slice b2 r1.length e2, .bool d1] 35)).past (.cells #[.int .i64 mo1, .int .i64 ba1, .slice b3 l1.length e3, .int .i64 op1, .int .i64 oh1, .int .i64 ot1, .bool st1, .int .i64 fe1, .int .i64 fp1, .int .i64 fh1, .int .i64 ft1, .bool lo1] 40)
  have X2 := (((X2.keep k1).past (.cells #[.slice b1 zs1.length e1] 33)).past (.cells #[.int .i64 p1, .slice b2 r1.length e2, .bool d1] 35)).past (.cells #[.int .i64 mo1, .int .i64 ba1, .slice b3 l1.length e3, .int .i64 op1, .int .i64 oh1, .int .i64 ot1, .bool st1, .int .i64 fe1, .int .i64 fp1, .int .i64 fh1, .int .i64 ft1, .bool lo1] 40)
  have Y0 := ((Box.newAt (w := w1) (n := w1.heap.size) rfl 33 #[.slice b1 zs1.length e1]).past (.cells #[.int .i64 p1, .slice b2 r1.length e2, .bool d1] 35)).past (.cells #[.int .i64 mo1, .int .i64 ba1, .slice b3 l1.length e3, .int .i64 op1, .int .i64 oh1, .int .i64 ot1, .bool st1, .int .i64 fe1, .int .i64 fp1, .int .i64 fh1, .int .i64 ft1, .bool lo1] 40)
  have Y1 := (Box.newAt (w := w1.alloc (.cells #[.slice b1 zs1.length e1] 33)) (n := w1.heap.size + 1) (by simp) 35 #[.int .i64 p1, .slice b2 r1.length e2, .bool d1]).past (.cells #[.int .i64 mo1, .int .i64 ba1, .slice b3 l1.length e3, .int .i64 op1, .int .i64 oh1, .int .i64 ot1, .bool st1, .int .i64 fe1, .int .i64 fp1, .int .i64 fh1, .int .i64 ft1, .bool lo1] 40)
  have Y2 := Box.newAt (w := (w1.alloc (.cells #[.slice b1 zs1.length e1] 33)).alloc (.cells #[.int .i64 p1, .slice b2 r1.length e2, .bool d1] 35)) (n := w1.heap.size + 1 + 1) (by simp) 40 #[.int .i64 mo1, .int .i64 ba1, .slice b3 l1.length e3, .int .i64 op1, .int .i64 oh1, .int .i64 ot1, .bool st1, .int .i64 fe1, .int .i64 fp1, .int .i64 fh1, .int .i64 ft1, .bool lo1]
  have C4 : Below w1.heap.size w1 (((w1.alloc (.cells #[.slice b1 zs1.length e1] 33)).alloc (.cells #[.int .i64 p1, .slice b2 r1.length e2, .bool d1] 35)).alloc (.cells #[.int .i64 mo1, .int .i64 ba1, .slice b3 l1.length e3, .int .i64 op1, .int .i64 oh1, .int .i64 ot1, .bool st1, .int .i64 fe1, .int .i64 fp1, .int .i64 fh1, .int .i64 ft1, .bool lo1] 40)) := bel_alloc (bel_alloc (bel_alloc (Below.refl _ _) _) _) _
  have B4 : Hid (Below w.heap.size w (((w1.alloc (.cells #[.slice b1 zs1.length e1] 33)).alloc (.cells #[.int .i64 p1, .slice b2 r1.length e2, .bool d1] 35)).alloc (.cells #[.int .i64 mo1, .int .i64 ba1, .slice b3 l1.length e3, .int .i64 op1, .int .i64 oh1, .int .i64 ot1, .bool st1, .int .i64 fe1, .int .i64 fp1, .int .i64 fh1, .int .i64 ft1, .bool lo1] 40))) := bel_trans (bel_trans BW.out k1) C4
  have T1 : Hid (Sl (((w1.alloc (.cells #[.slice b1 zs1.length e1] 33)).alloc (.cells #[.int .i64 p1, .slice b2 r1.length e2, .bool d1] 35)).alloc (.cells #[.int .i64 mo1, .int .i64 ba1, .slice b3 l1.length e3, .int .i64 op1, .int .i64 oh1, .int .i64 ot1, .bool st1, .int .i64 fe1, .int .i64 fp1, .int .i64 fh1, .int .i64 ft1, .bool lo1] 40)) (.slice b1 zs1.length e1) zs1) := S1.keep C4
  have T2 : Hid (Sl (((w1.alloc (.cells #[.slice b1 zs1.length e1] 33)).alloc (.cells #[.int .i64 p1, .slice b2 r1.length e2, .bool d1] 35)).alloc (.cells #[.int .i64 mo1, .int .i64 ba1, .slice b3 l1.length e3, .int .i64 op1, .int .i64 oh1, .int .i64 ot1, .bool st1, .int .i64 fe1, .int .i64 fp1, .int .i64 fh1, .int .i64 ft1, .bool lo1] 40)) (.slice b2 r1.length e2) r1) := S2.keep C4
  have T3 : Hid (Ls (((w1.alloc (.cells #[.slice b1 zs1.length e1] 33)).alloc (.cells #[.int .i64 p1, .slice b2 r1.length e2, .bool d1] 35)).alloc (.cells #[.int .i64 mo1, .int .i64 ba1, .slice b3 l1.length e3, .int .i64 op1, .int .i64 oh1, .int .i64 ot1, .bool st1, .int .i64 fe1, .int .i64 fp1, .int .i64 fh1, .int .i64 ft1, .bool lo1] 40)) (.slice b3 l1.length e3) l1) := S3.keep C4
  have hz1 : w.heap.size + 1 + 1 + 1 ≤ w1.heap.size := by have := k1.size; have := WS.out; omega
  clear S1 S2 S3 k1 C4 BW m0 s0 i0 i1 i2 s1 d0 d1' d2 d3 d4 d5 d6 d7 d8 d9 d10 d11 s2 WS
  go_upto_region 2 with fail
  generalize ((w1.alloc (.cells #[.slice b1 zs1.length e1] 33)).alloc (.cells #[.int .i64 p1, .slice b2 r1.length e2, .bool d1] 35)).alloc (.cells #[.int .i64 mo1, .int .i64 ba1, .slice b3 l1.length e3, .int .i64 op1, .int .i64 oh1, .int .i64 ot1, .bool st1, .int .i64 fe1, .int .i64 fp1, .int .i64 fh1, .int .i64 ft1, .bool lo1] 40) = W4 at *
  generalize w1.heap.size = N at *
  obtain ⟨N1, hN1⟩ : ∃ N1, N + 1 = N1 := ⟨_, rfl⟩
  obtain ⟨N2, hN2⟩ : ∃ N2, N + 1 + 1 = N2 := ⟨_, rfl⟩
  rw [hN2] at Y2 ⊢
  rw [hN1] at Y1 ⊢
  clear hN1 hN2 hz1
  go_wp2_with fail
  refine (ran_true _).mono ?_
  rintro e w5 ⟨rfl, k5⟩
  have X0 := X0.keep k5
  have X1 := X1.keep k5
  have X2 := X2.keep k5
  have Y0 := Y0.keep k5
  have Y1 := Y1.keep k5
  have Y2 := Y2.keep k5
  have B5 : Hid (Below w.heap.size w w5) := bel_trans B4.out k5
  have T1 : Hid (Sl w5 (.slice b1 zs1.length e1) zs1) := T1.out.keep k5
  have T2 : Hid (Sl w5 (.slice b2 r1.length e2) r1) := T2.out.keep k5
  have T3 : Hid (Ls w5 (.slice b3 l1.length e3) l1) := T3.out.keep k5
  clear k5 B4
  by_cases hf : f1 = 0
  rotate_left
  · have hq : (f1 != 0) = true := by simpa using hf
    clear hf HE X0 X1 X2 Y0 Y1 Y2
    go_wp2_with fail
    refine (ran_true _).mono ?_
    rintro e w6 ⟨rfl, k6⟩
    go_wp2
    go_ret
    exact ⟨rfl, bel_trans B5.out k6⟩
  subst hf
  have hgo : goS zs ⟨p, r, d⟩ ⟨mo, ba, l, op, oh, ot, st, fe, fp, fh, ft, lo⟩ = (zs1, ⟨p1, r1, d1⟩, ⟨mo1, ba1, l1, op1, oh1, ot1, st1, fe1, fp1, fh1, ft1, lo1⟩) := by rw [← HST.out, stR, if_pos HE.out]
  obtain ⟨hk1, hk2, hk3, hk4, hk5, hk6, hk7, hk8, hk9, hk10, hk11⟩ := goS_keeps HE.out hgo
  clear hgo
  dsimp only at hk1 hk2 hk3 hk4 hk5 hk6 hk7 hk8 hk9 hk10 hk11
  have M5 : Hid (Sl w5 (.slice a1 n1 c1) zs) := HM.out.keep B5.out
  have R5 : Hid (Sl w5 (.slice a2 n2 c2) r) := HR.out.keep B5.out
  have L5 : Hid (Ls w5 (.slice ca ck cc) l) := HL.out.keep B5.out
  have HK1 : Hid (chk zs1 = 0) := hk1
  have HK2 : Hid (chkH ⟨p1, r1, d1⟩ = 0) := hk2
  have HK3 : Hid (chkB ⟨mo1, ba1, l1, op1, oh1, ot1, st1, fe1, fp1, fh1, ft1, lo1⟩ = 0) := hk3
  have HK4 : Hid (difN zs1 zs 512 + difN r1 r 8 ≤ 1) := hk4
  have HK9 : Hid (d1 = true → zs1 = zs ∧ r1 = r ∧ p1 = p ∧ (⟨mo1, ba1, l1, op1, oh1, ot1, st1, fe1, fp1, fh1, ft1, lo1⟩ : Br) = ⟨mo, ba, l, op, oh, ot, st, fe, fp, fh, ft, lo⟩) := hk9
  have HK10 : Hid ((⟨mo1, ba1, l1, op1, oh1, ot1, st1, fe1, fp1, fh1, ft1, lo1⟩ : Br) = ⟨mo, ba, l, op, oh, ot, st, fe, fp, fh, ft, lo⟩ ∨ zs1 = zs ∧ r1 = r) := hk10
  subst hk5 hk6 hk7 hk8
  obtain ⟨hz0, hh0, -, -⟩ := stE_ok HE.out
  obtain ⟨gb, go, gc, hv1, gbl, hgc⟩ := T1.out.open512 (chk_ok hk1).1
  obtain ⟨mb, mo', mc, hv2, mbl, hmc⟩ := M5.out.open512 (chk_ok hz0).1
  simp only [Value.slice.injEq] at hv1 hv2
  obtain ⟨rfl, hl1, rfl⟩ := hv1
  obtain ⟨rfl, rfl, rfl⟩ := hv2
  rw [hl1] at Y0 T1
  have hr18 := (chkH_ok hk2).1
  have hr8 := (chkH_ok hh0).1
  dsimp only at hr18 hr8
  obtain ⟨ga, gac, hga, -, hgr⟩ := T2.out
  obtain ⟨ma, mac, hma, -, hmr⟩ := R5.out
  rcases hgr with e | ⟨g2b, g2o, rfl, g2l, hg2⟩
  · exact absurd hr18 (by rw [e]; simp)
  rcases hmr with e | ⟨m2b, m2o, rfl, m2l, hm2⟩
  · exact absurd hr8 (by rw [e]; simp)
  simp only [Value.slice.injEq] at hga hma
  obtain ⟨rfl, -, rfl⟩ := hga
  obtain ⟨rfl, hn2, rfl⟩ := hma
  rw [hr8] at hn2
  subst hn2
  rw [hr18] at Y1 T2
  have HGC : Hid (∀ i, i < 512 → w5.cell? ⟨gb, go + i, none⟩ = some (.int .i64 (nth zs1 i))) := hgc
  have HMC : Hid (∀ i, i < 512 → w5.cell? ⟨mb, mo' + i, none⟩ = some (.int .i64 (nth zs i))) := hmc
  have HG2 : Hid (∀ i, i < 8 → w5.cell? ⟨g2b, g2o + i, none⟩ = some (.int .i64 (nth r1 i))) := fun i hi => hg2 i (by omega)
  have HM2 : Hid (∀ i, i < 8 → w5.cell? ⟨m2b, m2o + i, none⟩ = some (.int .i64 (nth r i))) := fun i hi => hm2 i (by omega)
  clear hk1 hk2 hk3 hk4 hk9 hk10 hk11 HE HST hz0 hh0 hgc hmc hg2 hm2 hl1 hr18 hr8 HM HR HL
  obtain ⟨y0, -, s0⟩ := Y0.one
  obtain ⟨x0, -, s1⟩ := X0.one
  obtain ⟨i0, i1, i2, -, -, -, s2⟩ := Y1.three
  obtain ⟨j0, j1, j2, -, -, -, s3⟩ := X1.three
  go_wp2_with fail
  go_loopw [11, 34] (fun c i w' => ∃ k nq : Nat, k ≤ 512 ∧ i = .int .i64 k ∧ c = .int .i64 (difN zs1 zs k : Nat) ∧ w' = w5.drewN nq) (fun _ i _ => 512 - (intOf i).toNat)
  case atStart => exact ⟨0, 0, Nat.zero_le _, rfl, rfl, rfl⟩
  case round =>
    obtain ⟨k, nq0, hk, rfl, rfl, rfl⟩ := hrel
    by_cases hlt : k < 512
    · have q1 := HGC.out k hlt
      have q2 := HMC.out k hlt
      have hlt1 : (k : Int) < 512 := by omega
      have HD : Hid (difN zs1 zs (k + 1) = difN zs1 zs k + if nth zs1 k = nth zs k then 0 else 1) := rfl
      have hdk := difN_in zs1 zs k
      obtain ⟨z1, hz1⟩ : ∃ z1, nth zs1 k = z1 := ⟨_, rfl⟩
      obtain ⟨z2, hz2⟩ : ∃ z2, nth zs k = z2 := ⟨_, rfl⟩
      obtain ⟨dk, hdd⟩ : ∃ dk, difN zs1 zs k = dk := ⟨_, rfl⟩
      rw [hz1] at q1 HD
      rw [hz2] at q2 HD
      rw [hdd] at HD hdk ⊢
      clear hz1 hz2 hdd
      go_wp2_with fail
      go_quiet (fail)
      by_cases he : z1 = z2
      · have hq : (z1 != z2) = false := by simpa using he
        have HD2 : Hid (difN zs1 zs (k + 1) = dk) := by show _ = _; rw [HD.out, if_pos he]; omega
        clear he HD
        go_wp2_with fail
        refine ⟨⟨k + 1, _, by omega, by go_num, by rw [HD2.out], rfl⟩, by simp [intOf]; omega⟩
      · have hq : (z1 != z2) = true := by simpa using he
        have HD2 : Hid (difN zs1 zs (k + 1) = dk + 1) := by show _ = _; rw [HD.out, if_neg he]
        clear he HD
        go_wp2_with fail
        refine ⟨⟨k + 1, _, by omega, by go_num, by rw [HD2.out]; go_num, rfl⟩, by simp [intOf]; omega⟩
    · obtain rfl : k = 512 := by omega
      clear hk hlt
      obtain ⟨D, hD⟩ : ∃ D, difN zs1 zs 512 = D := ⟨_, rfl⟩
      have HDD : Hid (difN zs1 zs 512 = D) := hD
      have hD5 := difN_in zs1 zs 512
      rw [hD] at hD5 HK4 ⊢
      clear hD
      go_wp2_with fail
      go_loopw [12, 54] (fun c i w' => ∃ k nq : Nat, k ≤ 8 ∧ i = .int .i64 k ∧ c = .int .i64 (difN r1 r k : Nat) ∧ w' = w5.drewN nq) (fun _ i _ => 8 - (intOf i).toNat)
      case atStart => exact ⟨0, nq0, Nat.zero_le _, rfl, rfl, rfl⟩
      case round =>
        obtain ⟨k, nq1, hk, rfl, rfl, rfl⟩ := hrel
        by_cases hlt : k < 8
        · have q1 := HG2.out k hlt
          have q2 := HM2.out k hlt
          have hlt1 : (k : Int) < 8 := by omega
          have HD : Hid (difN r1 r (k + 1) = difN r1 r k + if nth r1 k = nth r k then 0 else 1) := rfl
          have hdk := difN_in r1 r k
          obtain ⟨z1, hz1⟩ : ∃ z1, nth r1 k = z1 := ⟨_, rfl⟩
          obtain ⟨z2, hz2⟩ : ∃ z2, nth r k = z2 := ⟨_, rfl⟩
          obtain ⟨dk, hdd⟩ : ∃ dk, difN r1 r k = dk := ⟨_, rfl⟩
          rw [hz1] at q1 HD
          rw [hz2] at q2 HD
          rw [hdd] at HD hdk ⊢
          clear hz1 hz2 hdd
          go_wp2_with fail
          go_quiet (fail)
          by_cases he : z1 = z2
          · have hq : (z1 != z2) = false := by simpa using he
            have HD2 : Hid (difN r1 r (k + 1) = dk) := by show _ = _; rw [HD.out, if_pos he]; omega
            clear he HD
            go_wp2_with fail
            refine ⟨⟨k + 1, _, by omega, by go_num, by rw [HD2.out], rfl⟩, by simp [intOf]; omega⟩
          · have hq : (z1 != z2) = true := by simpa using he
            have HD2 : Hid (difN r1 r (k + 1) = dk + 1) := by show _ = _; rw [HD.out, if_neg he]
            clear he HD
            go_wp2_with fail
            refine ⟨⟨k + 1, _, by omega, by go_num, by rw [HD2.out]; go_num, rfl⟩, by simp [intOf]; omega⟩
        · obtain rfl : k = 8 := by omega
          clear hk hlt
          obtain ⟨E, hE8⟩ : ∃ E, difN r1 r 8 = E := ⟨_, rfl⟩
          have HEE : Hid (difN r1 r 8 = E) := hE8
          rw [hE8] at HK4 ⊢
          clear hE8 hD5 y0 s0 x0 s1 i0 i1 i2 s2 j0 j1 j2 s3
          have hsum := HK4.out
          obtain ⟨sm, hsm⟩ : ∃ sm : Int, (D : Int) + (E : Int) = sm := ⟨_, rfl⟩
          have hwr : IntKind.i64.wrap ((D : Int) + (E : Int)) = sm := by rw [hsm]; exact wraps_i64 _ (by omega) (by omega)
          have hs1 : ¬ 1 < sm := by omega
          have hs1' : sm ≤ 1 := by omega
          have HSM : Hid ((D : Int) + (E : Int) = sm) := hsm
          clear hsm hsum HK4
          have B6 : Hid (Below w.heap.size w (w5.drewN nq1)) := bel_drewN B5.out _
          have X1 := X1.drewN nq1
          have X2 := X2.drewN nq1
          have Y0 := Y0.drewN nq1
          have Y1 := Y1.drewN nq1
          have Y2 := Y2.drewN nq1
          have T1 : Hid (Sl (w5.drewN nq1) _ zs1) := T1.out
          have T2 : Hid (Sl (w5.drewN nq1) _ r1) := T2.out
          have T3 : Hid (Ls (w5.drewN nq1) _ l1) := T3.out
          have L6 : Hid (Ls (w5.drewN nq1) (.slice ca ck cc) l1) := L5.out
          generalize w5.drewN nq1 = W6 at *
          go_upto_region 17 with fail
          obtain ⟨y0, -, s0⟩ := Y0.one
          go_wp2_with fail
          refine (check_any _ zs1 _ T1.out).mono ?_
          rintro e w7 ⟨rfl, k7⟩
          rw [HK1.out]
          have X1 := X1.keep k7
          have X2 := X2.keep k7
          have Y1 := Y1.keep k7
          have Y2 := Y2.keep k7
          have B7 : Hid (Below w.heap.size w w7) := bel_trans B6.out k7
          have T2 : Hid (Sl w7 _ r1) := T2.out.keep k7
          have T3 : Hid (Ls w7 (.slice b3 l1.length e3) l1) := T3.out.keep k7
          have L7 : Hid (Ls w7 (.slice ca ck cc) l1) := L6.out.keep k7
          clear k7 y0 s0 Y0 B6 L6 L5 M5 R5 T1 X0
          obtain ⟨i0, i1, i2, -, -, -, s2⟩ := Y1.three
          go_wp2_with fail
          refine (hCheck_any p1 _ r1 d1 _ T2.out).mono ?_
          rintro e w8 ⟨rfl, k8⟩
          rw [HK2.out]
          have X1 := X1.keep k8
          have X2 := X2.keep k8
          have Y1 := Y1.keep k8
          have Y2 := Y2.keep k8
          have B8 : Hid (Below w.heap.size w w8) := bel_trans B7.out k8
          have T3 : Hid (Ls w8 (.slice b3 l1.length e3) l1) := T3.out.keep k8
          have L8 : Hid (Ls w8 (.slice ca ck cc) l1) := L7.out.keep k8
          clear k8 i0 i1 i2 s2 B7 L7 T2
          obtain ⟨⟨q0, q1, q2, q3, q4, q5, q6, q7, q8, q9, q10, q11⟩, s4⟩ := Y2.twelve
          go_wp2_with fail
          refine (bCheck_any mo1 ba1 op1 oh1 ot1 fe1 fp1 fh1 ft1 st1 lo1 _ l1 _ T3.out).mono ?_
          rintro e w9 ⟨rfl, k9⟩
          rw [HK3.out]
          have X1 := X1.keep k9
          have X2 := X2.keep k9
          have Y1 := Y1.keep k9
          have Y2 := Y2.keep k9
          have B9 : Hid (Below w.heap.size w w9) := bel_trans B8.out k9
          have T3 : Hid (Ls w9 (.slice b3 l1.length e3) l1) := T3.out.keep k9
          have L9 : Hid (Ls w9 (.slice ca ck cc) l1) := L8.out.keep k9
          clear k9 q0 q1 q2 q3 q4 q5 q6 q7 q8 q9 q10 q11 s4 B8 L8
          obtain ⟨⟨q0, q1, q2, q3, q4, q5, q6, q7, q8, q9, q10, q11⟩, s4⟩ := Y2.twelve
          obtain ⟨⟨v0, v1, v2, v3, v4, v5, v6, v7, v8, v9, v10, v11⟩, s5⟩ := X2.twelve
          obtain ⟨i0, i1, i2, -, -, -, s2⟩ := Y1.three
          obtain ⟨j0, j1, j2, -, -, -, s3⟩ := X1.three
          go_wp2_with fail
          refine (equalL_any _ _ l1 l1 _ T3.out L9.out).mono ?_
          rintro e w10 ⟨rfl, nz, rfl⟩
          rw [decide_eq_true (rfl : l1 = l1)]
          have T4 : Hid (Ls (w9.drewN nz) (.slice b3 l1.length e3) l1) := T3.out
          have L10 : Hid (Ls (w9.drewN nz) (.slice ca ck cc) l1) := L9.out
          cases d1
          · have HSB : Hid (sameBr ⟨mo, ba, l1, op, oh1, ot, st, fe1, fp, fh, ft1, lo⟩ ⟨mo1, ba1, l1, op1, oh1, ot1, st1, fe1, fp1, fh1, ft1, lo1⟩ = true ∨ sm = 0) := by
              rcases HK10.out with e | ⟨e1', e2'⟩
              · exact .inl (by rw [e]; exact sameBr_self _)
              · refine .inr ?_
                have h1' := HDD.out
                have h2' := HEE.out
                rw [e1', difN_self] at h1'
                rw [e2', difN_self] at h2'
                have := HSM.out
                omega
            obtain ⟨sb, hsb⟩ : ∃ sb, sameBr ⟨mo, ba, l1, op, oh1, ot, st, fe1, fp, fh, ft1, lo⟩ ⟨mo1, ba1, l1, op1, oh1, ot1, st1, fe1, fp1, fh1, ft1, lo1⟩ = sb := ⟨_, rfl⟩
            have HS : Hid _ := hsb
            rw [hsb] at HSB
            clear hsb HK9 HK10 HDD HEE HSM
            go_wp2_with fail
            refine (bSame_any mo ba op oh1 ot fe1 fp fh ft1 st lo _ l1 mo1 ba1 op1 oh1 ot1 fe1 fp1 fh1 ft1 st1 lo1 _ l1 _ L10.out T4.out).mono ?_
            rintro e w11 ⟨rfl, k11⟩
            rw [HS.out]
            have B11 : Hid (Below w.heap.size w w11) := bel_trans (bel_drewN B9.out _) k11
            clear HS k11
            cases sb
            · have hs0 : sm = 0 := by
                rcases HSB.out with e | e
                · cases e
                · exact e
              have hqs : (sm == 0) = true := by simpa using hs0
              clear hs0 HSB
              go_wp2
              go_ret
              exact ⟨rfl, B11.out⟩
            · clear HSB
              go_wp2
              go_ret
              exact ⟨rfl, B11.out⟩
          · obtain ⟨e1', e2', e3', e4'⟩ := HK9.out rfl
            have hs0 : sm = 0 := by
              have h1' := HDD.out
              have h2' := HEE.out
              rw [e1', difN_self] at h1'
              rw [e2', difN_self] at h2'
              have := HSM.out
              omega
            have hqs : (sm == 0) = true := by simpa using hs0
            have hqp : (p1 == p) = true := by simpa using e3'
            have HS : Hid (sameBr ⟨mo, ba, l1, op, oh1, ot, st, fe1, fp, fh, ft1, lo⟩ ⟨mo1, ba1, l1, op1, oh1, ot1, st1, fe1, fp1, fh1, ft1, lo1⟩ = true) := by show _ = _; rw [e4']; exact sameBr_self _
            clear e1' e2' e3' e4' hs0 HK9 HK10 HDD HEE HSM
            go_wp2_with fail
            refine (bSame_any mo ba op oh1 ot fe1 fp fh ft1 st lo _ l1 mo1 ba1 op1 oh1 ot1 fe1 fp1 fh1 ft1 st1 lo1 _ l1 _ L10.out T4.out).mono ?_
            rintro e w11 ⟨rfl, k11⟩
            rw [HS.out]
            have B11 : Hid (Below w.heap.size w w11) := bel_trans (bel_drewN B9.out _) k11
            clear HS k11
            go_wp2
            go_ret
            exact ⟨rfl, B11.out⟩
end Go.Proofs.Ytfbmmiikhkmpfac
/-
  What the openers share.
-/
namespace Go.Proofs.Ytfbmmiikhkmpfac
open Go.ChangeShapes Go.WideShapes Go.ChangeAt Go.RowKit

theorem law_own : ownKnob Try.prog.godebug = none := by kernel_rfl
theorem law_laidOut : laidOutB Try.prog = true := by kernel_rfl
theorem int_cells : Try.prog.cellsOf 3 = 1 := by kernel_rfl
theorem bool_cells : Try.prog.cellsOf 4 = 1 := by kernel_rfl

theorem array5 {cs : List Value} (h : cs.length = 5) : ∃ c0 c1 c2 c3 c4, cs = [c0, c1, c2, c3, c4] := by
  match cs, h with
  | [c0, c1, c2, c3, c4], _ => exact ⟨c0, c1, c2, c3, c4, rfl⟩
theorem array3 {cs : List Value} (h : cs.length = 3) : ∃ c0 c1 c2, cs = [c0, c1, c2] := by
  match cs, h with
  | [c0, c1, c2], _ => exact ⟨c0, c1, c2, rfl⟩
theorem array4 {cs : List Value} (h : cs.length = 4) : ∃ c0 c1 c2 c3, cs = [c0, c1, c2, c3] := by
  match cs, h with
  | [c0, c1, c2, c3], _ => exact ⟨c0, c1, c2, c3, rfl⟩

section
variable {H : Type} {enc : TypeId × Value → H} {W : World}

theorem cell_int {n : Nat} {c : Value} {y : Option (DataW H × List MemPlace)} (h : DataW.trod enc Try.prog W 0 (fun _ => true) true n 3 [c] = y) (hy : y ≠ none) : ∃ a, c = .int .i64 a := by
  cases y with
  | none => exact absurd rfl hy
  | some y =>
    obtain ⟨a, e, _⟩ := DataW.trod_int Try.underlying3 h
    exact ⟨a, by simpa using e⟩
theorem cell_bool {n : Nat} {c : Value} {y : Option (DataW H × List MemPlace)} (h : DataW.trod enc Try.prog W 0 (fun _ => true) true n 4 [c] = y) (hy : y ≠ none) : ∃ a, c = .bool a := by
  cases y with
  | none => exact absurd rfl hy
  | some y =>
    obtain ⟨a, e, _⟩ := DataW.trod_bool Try.underlying4 h
    exact ⟨a, by simpa using e⟩

set_option maxRecDepth 100000 in
theorem cell_intw {n : Nat} {c : Value} {y : Option (DataW H × List MemPlace)} (h : DataW.trod enc Try.prog W 0 (fun _ => true) true n 3 [c] = y) (hy : y ≠ none) : ∃ a, c = .int .i64 a ∧ -9223372036854775808 ≤ a ∧ a ≤ 9223372036854775807 := by
  cases y with
  | none => exact absurd rfl hy
  | some y =>
    obtain ⟨a, e, _, hw⟩ := DataW.trod_int Try.underlying3 h
    refine ⟨a, by simpa using e, ?_⟩
    simp only [Lit.wf, Bool.and_eq_true, decide_eq_true_eq] at hw
    exact hw

end
end Go.Proofs.Ytfbmmiikhkmpfac
/-
  A memory that comes in as an argument reads as a list of numbers (Sl).
-/
namespace Go.Proofs.Ytfbmmiikhkmpfac
open Go.ChangeShapes Go.WideShapes Go.ChangeAt Go.RowKit

theorem mem_cells : Try.prog.cellsOf 33 = 1 := by kernel_rfl
theorem slice_cells : Try.prog.cellsOf 31 = 1 := by kernel_rfl

/-- A cell that reads as a slice of numbers. -/
theorem open_row {H : Type} {enc : TypeId × Value → H} {W : World} {fuel : Nat} {c0 : Value} {x : DataW H × List MemPlace}
    (h : DataW.trod enc Try.prog W 0 (fun _ => true) true fuel 31 [c0] = some x) : ∃ zs, Sl W c0 zs := by
  rcases open_ints Try.underlying31 Try.underlying3 int_cells h with ⟨hcs, _⟩ | ⟨a, len, cap, zs, hcs, _, hl, hm, hz, _, hcell, _⟩
  · simp only [List.cons.injEq, and_true] at hcs
    subst hcs
    exact ⟨[], Sl.nil _ _ _⟩
  · simp only [List.cons.injEq, and_true] at hcs
    subst hcs
    simp only [if_true] at hz
    by_cases h0 : len = 0
    · subst h0
      exact ⟨[], Sl.nil _ _ _⟩
    · obtain ⟨b, off, spot⟩ := a
      have hc := hcell 0 (by omega)
      have hspot : spot = none := by simpa [Addr.add] using World.cell?_spot hc
      subst hspot
      have hlen : (zs.take len).length = len := by simp; omega
      refine ⟨zs.take len, _, cap, by rw [hlen], by omega, .inr ⟨b, off, rfl, ?_, fun i hi => ?_⟩⟩
      · have := World.block_lt_of_cell? W _ hc
        simpa [Addr.add] using this
      · have ha : Addr.add ⟨b, off, none⟩ i = ⟨b, off + i, none⟩ := by unfold Addr.add; split <;> simp_all
        have := hcell i (by omega)
        rw [ha] at this
        rw [this]
        have hi' : i < len := by omega
        simp [nth, hi']

set_option maxRecDepth 100000 in
theorem open_mem {H : Type} {enc : TypeId × Value → H} {W : World} {b0 : Nat} {v : Value} {d : DataW H} {p : List MemPlace} (hv : Value.okWide Try.prog W .any b0 33 v)
    (h : DataW.Trod enc Try.prog W 0 (fun _ => true) true 33 v d p) : ∃ v0 zs, v = .agg #[v0] ∧ Sl W v0 zs := by
  obtain ⟨cs, rfl, hsz⟩ := okWide_struct Try.underlying33 hv
  rw [mem_cells] at hsz
  obtain ⟨l⟩ := cs
  match l, hsz with
  | [c0], _ =>
    obtain ⟨fuel, hf⟩ := h
    obtain ⟨y0, n, _, _, h0⟩ := trod_struct1 Try.underlying33 hf
    obtain ⟨zs, hs⟩ := open_row (c0 := c0) (by simpa [Value.cells, slice_cells] using h0)
    exact ⟨c0, zs, rfl, hs⟩
end Go.Proofs.Ytfbmmiikhkmpfac
/-
  A hart that comes in as an argument is written out.
-/
namespace Go.Proofs.Ytfbmmiikhkmpfac
open Go.ChangeShapes Go.WideShapes Go.ChangeAt Go.RowKit

theorem hart_cells : Try.prog.cellsOf 35 = 3 := by kernel_rfl
section
variable {H : Type} {enc : TypeId × Value → H} {W : World}
set_option maxRecDepth 100000 in
theorem open_hrt {b0 : Nat} {v : Value} {d : DataW H} {p : List MemPlace} (hv : Value.okWide Try.prog W .any b0 35 v) (h : DataW.Trod enc Try.prog W 0 (fun _ => true) true 35 v d p) :
    ∃ a u l b, v = .agg #[.int .i64 a, u, .bool b] ∧ Sl W u l := by
  obtain ⟨cs, rfl, _⟩ := okWide_struct Try.underlying35 hv
  obtain ⟨fuel, hf⟩ := h
  obtain ⟨xs, n, _, _, hl, hlen, hf⟩ := DataW.trod_struct Try.underlying35 hf
  rw [hart_cells] at hl
  obtain ⟨l⟩ := cs
  simp only [Value.cells] at hl hf
  obtain ⟨c0, c1, c2, rfl⟩ := array3 hl
  have some_at : ∀ i, i < 3 → ∃ y, xs[i]? = some y := fun i hi => by
    rw [List.getElem?_eq_getElem (by rw [hlen]; exact hi)]; simp
  have ne_at : ∀ i, i < 3 → xs[i]? ≠ none := fun i hi => by
    obtain ⟨y, hy⟩ := some_at i hi; rw [hy]; simp
  obtain ⟨a, rfl⟩ := cell_int (by simpa [int_cells, bool_cells, slice_cells] using hf 0 _ rfl) (ne_at 0 (by omega))
  obtain ⟨y1, hy1⟩ := some_at 1 (by omega)
  obtain ⟨l, hL⟩ := open_row (c0 := c1) (x := y1) (by rw [← hy1]; simpa [int_cells, bool_cells, slice_cells] using hf 1 _ rfl)
  obtain ⟨b, rfl⟩ := cell_bool (by simpa [int_cells, bool_cells, slice_cells] using hf 2 _ rfl) (ne_at 2 (by omega))
  exact ⟨a, c1, l, b, rfl, hL⟩
end
end Go.Proofs.Ytfbmmiikhkmpfac
/-
  An order that comes in as an argument is written out.
-/
namespace Go.Proofs.Ytfbmmiikhkmpfac
open Go.ChangeShapes Go.WideShapes Go.ChangeAt Go.RowKit

section
variable {H : Type} {enc : TypeId × Value → H} {W : World}

end
end Go.Proofs.Ytfbmmiikhkmpfac
/-
  Lines, a line, an order that come in as arguments are written out.
-/
namespace Go.Proofs.Ytfbmmiikhkmpfac
open Go.ChangeShapes Go.WideShapes Go.ChangeAt Go.RowKit

theorem line_cells : Try.prog.cellsOf 56 = 5 := by kernel_rfl

section
variable {H : Type} {enc : TypeId × Value → H} {W : World}

set_option maxRecDepth 100000 in
/-- The cells of a line. -/
theorem line_open {fuel : Nat} {cs : List Value} {x : DataW H × List MemPlace} (h : DataW.trod enc Try.prog W 0 (fun _ => true) true fuel 56 cs = some x) :
    ∃ y : Ln, cs = [.int .i64 y.1, .int .i64 y.2.1, .int .i64 y.2.2.1, .bool y.2.2.2.1, .bool y.2.2.2.2] := by
  obtain ⟨xs, n, _, _, hl, hlen, hf⟩ := DataW.trod_struct Try.underlying56 h
  rw [line_cells] at hl
  obtain ⟨c0, c1, c2, c3, c4, rfl⟩ := array5 hl
  have some_at : ∀ i, i < 5 → xs[i]? ≠ none := fun i hi => by
    rw [List.getElem?_eq_getElem (by rw [hlen]; exact hi)]; simp
  obtain ⟨a, rfl⟩ := cell_int (by simpa [int_cells] using hf 0 _ rfl) (some_at 0 (by omega))
  obtain ⟨b, rfl⟩ := cell_int (by simpa [int_cells] using hf 1 _ rfl) (some_at 1 (by omega))
  obtain ⟨c, rfl⟩ := cell_int (by simpa [int_cells] using hf 2 _ rfl) (some_at 2 (by omega))
  obtain ⟨d, rfl⟩ := cell_bool (by simpa [bool_cells] using hf 3 _ rfl) (some_at 3 (by omega))
  obtain ⟨p, rfl⟩ := cell_bool (by simpa [bool_cells] using hf 4 _ rfl) (some_at 4 (by omega))
  exact ⟨(a, b, c, d, p), rfl⟩
set_option maxRecDepth 100000 in
theorem open_line {b0 : Nat} {v : Value} {d : DataW H} {p : List MemPlace} (hv : Value.okWide Try.prog W .any b0 56 v) (h : DataW.Trod enc Try.prog W 0 (fun _ => true) true 56 v d p) :
    ∃ a b c e n, v = .agg #[.int .i64 a, .int .i64 b, .int .i64 c, .bool e, .bool n] := by
  obtain ⟨cs, rfl, _⟩ := okWide_struct Try.underlying56 hv
  obtain ⟨fuel, hf⟩ := h
  obtain ⟨y, hc⟩ := line_open hf
  obtain ⟨l⟩ := cs
  simp only [Value.cells] at hc
  exact ⟨_, _, _, _, _, by rw [hc]⟩
theorem choose_len {P : Nat → Ln → Prop} : ∀ n, (∀ i, i < n → ∃ y, P i y) → ∃ l : List Ln, l.length = n ∧ ∀ i, i < n → P i (lth l i)
  | 0, _ => ⟨[], rfl, fun i hi => absurd hi (Nat.not_lt_zero _)⟩
  | n + 1, h => by
    obtain ⟨l, hl, hp⟩ := choose_len n fun i hi => h i (by omega)
    obtain ⟨y, hy⟩ := h n (by omega)
    refine ⟨l ++ [y], by simp [hl], fun i hi => ?_⟩
    by_cases e : i = n
    · subst e
      have : lth (l ++ [y]) i = y := by simp [lth, ← hl]
      rw [this]; exact hy
    · have : lth (l ++ [y]) i = lth l i := by
        have hi' : i < l.length := by omega
        simp [lth, List.getElem?_append_left hi']
      rw [this]; exact hp i (by omega)

set_option maxRecDepth 100000 in
/-- A cell that reads as a slice of lines. -/
theorem lines_row {fuel : Nat} {c0 : Value} {x : DataW H × List MemPlace} (h : DataW.trod enc Try.prog W 0 (fun _ => true) true fuel 36 [c0] = some x) : ∃ l, Ls W c0 l := by
  rcases Deep.open_slice Try.underlying36 h with ⟨hcs, _⟩ | ⟨a, len, cap, m, n, D, Pl, hcs, hb, hl, hm, hmm, _, hx⟩
  · simp only [List.cons.injEq, and_true] at hcs
    subst hcs
    exact ⟨[], Ls.nothing _⟩
  · simp only [List.cons.injEq, and_true] at hcs
    subst hcs
    simp only [if_true] at hmm
    rw [line_cells] at hx
    by_cases h0 : len = 0
    · subst h0
      exact ⟨[], Ls.nil _ _ _ hm⟩
    · obtain ⟨b, off, spot⟩ := a
      have each : ∀ i, i < len → ∃ y : Ln, ∀ j u, (j < 5 ∧ [Value.int .i64 y.1, .int .i64 y.2.1, .int .i64 y.2.2.1, .bool y.2.2.2.1, .bool y.2.2.2.2][j]? = some u) → W.cell? ((⟨b, off, spot⟩ : Addr).add (i * 5 + j)) = some u := by
        intro i hi
        obtain ⟨cs', h1, h2⟩ := hx i (by omega)
        obtain ⟨y, rfl⟩ := line_open h2
        obtain ⟨_, _, hcell⟩ := World.cells?_some h1
        refine ⟨y, fun j u ⟨hj, hu⟩ => ?_⟩
        have := hcell j (by omega)
        rw [Deep.add_add, hu] at this
        exact this
      obtain ⟨l, hlen, hp⟩ := choose_len (P := fun i y => ∀ j u, (j < 5 ∧ [Value.int .i64 y.1, .int .i64 y.2.1, .int .i64 y.2.2.1, .bool y.2.2.2.1, .bool y.2.2.2.2][j]? = some u) → W.cell? ((⟨b, off, spot⟩ : Addr).add (i * 5 + j)) = some u) len each
      have hc := hp 0 (by omega) 0 _ ⟨by omega, rfl⟩
      have hspot : spot = none := by simpa [Addr.add] using World.cell?_spot hc
      subst hspot
      have ha : ∀ i, Addr.add ⟨b, off, none⟩ i = ⟨b, off + i, none⟩ := fun i => by unfold Addr.add; split <;> simp_all
      refine ⟨l, _, cap, by rw [hlen], by omega, hm, .inr ⟨b, off, rfl, ?_, fun i hi => ?_⟩⟩
      · have := World.block_lt_of_cell? W _ hc
        simpa [Addr.add] using this
      · rw [hlen] at hi
        have hq := hp i hi
        refine ⟨?_, ?_, ?_, ?_, ?_⟩
        · have := hq 0 _ ⟨by omega, rfl⟩; rw [ha] at this; exact this
        · have := hq 1 _ ⟨by omega, rfl⟩; rw [ha, ← Nat.add_assoc] at this; exact this
        · have := hq 2 _ ⟨by omega, rfl⟩; rw [ha, ← Nat.add_assoc] at this; exact this
        · have := hq 3 _ ⟨by omega, rfl⟩; rw [ha, ← Nat.add_assoc] at this; exact this
        · have := hq 4 _ ⟨by omega, rfl⟩; rw [ha, ← Nat.add_assoc] at this; exact this
set_option maxRecDepth 100000 in
theorem open_lines {b0 : Nat} {v : Value} {d : DataW H} {p : List MemPlace} (hv : Value.okWide Try.prog W .any b0 36 v) (h : DataW.Trod enc Try.prog W 0 (fun _ => true) true 36 v d p) :
    ∃ l, Ls W v l := by
  obtain ⟨fuel, hf⟩ := h
  have hone : v.cells.toList = [v] := by
    simp only [Value.okWide, Try.underlying36, Cell.okWide] at hv
    cases v <;> simp_all [Value.cells, Cell.ok]
  rw [hone] at hf
  exact lines_row hf
end
end Go.Proofs.Ytfbmmiikhkmpfac
/-
  A ring that comes in as an argument is written out.
-/
namespace Go.Proofs.Ytfbmmiikhkmpfac
open Go.ChangeShapes Go.WideShapes Go.ChangeAt Go.RowKit

theorem ring_cells : Try.prog.cellsOf 38 = 3 := by kernel_rfl
section
variable {H : Type} {enc : TypeId × Value → H} {W : World}
set_option maxRecDepth 100000 in
/-- The cells of a ring. -/
theorem ring_open {fuel : Nat} {cs : List Value} {x : DataW H × List MemPlace} (h : DataW.trod enc Try.prog W 0 (fun _ => true) true fuel 38 cs = some x) :
    ∃ a b p, cs = [.int .i64 a, .int .i64 b, .int .i64 p] := by
  obtain ⟨xs, n, _, _, hl, hlen, hf⟩ := DataW.trod_struct Try.underlying38 h
  rw [ring_cells] at hl
  obtain ⟨c0, c1, c2, rfl⟩ := array3 hl
  have some_at : ∀ i, i < 3 → xs[i]? ≠ none := fun i hi => by
    rw [List.getElem?_eq_getElem (by rw [hlen]; exact hi)]; simp
  obtain ⟨a, rfl⟩ := cell_int (by simpa [int_cells] using hf 0 _ rfl) (some_at 0 (by omega))
  obtain ⟨b, rfl⟩ := cell_int (by simpa [int_cells] using hf 1 _ rfl) (some_at 1 (by omega))
  obtain ⟨p, rfl⟩ := cell_int (by simpa [int_cells] using hf 2 _ rfl) (some_at 2 (by omega))
  exact ⟨a, b, p, rfl⟩
set_option maxRecDepth 100000 in
theorem open_ring {b0 : Nat} {v : Value} {d : DataW H} {p : List MemPlace} (hv : Value.okWide Try.prog W .any b0 38 v) (h : DataW.Trod enc Try.prog W 0 (fun _ => true) true 38 v d p) :
    ∃ a b n, v = .agg #[.int .i64 a, .int .i64 b, .int .i64 n] := by
  obtain ⟨cs, rfl, _⟩ := okWide_struct Try.underlying38 hv
  obtain ⟨fuel, hf⟩ := h
  obtain ⟨a, b, n, hc⟩ := ring_open hf
  obtain ⟨l⟩ := cs
  simp only [Value.cells] at hc
  exact ⟨a, b, n, by rw [hc]⟩
end
end Go.Proofs.Ytfbmmiikhkmpfac
/-
  A bridge that comes in as an argument is written out.
-/
namespace Go.Proofs.Ytfbmmiikhkmpfac
open Go.ChangeShapes Go.WideShapes Go.ChangeAt Go.RowKit

theorem bri_cells : Try.prog.cellsOf 40 = 12 := by kernel_rfl
theorem lines_cells : Try.prog.cellsOf 36 = 1 := by kernel_rfl
theorem array12 {cs : List Value} (h : cs.length = 12) : ∃ c0 c1 c2 c3 c4 c5 c6 c7 c8 c9 c10 c11, cs = [c0, c1, c2, c3, c4, c5, c6, c7, c8, c9, c10, c11] := by
  match cs, h with
  | [c0, c1, c2, c3, c4, c5, c6, c7, c8, c9, c10, c11], _ => exact ⟨c0, c1, c2, c3, c4, c5, c6, c7, c8, c9, c10, c11, rfl⟩
section
variable {H : Type} {enc : TypeId × Value → H} {W : World}
set_option maxRecDepth 100000 in
theorem open_bri {b0 : Nat} {v : Value} {d : DataW H} {p : List MemPlace} (hv : Value.okWide Try.prog W .any b0 40 v) (h : DataW.Trod enc Try.prog W 0 (fun _ => true) true 40 v d p) :
    ∃ mo ba op oh ot fe fp fh ft st lo vc l, v = .agg #[.int .i64 mo, .int .i64 ba, vc, .int .i64 op, .int .i64 oh, .int .i64 ot, .bool st, .int .i64 fe, .int .i64 fp, .int .i64 fh, .int .i64 ft, .bool lo] ∧ Ls W vc l := by
  obtain ⟨cs, rfl, _⟩ := okWide_struct Try.underlying40 hv
  obtain ⟨fuel, hf⟩ := h
  obtain ⟨xs, n, _, _, hl, hlen, hf⟩ := DataW.trod_struct Try.underlying40 hf
  rw [bri_cells] at hl
  obtain ⟨l⟩ := cs
  simp only [Value.cells] at hl hf
  obtain ⟨c0, c1, c2, c3, c4, c5, c6, c7, c8, c9, c10, c11, rfl⟩ := array12 hl
  have some_at : ∀ i, i < 8 → ∃ y, xs[i]? = some y := fun i hi => by
    rw [List.getElem?_eq_getElem (by rw [hlen]; exact hi)]; simp
  have ne_at : ∀ i, i < 8 → xs[i]? ≠ none := fun i hi => by
    obtain ⟨y, hy⟩ := some_at i hi; rw [hy]; simp
  obtain ⟨mo, rfl⟩ := cell_int (by simpa [int_cells, bool_cells, lines_cells, ring_cells] using hf 0 _ rfl) (ne_at 0 (by omega))
  obtain ⟨ba, rfl⟩ := cell_int (by simpa [int_cells, bool_cells, lines_cells, ring_cells] using hf 1 _ rfl) (ne_at 1 (by omega))
  obtain ⟨y2, hy2⟩ := some_at 2 (by omega)
  obtain ⟨l, hL⟩ := lines_row (c0 := c2) (x := y2) (by rw [← hy2]; simpa [int_cells, bool_cells, lines_cells, ring_cells] using hf 2 _ rfl)
  obtain ⟨y3, hy3⟩ := some_at 3 (by omega)
  obtain ⟨op, oh, ot, e3⟩ := ring_open (cs := [c3, c4, c5]) (x := y3) (by rw [← hy3]; simpa [int_cells, bool_cells, lines_cells, ring_cells] using hf 3 _ rfl)
  obtain ⟨st, rfl⟩ := cell_bool (by simpa [int_cells, bool_cells, lines_cells, ring_cells] using hf 4 _ rfl) (ne_at 4 (by omega))
  obtain ⟨fe, rfl⟩ := cell_int (by simpa [int_cells, bool_cells, lines_cells, ring_cells] using hf 5 _ rfl) (ne_at 5 (by omega))
  obtain ⟨y6, hy6⟩ := some_at 6 (by omega)
  obtain ⟨fp, fh, ft, e6⟩ := ring_open (cs := [c8, c9, c10]) (x := y6) (by rw [← hy6]; simpa [int_cells, bool_cells, lines_cells, ring_cells] using hf 6 _ rfl)
  obtain ⟨lo, rfl⟩ := cell_bool (by simpa [int_cells, bool_cells, lines_cells, ring_cells] using hf 7 _ rfl) (ne_at 7 (by omega))
  simp only [List.cons.injEq, and_true] at e3 e6
  obtain ⟨rfl, rfl, rfl⟩ := e3
  obtain ⟨rfl, rfl, rfl⟩ := e6
  exact ⟨mo, ba, op, oh, ot, fe, fp, fh, ft, st, lo, c2, l, rfl, hL⟩
end
end Go.Proofs.Ytfbmmiikhkmpfac
