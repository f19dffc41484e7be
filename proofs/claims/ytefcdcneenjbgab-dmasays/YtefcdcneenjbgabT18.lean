/-
  Laid together: DSaysWalk.
-/
import Derived.Test.YtefcdcneenjbgabT17
/-
  The walk of DmaSays.
-/
namespace Go.Proofs.Ytefcdcneenjbgab
open Go.RowKit

theorem sameBr_refl (b : Br) : sameBr b b = true := by simp [sameBr]

set_option maxRecDepth 10000 in
set_option maxHeartbeats 8000000 in
theorem dmaSays_walk (v : Value) (zs : List Int) (mo ba op oh ot fe fp fh ft : Int) (st lo : Bool) (vc : Value) (l : List Ln) (d a n : Int) (fw : Bool) (u : Value) (ds : List Int) (w : World) (hs : Sl w v zs) (h : Ls w vc l) (hd : Sl w u ds) :
    Calls Try.prog 11 #[.agg #[v], .agg #[.int .i64 mo, .int .i64 ba, vc, .int .i64 op, .int .i64 oh, .int .i64 ot, .bool st, .int .i64 fe, .int .i64 fp, .int .i64 fh, .int .i64 ft, .bool lo], .agg #[.int .i64 d, .int .i64 a, .int .i64 n, .bool fw, u]] w fun e w' => e = .returned (.bool true) ∧ Below w.heap.size w w' := by
  have HS : Hid (Ls w vc l) := h
  obtain ⟨va, vk, rfl, -⟩ := h.shape
  have HM : Hid (Sl w v zs) := hs
  obtain ⟨ma, mc, rfl⟩ := hs.shape
  have HD : Hid (Sl w u ds) := hd
  obtain ⟨da, dc, rfl⟩ := hd.shape
  clear h hs hd
  obtain ⟨E, hE⟩ : ∃ E, doE zs ⟨mo, ba, l, op, oh, ot, st, fe, fp, fh, ft, lo⟩ d a n fw ds = E := ⟨_, rfl⟩
  obtain ⟨⟨⟨ms, ⟨mo1, ba1, l1, op1, oh1, ot1, st1, fe1, fp1, fh1, ft1, lo1⟩, dat, tch⟩, f⟩, hR⟩ : ∃ R, doR zs ⟨mo, ba, l, op, oh, ot, st, fe, fp, fh, ft, lo⟩ d a n fw ds = R := ⟨_, rfl⟩
  obtain ⟨dn, hdn⟩ : ∃ dn, (decide (E = 0) && decide (f = 0)) = dn := ⟨_, rfl⟩
  have HE : Hid (_ = E) := hE
  have HR : Hid (_ = _) := hR
  have HDN : Hid (_ = dn) := hdn
  clear hE hR hdn
  have B0 : Hid (Below w.heap.size w _) := bel_alloc (bel_alloc (bel_alloc (Below.refl w.heap.size w) (.cells #[.slice ma zs.length mc] 39)) (.cells #[.int .i64 mo, .int .i64 ba, .slice va l.length vk, .int .i64 op, .int .i64 oh, .int .i64 ot, .bool st, .int .i64 fe, .int .i64 fp, .int .i64 fh, .int .i64 ft, .bool lo] 44)) (.cells #[.int .i64 d, .int .i64 a, .int .i64 n, .bool fw, .slice da ds.length dc] 79)
  go_enter Try.func11, Try.ntmps11
  go_wp2_with fail
  refine (do_at (HM.out.keep B0.out) (HS.out.keep B0.out) (HD.out.keep B0.out) HE.out HR.out HDN.out).mono ?_
  rintro e w2 ⟨ma1, mc1, va1, vk1, da1, dc1, ta1, tc1, rfl, hS2, hL2, hD2, hT2, b2, -, -, -, -⟩
  have X0 := (((Box.newAt (n := w.heap.size) rfl 39 #[.slice ma zs.length mc]).past _).past _).keep b2
  have X1 := ((Box.newAt (n := w.heap.size + 1) (by simp) 44 #[.int .i64 mo, .int .i64 ba, .slice va l.length vk, .int .i64 op, .int .i64 oh, .int .i64 ot, .bool st, .int .i64 fe, .int .i64 fp, .int .i64 fh, .int .i64 ft, .bool lo]).past _).keep b2
  have X2 := (Box.newAt (n := w.heap.size + 1 + 1) (by simp) 79 #[.int .i64 d, .int .i64 a, .int .i64 n, .bool fw, .slice da ds.length dc]).keep b2
  have B2 : Hid (Below w.heap.size w w2) := bel_trans B0.out b2
  have BA : Hid (Below w2.heap.size w2 (((w2.alloc (.cells #[.slice ma1 ms.length mc1] 39)).alloc (.cells #[.int .i64 mo1, .int .i64 ba1, .slice va1 l1.length vk1, .int .i64 op1, .int .i64 oh1, .int .i64 ot1, .bool st1, .int .i64 fe1, .int .i64 fp1, .int .i64 fh1, .int .i64 ft1, .bool lo1] 44)).alloc (.cells #[.bool dn, .slice da1 dat.length dc1, .int .i64 f, .slice ta1 tch.length tc1] 82))) := bel_alloc (bel_alloc (bel_alloc (Below.refl _ _) _) _) _
  have P0 := ((Box.newAt (w := w2) rfl 39 #[.slice ma1 ms.length mc1]).past (.cells #[.int .i64 mo1, .int .i64 ba1, .slice va1 l1.length vk1, .int .i64 op1, .int .i64 oh1, .int .i64 ot1, .bool st1, .int .i64 fe1, .int .i64 fp1, .int .i64 fh1, .int .i64 ft1, .bool lo1] 44)).past (.cells #[.bool dn, .slice da1 dat.length dc1, .int .i64 f, .slice ta1 tch.length tc1] 82)
  have P1 := (Box.newAt (w := w2.alloc (.cells #[.slice ma1 ms.length mc1] 39)) (n := w2.heap.size + 1) (by simp) 44 #[.int .i64 mo1, .int .i64 ba1, .slice va1 l1.length vk1, .int .i64 op1, .int .i64 oh1, .int .i64 ot1, .bool st1, .int .i64 fe1, .int .i64 fp1, .int .i64 fh1, .int .i64 ft1, .bool lo1]).past (.cells #[.bool dn, .slice da1 dat.length dc1, .int .i64 f, .slice ta1 tch.length tc1] 82)
  have P2 := Box.newAt (w := (w2.alloc (.cells #[.slice ma1 ms.length mc1] 39)).alloc (.cells #[.int .i64 mo1, .int .i64 ba1, .slice va1 l1.length vk1, .int .i64 op1, .int .i64 oh1, .int .i64 ot1, .bool st1, .int .i64 fe1, .int .i64 fp1, .int .i64 fh1, .int .i64 ft1, .bool lo1] 44)) (n := w2.heap.size + 1 + 1) (by simp) 82 #[.bool dn, .slice da1 dat.length dc1, .int .i64 f, .slice ta1 tch.length tc1]
  have HSn : Hid (Sl (((w2.alloc (.cells #[.slice ma1 ms.length mc1] 39)).alloc (.cells #[.int .i64 mo1, .int .i64 ba1, .slice va1 l1.length vk1, .int .i64 op1, .int .i64 oh1, .int .i64 ot1, .bool st1, .int .i64 fe1, .int .i64 fp1, .int .i64 fh1, .int .i64 ft1, .bool lo1] 44)).alloc (.cells #[.bool dn, .slice da1 dat.length dc1, .int .i64 f, .slice ta1 tch.length tc1] 82)) _ ms) := hS2.keep BA.out
  have HLn : Hid (Ls (((w2.alloc (.cells #[.slice ma1 ms.length mc1] 39)).alloc (.cells #[.int .i64 mo1, .int .i64 ba1, .slice va1 l1.length vk1, .int .i64 op1, .int .i64 oh1, .int .i64 ot1, .bool st1, .int .i64 fe1, .int .i64 fp1, .int .i64 fh1, .int .i64 ft1, .bool lo1] 44)).alloc (.cells #[.bool dn, .slice da1 dat.length dc1, .int .i64 f, .slice ta1 tch.length tc1] 82)) _ l1) := hL2.keep BA.out
  have HDn : Hid (Sl (((w2.alloc (.cells #[.slice ma1 ms.length mc1] 39)).alloc (.cells #[.int .i64 mo1, .int .i64 ba1, .slice va1 l1.length vk1, .int .i64 op1, .int .i64 oh1, .int .i64 ot1, .bool st1, .int .i64 fe1, .int .i64 fp1, .int .i64 fh1, .int .i64 ft1, .bool lo1] 44)).alloc (.cells #[.bool dn, .slice da1 dat.length dc1, .int .i64 f, .slice ta1 tch.length tc1] 82)) _ dat) := hD2.keep BA.out
  have HTn : Hid (Ts (((w2.alloc (.cells #[.slice ma1 ms.length mc1] 39)).alloc (.cells #[.int .i64 mo1, .int .i64 ba1, .slice va1 l1.length vk1, .int .i64 op1, .int .i64 oh1, .int .i64 ot1, .bool st1, .int .i64 fe1, .int .i64 fp1, .int .i64 fh1, .int .i64 ft1, .bool lo1] 44)).alloc (.cells #[.bool dn, .slice da1 dat.length dc1, .int .i64 f, .slice ta1 tch.length tc1] 82)) _ tch) := hT2.keep BA.out
  have BB : Hid (Below w.heap.size w (((w2.alloc (.cells #[.slice ma1 ms.length mc1] 39)).alloc (.cells #[.int .i64 mo1, .int .i64 ba1, .slice va1 l1.length vk1, .int .i64 op1, .int .i64 oh1, .int .i64 ot1, .bool st1, .int .i64 fe1, .int .i64 fp1, .int .i64 fh1, .int .i64 ft1, .bool lo1] 44)).alloc (.cells #[.bool dn, .slice da1 dat.length dc1, .int .i64 f, .slice ta1 tch.length tc1] 82))) := bel_trans B2.out BA.out
  replace X0 := X0.keep BA.out
  replace X1 := X1.keep BA.out
  replace X2 := X2.keep BA.out
  have zN : w.heap.size + 1 + 1 < w2.heap.size := by have := b2.size; simp at this; omega
  clear hS2 hL2 hD2 hT2 b2 B0 B2 BA
  obtain ⟨m0, -, s0⟩ := X0.one
  go_wp2_with fail
  clear m0 s0
  generalize (((w2.alloc (.cells #[.slice ma1 ms.length mc1] 39)).alloc (.cells #[.int .i64 mo1, .int .i64 ba1, .slice va1 l1.length vk1, .int .i64 op1, .int .i64 oh1, .int .i64 ot1, .bool st1, .int .i64 fe1, .int .i64 fp1, .int .i64 fh1, .int .i64 ft1, .bool lo1] 44)).alloc (.cells #[.bool dn, .slice da1 dat.length dc1, .int .i64 f, .slice ta1 tch.length tc1] 82)) = W at *
  generalize w2.heap.size = P at *
  refine (checkMem_any _ zs _ (HM.out.keep BB.out)).mono ?_
  rintro e w3 ⟨rfl, b3⟩
  have HME : Hid (chk zs = 0 → chkB ⟨mo, ba, l, op, oh, ot, st, fe, fp, fh, ft, lo⟩ = 0 → E = ckA d a n fw ds) := fun h1 h2 => by rw [← HE.out, doE, if_pos (bothB_mk h1 h2)]
  have HMB : Hid (chk zs = 0 → ¬ chkB ⟨mo, ba, l, op, oh, ot, st, fe, fp, fh, ft, lo⟩ = 0 → E = chkB ⟨mo, ba, l, op, oh, ot, st, fe, fp, fh, ft, lo⟩) := fun h1 h2 => by
    have hb : bothB zs ⟨mo, ba, l, op, oh, ot, st, fe, fp, fh, ft, lo⟩ = chkB ⟨mo, ba, l, op, oh, ot, st, fe, fp, fh, ft, lo⟩ := if_pos h1
    rw [← HE.out, doE, hb, if_neg h2]
  have HMM : Hid (¬ chk zs = 0 → E = chk zs) := fun h1 => by
    have hb : bothB zs ⟨mo, ba, l, op, oh, ot, st, fe, fp, fh, ft, lo⟩ = chk zs := if_neg h1
    rw [← HE.out, doE, hb, if_neg h1]
  by_cases hz : chk zs = 0
  rotate_left
  · have hE0 : ¬ E = 0 := by rw [HMM.out hz]; exact hz
    rw [← HMM.out hz]
    have hq : (E == 0) = false := by simpa using hE0
    have BV : Hid (Below w.heap.size w w3) := bel_trans BB.out b3
    have HDV : Hid (Sl w3 _ ds) := HD.out.keep BV.out
    have HLV : Hid (Ls w3 _ l1) := HLn.out.keep b3
    have HTV : Hid (Ts w3 _ tch) := HTn.out.keep b3
    have HAV : Hid (Sl w3 _ dat) := HDn.out.keep b3
    have HSV : Hid (Sl w3 _ ms) := HSn.out.keep b3
    replace X0 := X0.keep b3
    replace X1 := X1.keep b3
    replace X2 := X2.keep b3
    replace P0 := P0.keep b3
    replace P1 := P1.keep b3
    replace P2 := P2.keep b3
    have HPU : Hid (P + 1 + 1 < w3.heap.size) := P2.lt
    clear b3 HSn HLn HDn HTn BB
    obtain ⟨V, rfl⟩ : ∃ V, V = w3 := ⟨_, rfl⟩
    have h0 := HR.out
    rw [doR, if_neg (by rw [HE.out]; exact hE0)] at h0
    simp only [Prod.mk.injEq, St.mk.injEq, B0, Br.mk.injEq] at h0
    obtain ⟨⟨rfl, ⟨rfl, rfl, rfl, rfl, rfl, rfl, rfl, rfl, rfl, rfl, rfl, rfl⟩, rfl, rfl⟩, rfl⟩ := h0
    obtain rfl : dn = false := by rw [← HDN.out, decide_eq_false hE0]; rfl
    have hE1 : (E != 0) = true := by simpa using hE0
    have hE2 : (E == 0) = false := by simpa using hE0
    go_upto_region 7 with fail
    obtain ⟨c0, c1, c2, c3, c4⟩ := X2.blk.five
    have sA := X2.lt
    go_cut [46] from 34 to 46 (fun s wx => s = .bool (E != 0) ∧ Below V.heap.size V wx)
    case first =>
      clear P0 P1 P2 X0 X1
      refine wp_region_held_drew (S := (fun w' => w'.cell? ⟨w.heap.size + 1 + 1, 0, none⟩ = some (.int .i64 d) ∧ w'.cell? ⟨w.heap.size + 1 + 1, 1, none⟩ = some (.int .i64 a) ∧ w'.cell? ⟨w.heap.size + 1 + 1, 2, none⟩ = some (.int .i64 n) ∧ w'.cell? ⟨w.heap.size + 1 + 1, 3, none⟩ = some (.bool fw) ∧ w'.cell? ⟨w.heap.size + 1 + 1, 4, none⟩ = some (.slice da ds.length dc) ∧ Below V.heap.size V w')) (by kernel_rfl) (keep5 c0 c1 c2 c3 c4 sA (Below.drew (Below.refl _ _))) (fun hHeld => ?_)
      refine wpHeld_oneL (i := 0) (by kernel_rfl) (by rfl) (fun K hK => ?_)
      go_simp
      refine (carried_true _).mono ?_
      rintro e x1 ⟨rfl, y1⟩
      go_wp2_with fail
      refine hK.out _ _ ?_ (fun hHeld2 => ?_)
      · exact keep5 c0 c1 c2 c3 c4 sA (bel_trans (limb5 hHeld) y1)
      clear hK K hHeld
      have hHeld := hHeld2
      clear hHeld2
      refine wpHeld_takeL (i := 1) (v := ?_) rfl (by kernel_rfl) (by kernel_rfl) (by kernel_rfl) (fun _ _ _ h => h) (Or.inl ⟨by kernel_rfl, ?_⟩) (by assumption) ?_
      rotate_left 1
      focus (intro wz hSz; (try dsimp only at hSz); go_simp; (try with_reducible rfl))
      simp only [Act.put, List.setIfInBounds_toArray, List.set_cons_zero, List.set_cons_succ]
      refine wpHeld_takeL (i := 2) (v := ?_) rfl (by kernel_rfl) (by kernel_rfl) (by kernel_rfl) (fun _ _ _ h => h) (Or.inl ⟨by kernel_rfl, ?_⟩) (by assumption) ?_
      rotate_left 1
      focus (intro wz hSz; (try dsimp only at hSz); go_simp; (try with_reducible rfl))
      simp only [Act.put, List.setIfInBounds_toArray, List.set_cons_zero, List.set_cons_succ]
      refine wpHeld_takeL (i := 3) (v := ?_) rfl (by kernel_rfl) (by kernel_rfl) (by kernel_rfl) (fun _ _ _ h => h) (Or.inl ⟨by kernel_rfl, ?_⟩) (by assumption) ?_
      rotate_left 1
      focus (intro wz hSz; (try dsimp only at hSz); go_simp; (try with_reducible rfl))
      simp only [Act.put, List.setIfInBounds_toArray, List.set_cons_zero, List.set_cons_succ]
      refine wpHeld_takeL (i := 5) (v := ?_) rfl (by kernel_rfl) (by kernel_rfl) (by kernel_rfl) (fun _ _ _ h => h) (Or.inl ⟨by kernel_rfl, ?_⟩) (by assumption) ?_
      rotate_left 1
      focus (intro wz hSz; (try dsimp only at hSz); go_simp; (try with_reducible rfl))
      simp only [Act.put, List.setIfInBounds_toArray, List.set_cons_zero, List.set_cons_succ]
      refine wpHeld_oneL (i := 4) (by kernel_rfl) (by rfl) (fun K hK => ?_)
      go_simp
      refine (dCheck_any d a n fw _ ds _ ?_).mono ?_
      · exact HDV.out.keep (limb5 hHeld)
      rintro e x2 ⟨rfl, y2⟩
      go_wp2_with fail
      refine hK.out _ _ ?_ (fun hHeld2 => ?_)
      · exact keep5 c0 c1 c2 c3 c4 sA (bel_trans (limb5 hHeld) y2)
      clear hK K hHeld
      have hHeld := hHeld2
      clear hHeld2
      refine wpHeld_oneL (i := 6) (by kernel_rfl) (by rfl) (fun K hK => ?_)
      go_simp
      refine (checkAsk_any d a n fw _ ds _ ?_).mono ?_
      · exact HDV.out.keep (limb5 hHeld)
      rintro e x3 ⟨rfl, y3⟩
      go_wp2_with fail
      refine hK.out _ _ ?_ (fun hHeld2 => ?_)
      · exact keep5 c0 c1 c2 c3 c4 sA (bel_trans (limb5 hHeld) y3)
      clear hK K hHeld
      have hHeld := hHeld2
      clear hHeld2
      refine wpHeld_takeL (i := 7) (v := ?_) rfl (by kernel_rfl) (by kernel_rfl) (by kernel_rfl) (fun _ _ _ h => h) (Or.inl ⟨by kernel_rfl, ?_⟩) (by assumption) ?_
      rotate_left 1
      focus (intro wz hSz; (try dsimp only at hSz); go_simp; (try with_reducible rfl))
      simp only [Act.put, List.setIfInBounds_toArray, List.set_cons_zero, List.set_cons_succ]
      refine wpHeld_takeL (i := 8) (v := ?_) rfl (by kernel_rfl) (by kernel_rfl) (by kernel_rfl) (fun _ _ _ h => h) (Or.inl ⟨by kernel_rfl, ?_⟩) (by assumption) ?_
      rotate_left 1
      focus (intro wz hSz; (try dsimp only at hSz); go_simp; (try with_reducible rfl))
      simp only [Act.put, List.setIfInBounds_toArray, List.set_cons_zero, List.set_cons_succ]
      refine wpHeld_takeL (i := 9) (v := ?_) rfl (by kernel_rfl) (by kernel_rfl) (by kernel_rfl) (fun _ _ _ h => h) (Or.inl ⟨by kernel_rfl, ?_⟩) (by assumption) ?_
      rotate_left 1
      focus (intro wz hSz; (try dsimp only at hSz); go_simp; (try with_reducible rfl))
      simp only [Act.put, List.setIfInBounds_toArray, List.set_cons_zero, List.set_cons_succ]
      refine wpHeld_takeL (i := 10) (v := ?_) rfl (by kernel_rfl) (by kernel_rfl) (by kernel_rfl) (fun _ _ _ h => h) (Or.inl ⟨by kernel_rfl, ?_⟩) (by assumption) ?_
      rotate_left 1
      focus (intro wz hSz; (try dsimp only at hSz); go_simp; (try with_reducible rfl))
      simp only [Act.put, List.setIfInBounds_toArray, List.set_cons_zero, List.set_cons_succ]
      refine wpHeld_takeL (i := 11) (v := ?_) rfl (by kernel_rfl) (by kernel_rfl) (by kernel_rfl) (fun _ _ _ h => h) (Or.inl ⟨by kernel_rfl, ?_⟩) (by assumption) ?_
      rotate_left 1
      focus (intro wz hSz; (try dsimp only at hSz); go_simp; (try with_reducible rfl))
      simp only [Act.put, List.setIfInBounds_toArray, List.set_cons_zero, List.set_cons_succ]
      refine wpHeld_takeL (i := 12) (v := ?_) rfl (by kernel_rfl) (by kernel_rfl) (by kernel_rfl) (fun _ _ _ h => h) (Or.inl ⟨by kernel_rfl, ?_⟩) (by assumption) ?_
      rotate_left 1
      focus (intro wz hSz; (try dsimp only at hSz); go_simp; (try with_reducible rfl))
      simp only [Act.put, List.setIfInBounds_toArray, List.set_cons_zero, List.set_cons_succ]
      refine wpAnyH_done (by kernel_rfl) ?_ _
      have hB := limb5 hHeld
      clear hHeld
      go_wp2_with fail
      go_meet
      exact ⟨by first | (simp; done) | (simp; exact hE0), hB⟩
    case rest =>
      obtain ⟨rfl, bc⟩ := hcut
      obtain ⟨U, rfl⟩ : ∃ U, U = wc := ⟨wc, rfl⟩
      have BU : Hid (Below w.heap.size w U) := bel_trans BV.out bc
      have HDU : Hid (Sl U _ ds) := HDV.out.keep bc
      have HL0 : Hid (Ls U (.slice va1 0 vk1) []) := HLV.out.keep bc
      have HT0 : Hid (Ts U (.slice ta1 0 tc1) []) := HTV.out.keep bc
      replace X2 := X2.keep bc
      replace P0 : Box U P 39 #[.slice ma1 0 mc1] := P0.keep bc
      replace P1 : Box U (P + 1) 44 #[.int .i64 0, .int .i64 0, .slice va1 0 vk1, .int .i64 0, .int .i64 0, .int .i64 0, .bool false, .int .i64 0, .int .i64 0, .int .i64 0, .int .i64 0, .bool false] := P1.keep bc
      replace P2 : Box U (P + 1 + 1) 82 #[.bool false, .slice da1 0 dc1, .int .i64 0, .slice ta1 0 tc1] := P2.keep bc
      clear bc c0 c1 c2 c3 c4 sA HDV HLV HTV BV
      rw [hE1]
      go_wp2_with fail
      have KEEP : ∀ w', Below U.heap.size U w' → w'.cell? ⟨w.heap.size + 1 + 1, 0, none⟩ = some (.int .i64 d) ∧ w'.cell? ⟨w.heap.size + 1 + 1, 1, none⟩ = some (.int .i64 a) ∧ w'.cell? ⟨w.heap.size + 1 + 1, 2, none⟩ = some (.int .i64 n) ∧ w'.cell? ⟨w.heap.size + 1 + 1, 3, none⟩ = some (.bool fw) ∧ w'.cell? ⟨w.heap.size + 1 + 1, 4, none⟩ = some (.slice da ds.length dc) ∧ w'.cell? ⟨P, 0, none⟩ = some (.slice ma1 0 mc1) ∧ w'.cell? ⟨P + 1, 0, none⟩ = some (.int .i64 0) ∧ w'.cell? ⟨P + 1, 1, none⟩ = some (.int .i64 0) ∧ w'.cell? ⟨P + 1, 2, none⟩ = some (.slice va1 0 vk1) ∧ w'.cell? ⟨P + 1, 3, none⟩ = some (.int .i64 0) ∧ w'.cell? ⟨P + 1, 4, none⟩ = some (.int .i64 0) ∧ w'.cell? ⟨P + 1, 5, none⟩ = some (.int .i64 0) ∧ w'.cell? ⟨P + 1, 6, none⟩ = some (.bool false) ∧ w'.cell? ⟨P + 1, 7, none⟩ = some (.int .i64 0) ∧ w'.cell? ⟨P + 1, 8, none⟩ = some (.int .i64 0) ∧ w'.cell? ⟨P + 1, 9, none⟩ = some (.int .i64 0) ∧ w'.cell? ⟨P + 1, 10, none⟩ = some (.int .i64 0) ∧ w'.cell? ⟨P + 1, 11, none⟩ = some (.bool false) ∧ w'.cell? ⟨P + 1 + 1, 0, none⟩ = some (.bool false) ∧ w'.cell? ⟨P + 1 + 1, 1, none⟩ = some (.slice da1 0 dc1) ∧ w'.cell? ⟨P + 1 + 1, 2, none⟩ = some (.int .i64 0) ∧ w'.cell? ⟨P + 1 + 1, 3, none⟩ = some (.slice ta1 0 tc1) ∧ Below U.heap.size U w' := fun w' hb => ⟨(X2.keep hb).cell 0, (X2.keep hb).cell 1, (X2.keep hb).cell 2, (X2.keep hb).cell 3, (X2.keep hb).cell 4, (P0.keep hb).cell 0, (P1.keep hb).cell 0, (P1.keep hb).cell 1, (P1.keep hb).cell 2, (P1.keep hb).cell 3, (P1.keep hb).cell 4, (P1.keep hb).cell 5, (P1.keep hb).cell 6, (P1.keep hb).cell 7, (P1.keep hb).cell 8, (P1.keep hb).cell 9, (P1.keep hb).cell 10, (P1.keep hb).cell 11, (P2.keep hb).cell 0, (P2.keep hb).cell 1, (P2.keep hb).cell 2, (P2.keep hb).cell 3, hb⟩
      refine wp_region_held_drew (S := fun w' => w'.cell? ⟨w.heap.size + 1 + 1, 0, none⟩ = some (.int .i64 d) ∧ w'.cell? ⟨w.heap.size + 1 + 1, 1, none⟩ = some (.int .i64 a) ∧ w'.cell? ⟨w.heap.size + 1 + 1, 2, none⟩ = some (.int .i64 n) ∧ w'.cell? ⟨w.heap.size + 1 + 1, 3, none⟩ = some (.bool fw) ∧ w'.cell? ⟨w.heap.size + 1 + 1, 4, none⟩ = some (.slice da ds.length dc) ∧ w'.cell? ⟨P, 0, none⟩ = some (.slice ma1 0 mc1) ∧ w'.cell? ⟨P + 1, 0, none⟩ = some (.int .i64 0) ∧ w'.cell? ⟨P + 1, 1, none⟩ = some (.int .i64 0) ∧ w'.cell? ⟨P + 1, 2, none⟩ = some (.slice va1 0 vk1) ∧ w'.cell? ⟨P + 1, 3, none⟩ = some (.int .i64 0) ∧ w'.cell? ⟨P + 1, 4, none⟩ = some (.int .i64 0) ∧ w'.cell? ⟨P + 1, 5, none⟩ = some (.int .i64 0) ∧ w'.cell? ⟨P + 1, 6, none⟩ = some (.bool false) ∧ w'.cell? ⟨P + 1, 7, none⟩ = some (.int .i64 0) ∧ w'.cell? ⟨P + 1, 8, none⟩ = some (.int .i64 0) ∧ w'.cell? ⟨P + 1, 9, none⟩ = some (.int .i64 0) ∧ w'.cell? ⟨P + 1, 10, none⟩ = some (.int .i64 0) ∧ w'.cell? ⟨P + 1, 11, none⟩ = some (.bool false) ∧ w'.cell? ⟨P + 1 + 1, 0, none⟩ = some (.bool false) ∧ w'.cell? ⟨P + 1 + 1, 1, none⟩ = some (.slice da1 0 dc1) ∧ w'.cell? ⟨P + 1 + 1, 2, none⟩ = some (.int .i64 0) ∧ w'.cell? ⟨P + 1 + 1, 3, none⟩ = some (.slice ta1 0 tc1) ∧ Below U.heap.size U w') (by kernel_rfl) (KEEP _ (Below.drew (Below.refl _ _))) (fun hHeld => ?_)
      refine wpHeld_oneL (i := 0) (by kernel_rfl) (by rfl) (fun K hK => ?_)
      go_simp
      refine (carried_true _).mono ?_
      rintro e x1 ⟨rfl, y1⟩
      go_wp2_with fail
      refine hK.out _ _ ?_ (fun hHeld2 => ?_)
      · exact KEEP _ (bel_trans (hHeld.2.2.2.2.2.2.2.2.2.2.2.2.2.2.2.2.2.2.2.2.2.2) y1)
      clear hK K hHeld
      have hHeld := hHeld2
      clear hHeld2
      refine wpHeld_takeL (i := 1) (v := ?_) rfl (by kernel_rfl) (by kernel_rfl) (by kernel_rfl) (fun _ _ _ h => h) (Or.inl ⟨by kernel_rfl, ?_⟩) (by assumption) ?_
      rotate_left 1
      focus (intro wz hSz; (try dsimp only at hSz); go_simp; (try with_reducible rfl))
      simp only [Act.put, List.setIfInBounds_toArray, List.set_cons_zero, List.set_cons_succ]
      refine wpHeld_takeL (i := 2) (v := ?_) rfl (by kernel_rfl) (by kernel_rfl) (by kernel_rfl) (fun _ _ _ h => h) (Or.inl ⟨by kernel_rfl, ?_⟩) (by assumption) ?_
      rotate_left 1
      focus (intro wz hSz; (try dsimp only at hSz); go_simp; (try with_reducible rfl))
      simp only [Act.put, List.setIfInBounds_toArray, List.set_cons_zero, List.set_cons_succ]
      refine wpHeld_takeL (i := 4) (v := ?_) rfl (by kernel_rfl) (by kernel_rfl) (by kernel_rfl) (fun _ _ _ h => h) (Or.inl ⟨by kernel_rfl, ?_⟩) (by assumption) ?_
      rotate_left 1
      focus (intro wz hSz; (try dsimp only at hSz); go_simp; (try with_reducible rfl))
      simp only [Act.put, List.setIfInBounds_toArray, List.set_cons_zero, List.set_cons_succ]
      refine wpHeld_oneL (i := 3) (by kernel_rfl) (by rfl) (fun K hK => ?_)
      go_simp
      refine (dCheck_any d a n fw _ ds _ ?_).mono ?_
      · exact HDU.out.keep (hHeld.2.2.2.2.2.2.2.2.2.2.2.2.2.2.2.2.2.2.2.2.2.2)
      rintro e x2 ⟨rfl, y2⟩
      go_wp2_with fail
      refine hK.out _ _ ?_ (fun hHeld2 => ?_)
      · exact KEEP _ (bel_trans (hHeld.2.2.2.2.2.2.2.2.2.2.2.2.2.2.2.2.2.2.2.2.2.2) y2)
      clear hK K hHeld
      have hHeld := hHeld2
      clear hHeld2
      refine wpHeld_oneL (i := 5) (by kernel_rfl) (by rfl) (fun K hK => ?_)
      go_simp
      refine (checkAsk_any d a n fw _ ds _ ?_).mono ?_
      · exact HDU.out.keep (hHeld.2.2.2.2.2.2.2.2.2.2.2.2.2.2.2.2.2.2.2.2.2.2)
      rintro e x3 ⟨rfl, y3⟩
      go_wp2_with fail
      refine hK.out _ _ ?_ (fun hHeld2 => ?_)
      · exact KEEP _ (bel_trans (hHeld.2.2.2.2.2.2.2.2.2.2.2.2.2.2.2.2.2.2.2.2.2.2) y3)
      clear hK K hHeld
      have hHeld := hHeld2
      clear hHeld2
      refine wpHeld_takeL (i := 6) (v := ?_) rfl (by kernel_rfl) (by kernel_rfl) (by kernel_rfl) (fun _ _ _ h => h) (Or.inl ⟨by kernel_rfl, ?_⟩) (by assumption) ?_
      rotate_left 1
      focus (intro wz hSz; (try dsimp only at hSz); go_simp; (try with_reducible rfl))
      simp only [Act.put, List.setIfInBounds_toArray, List.set_cons_zero, List.set_cons_succ]
      refine wpHeld_takeL (i := 7) (v := ?_) rfl (by kernel_rfl) (by kernel_rfl) (by kernel_rfl) (fun _ _ _ h => h) (Or.inl ⟨by kernel_rfl, ?_⟩) (by assumption) ?_
      rotate_left 1
      focus (intro wz hSz; (try dsimp only at hSz); go_simp; (try with_reducible rfl))
      simp only [Act.put, List.setIfInBounds_toArray, List.set_cons_zero, List.set_cons_succ]
      refine wpHeld_takeL (i := 8) (v := ?_) rfl (by kernel_rfl) (by kernel_rfl) (by kernel_rfl) (fun _ _ _ h => h) (Or.inl ⟨by kernel_rfl, ?_⟩) (by assumption) ?_
      rotate_left 1
      focus (intro wz hSz; (try dsimp only at hSz); go_simp; (try with_reducible rfl))
      simp only [Act.put, List.setIfInBounds_toArray, List.set_cons_zero, List.set_cons_succ]
      refine wpHeld_takeL (i := 9) (v := ?_) rfl (by kernel_rfl) (by kernel_rfl) (by kernel_rfl) (fun _ _ _ h => h) (Or.inl ⟨by kernel_rfl, ?_⟩) (by assumption) ?_
      rotate_left 1
      focus (intro wz hSz; (try dsimp only at hSz); go_simp; (try with_reducible rfl))
      simp only [Act.put, List.setIfInBounds_toArray, List.set_cons_zero, List.set_cons_succ]
      refine wpHeld_takeL (i := 10) (v := ?_) rfl (by kernel_rfl) (by kernel_rfl) (by kernel_rfl) (fun _ _ _ h => h) (Or.inl ⟨by kernel_rfl, ?_⟩) (by assumption) ?_
      rotate_left 1
      focus (intro wz hSz; (try dsimp only at hSz); go_simp; (try with_reducible rfl))
      simp only [Act.put, List.setIfInBounds_toArray, List.set_cons_zero, List.set_cons_succ]
      refine wpHeld_takeL (i := 11) (v := ?_) rfl (by kernel_rfl) (by kernel_rfl) (by kernel_rfl) (fun _ _ _ h => h) (Or.inl ⟨by kernel_rfl, ?_⟩) (by assumption) ?_
      rotate_left 1
      focus (intro wz hSz; (try dsimp only at hSz); go_simp; (try with_reducible rfl))
      simp only [Act.put, List.setIfInBounds_toArray, List.set_cons_zero, List.set_cons_succ]
      refine wpHeld_takeL (i := 12) (v := ?_) rfl (by kernel_rfl) (by kernel_rfl) (by kernel_rfl) (fun _ _ _ h => h) (Or.inl ⟨by kernel_rfl, ?_⟩) (by assumption) ?_
      rotate_left 1
      focus (intro wz hSz; (try dsimp only at hSz); go_simp; (try with_reducible rfl))
      simp only [Act.put, List.setIfInBounds_toArray, List.set_cons_zero, List.set_cons_succ]
      refine wpHeld_takeL (i := 13) (v := ?_) rfl (by kernel_rfl) (by kernel_rfl) (by kernel_rfl) (fun _ _ _ h => h) (Or.inl ⟨by kernel_rfl, ?_⟩) (by assumption) ?_
      rotate_left 1
      focus (intro wz hSz; (try dsimp only at hSz); go_simp; (try with_reducible rfl))
      simp only [Act.put, List.setIfInBounds_toArray, List.set_cons_zero, List.set_cons_succ]
      refine wpHeld_takeL (i := 14) (v := ?_) rfl (by kernel_rfl) (by kernel_rfl) (by kernel_rfl) (fun _ _ _ h => h) (Or.inl ⟨by kernel_rfl, ?_⟩) (by assumption) ?_
      rotate_left 1
      focus (intro wz hSz; (try dsimp only at hSz); go_simp; (try with_reducible rfl))
      simp only [Act.put, List.setIfInBounds_toArray, List.set_cons_zero, List.set_cons_succ]
      refine wpHeld_takeL (i := 15) (v := ?_) rfl (by kernel_rfl) (by kernel_rfl) (by kernel_rfl) (fun _ _ _ h => h) (Or.inl ⟨by kernel_rfl, ?_⟩) (by assumption) ?_
      rotate_left 1
      focus (intro wz hSz; (try dsimp only at hSz); go_simp; (try with_reducible rfl))
      simp only [Act.put, List.setIfInBounds_toArray, List.set_cons_zero, List.set_cons_succ]
      refine wpHeld_takeL (i := 16) (v := ?_) rfl (by kernel_rfl) (by kernel_rfl) (by kernel_rfl) (fun _ _ _ h => h) (Or.inl ⟨by kernel_rfl, ?_⟩) (by assumption) ?_
      rotate_left 1
      focus (intro wz hSz; (try dsimp only at hSz); go_simp; (try with_reducible rfl))
      simp only [Act.put, List.setIfInBounds_toArray, List.set_cons_zero, List.set_cons_succ]
      refine wpHeld_takeL (i := 17) (v := ?_) rfl (by kernel_rfl) (by kernel_rfl) (by kernel_rfl) (fun _ _ _ h => h) (Or.inl ⟨by kernel_rfl, ?_⟩) (by assumption) ?_
      rotate_left 1
      focus (intro wz hSz; (try dsimp only at hSz); go_simp; (try with_reducible rfl))
      simp only [Act.put, List.setIfInBounds_toArray, List.set_cons_zero, List.set_cons_succ]
      refine wpHeld_takeL (i := 18) (v := ?_) rfl (by kernel_rfl) (by kernel_rfl) (by kernel_rfl) (fun _ _ _ h => h) (Or.inl ⟨by kernel_rfl, ?_⟩) (by assumption) ?_
      rotate_left 1
      focus (intro wz hSz; (try dsimp only at hSz); go_simp; (try with_reducible rfl))
      simp only [Act.put, List.setIfInBounds_toArray, List.set_cons_zero, List.set_cons_succ]
      refine wpHeld_takeL (i := 19) (v := ?_) rfl (by kernel_rfl) (by kernel_rfl) (by kernel_rfl) (fun _ _ _ h => h) (Or.inl ⟨by kernel_rfl, ?_⟩) (by assumption) ?_
      rotate_left 1
      focus (intro wz hSz; (try dsimp only at hSz); go_simp; (try with_reducible rfl))
      simp only [Act.put, List.setIfInBounds_toArray, List.set_cons_zero, List.set_cons_succ]
      refine wpHeld_takeL (i := 20) (v := ?_) rfl (by kernel_rfl) (by kernel_rfl) (by kernel_rfl) (fun _ _ _ h => h) (Or.inl ⟨by kernel_rfl, ?_⟩) (by assumption) ?_
      rotate_left 1
      focus (intro wz hSz; (try dsimp only at hSz); go_simp; (try with_reducible rfl))
      simp only [Act.put, List.setIfInBounds_toArray, List.set_cons_zero, List.set_cons_succ]
      refine wpHeld_takeL (i := 21) (v := ?_) rfl (by kernel_rfl) (by kernel_rfl) (by kernel_rfl) (fun _ _ _ h => h) (Or.inl ⟨by kernel_rfl, ?_⟩) (by assumption) ?_
      rotate_left 1
      focus (intro wz hSz; (try dsimp only at hSz); go_simp; (try with_reducible rfl))
      simp only [Act.put, List.setIfInBounds_toArray, List.set_cons_zero, List.set_cons_succ]
      refine wpHeld_oneL (i := 22) (by kernel_rfl) (by rfl) (fun K hK => ?_)
      go_simp
      refine (sameBridge_any 0 0 0 0 0 0 0 0 0 false false _ [] 0 0 0 0 0 0 0 0 0 false false _ [] _ ?_ (Ls.nothing _)).mono ?_
      · exact HL0.out.keep (hHeld.2.2.2.2.2.2.2.2.2.2.2.2.2.2.2.2.2.2.2.2.2.2)
      rintro e x4 ⟨rfl, y4⟩
      go_wp2_with fail
      refine hK.out _ _ ?_ (fun hHeld2 => ?_)
      · exact KEEP _ (bel_trans (hHeld.2.2.2.2.2.2.2.2.2.2.2.2.2.2.2.2.2.2.2.2.2.2) y4)
      clear hK K hHeld
      have hHeld := hHeld2
      clear hHeld2
      rw [sameBr_refl]
      refine wpHeld_takeL (i := 23) (v := ?_) rfl (by kernel_rfl) (by kernel_rfl) (by kernel_rfl) (fun _ _ _ h => h) (Or.inl ⟨by kernel_rfl, ?_⟩) (by assumption) ?_
      rotate_left 1
      focus (intro wz hSz; (try dsimp only at hSz); go_simp; (try with_reducible rfl))
      simp only [Act.put, List.setIfInBounds_toArray, List.set_cons_zero, List.set_cons_succ]
      refine wpHeld_takeL (i := 24) (v := ?_) rfl (by kernel_rfl) (by kernel_rfl) (by kernel_rfl) (fun _ _ _ h => h) (Or.inl ⟨by kernel_rfl, ?_⟩) (by assumption) ?_
      rotate_left 1
      focus (intro wz hSz; (try dsimp only at hSz); go_simp; (try with_reducible rfl))
      simp only [Act.put, List.setIfInBounds_toArray, List.set_cons_zero, List.set_cons_succ]
      refine wpHeld_takeL (i := 25) (v := ?_) rfl (by kernel_rfl) (by kernel_rfl) (by kernel_rfl) (fun _ _ _ h => h) (Or.inl ⟨by kernel_rfl, ?_⟩) (by assumption) ?_
      rotate_left 1
      focus (intro wz hSz; (try dsimp only at hSz); go_simp; (try with_reducible rfl))
      simp only [Act.put, List.setIfInBounds_toArray, List.set_cons_zero, List.set_cons_succ]
      refine wpHeld_takeL (i := 26) (v := ?_) rfl (by kernel_rfl) (by kernel_rfl) (by kernel_rfl) (fun _ _ _ h => h) (Or.inl ⟨by kernel_rfl, ?_⟩) (by assumption) ?_
      rotate_left 1
      focus (intro wz hSz; (try dsimp only at hSz); go_simp; (try with_reducible rfl))
      simp only [Act.put, List.setIfInBounds_toArray, List.set_cons_zero, List.set_cons_succ]
      refine wpHeld_oneL (i := 27) (by kernel_rfl) (by rfl) (fun K hK => ?_)
      go_simp
      refine (sameTold_eq false _ _ [] 0 _ _ [] _ (Sl.nil _ _ _) (Sl.nil _ _ _) ?_ (Ts.nothing _)).mono ?_
      · exact HT0.out.keep (hHeld.2.2.2.2.2.2.2.2.2.2.2.2.2.2.2.2.2.2.2.2.2.2)
      rintro e x5 ⟨rfl, y5⟩
      go_wp2_with fail
      refine hK.out _ _ ?_ (fun hHeld2 => ?_)
      · exact KEEP _ (bel_trans (hHeld.2.2.2.2.2.2.2.2.2.2.2.2.2.2.2.2.2.2.2.2.2.2) y5)
      clear hK K hHeld
      have hHeld := hHeld2
      clear hHeld2
      refine wpHeld_takeL (i := 28) (v := ?_) rfl (by kernel_rfl) (by kernel_rfl) (by kernel_rfl) (fun _ _ _ h => h) (Or.inl ⟨by kernel_rfl, ?_⟩) (by assumption) ?_
      rotate_left 1
      focus (intro wz hSz; (try dsimp only at hSz); go_simp; (try with_reducible rfl))
      simp only [Act.put, List.setIfInBounds_toArray, List.set_cons_zero, List.set_cons_succ]
      refine wpHeld_takeL (i := 29) (v := ?_) rfl (by kernel_rfl) (by kernel_rfl) (by kernel_rfl) (fun _ _ _ h => h) (Or.inl ⟨by kernel_rfl, ?_⟩) (by assumption) ?_
      rotate_left 1
      focus (intro wz hSz; (try dsimp only at hSz); go_simp; (try with_reducible rfl))
      simp only [Act.put, List.setIfInBounds_toArray, List.set_cons_zero, List.set_cons_succ]
      refine wpAnyH_done (by kernel_rfl) ?_ _
      have hB : Hid (Below U.heap.size U _) := hHeld.2.2.2.2.2.2.2.2.2.2.2.2.2.2.2.2.2.2.2.2.2.2
      clear hHeld KEEP
      go_wp2
      go_ret
      exact ⟨rfl, bel_trans BU.out hB.out⟩
  rw [hz]
  obtain ⟨⟨q0, q1, q2, q3, q4, q5, q6, q7, q8, q9, q10, q11⟩, sq⟩ := (X1.keep b3).twelve
  go_wp2_with fail
  refine (checkBridge_any _ _ _ _ _ _ _ _ _ _ _ _ l _ (HS.out.keep (bel_trans BB.out b3))).mono ?_
  rintro e w4 ⟨rfl, b4⟩
  clear q0 q1 q2 q3 q4 q5 q6 q7 q8 q9 q10 q11 sq
  have b34 := bel_trans b3 b4
  clear b3 b4
  by_cases hb : chkB ⟨mo, ba, l, op, oh, ot, st, fe, fp, fh, ft, lo⟩ = 0
  rotate_left
  · have hE0 : ¬ E = 0 := by rw [HMB.out hz hb]; exact hb
    rw [← HMB.out hz hb]
    have hq : (E == 0) = false := by simpa using hE0
    have BV : Hid (Below w.heap.size w w4) := bel_trans BB.out b34
    have HDV : Hid (Sl w4 _ ds) := HD.out.keep BV.out
    have HLV : Hid (Ls w4 _ l1) := HLn.out.keep b34
    have HTV : Hid (Ts w4 _ tch) := HTn.out.keep b34
    have HAV : Hid (Sl w4 _ dat) := HDn.out.keep b34
    have HSV : Hid (Sl w4 _ ms) := HSn.out.keep b34
    replace X0 := X0.keep b34
    replace X1 := X1.keep b34
    replace X2 := X2.keep b34
    replace P0 := P0.keep b34
    replace P1 := P1.keep b34
    replace P2 := P2.keep b34
    have HPU : Hid (P + 1 + 1 < w4.heap.size) := P2.lt
    clear b34 HSn HLn HDn HTn BB
    obtain ⟨V, rfl⟩ : ∃ V, V = w4 := ⟨_, rfl⟩
    have h0 := HR.out
    rw [doR, if_neg (by rw [HE.out]; exact hE0)] at h0
    simp only [Prod.mk.injEq, St.mk.injEq, B0, Br.mk.injEq] at h0
    obtain ⟨⟨rfl, ⟨rfl, rfl, rfl, rfl, rfl, rfl, rfl, rfl, rfl, rfl, rfl, rfl⟩, rfl, rfl⟩, rfl⟩ := h0
    obtain rfl : dn = false := by rw [← HDN.out, decide_eq_false hE0]; rfl
    have hE1 : (E != 0) = true := by simpa using hE0
    have hE2 : (E == 0) = false := by simpa using hE0
    go_upto_region 7 with fail
    obtain ⟨c0, c1, c2, c3, c4⟩ := X2.blk.five
    have sA := X2.lt
    go_cut [46] from 34 to 46 (fun s wx => s = .bool (E != 0) ∧ Below V.heap.size V wx)
    case first =>
      clear P0 P1 P2 X0 X1
      refine wp_region_held_drew (S := (fun w' => w'.cell? ⟨w.heap.size + 1 + 1, 0, none⟩ = some (.int .i64 d) ∧ w'.cell? ⟨w.heap.size + 1 + 1, 1, none⟩ = some (.int .i64 a) ∧ w'.cell? ⟨w.heap.size + 1 + 1, 2, none⟩ = some (.int .i64 n) ∧ w'.cell? ⟨w.heap.size + 1 + 1, 3, none⟩ = some (.bool fw) ∧ w'.cell? ⟨w.heap.size + 1 + 1, 4, none⟩ = some (.slice da ds.length dc) ∧ Below V.heap.size V w')) (by kernel_rfl) (keep5 c0 c1 c2 c3 c4 sA (Below.drew (Below.refl _ _))) (fun hHeld => ?_)
      refine wpHeld_oneL (i := 0) (by kernel_rfl) (by rfl) (fun K hK => ?_)
      go_simp
      refine (carried_true _).mono ?_
      rintro e x1 ⟨rfl, y1⟩
      go_wp2_with fail
      refine hK.out _ _ ?_ (fun hHeld2 => ?_)
      · exact keep5 c0 c1 c2 c3 c4 sA (bel_trans (limb5 hHeld) y1)
      clear hK K hHeld
      have hHeld := hHeld2
      clear hHeld2
      refine wpHeld_takeL (i := 1) (v := ?_) rfl (by kernel_rfl) (by kernel_rfl) (by kernel_rfl) (fun _ _ _ h => h) (Or.inl ⟨by kernel_rfl, ?_⟩) (by assumption) ?_
      rotate_left 1
      focus (intro wz hSz; (try dsimp only at hSz); go_simp; (try with_reducible rfl))
      simp only [Act.put, List.setIfInBounds_toArray, List.set_cons_zero, List.set_cons_succ]
      refine wpHeld_takeL (i := 2) (v := ?_) rfl (by kernel_rfl) (by kernel_rfl) (by kernel_rfl) (fun _ _ _ h => h) (Or.inl ⟨by kernel_rfl, ?_⟩) (by assumption) ?_
      rotate_left 1
      focus (intro wz hSz; (try dsimp only at hSz); go_simp; (try with_reducible rfl))
      simp only [Act.put, List.setIfInBounds_toArray, List.set_cons_zero, List.set_cons_succ]
      refine wpHeld_takeL (i := 3) (v := ?_) rfl (by kernel_rfl) (by kernel_rfl) (by kernel_rfl) (fun _ _ _ h => h) (Or.inl ⟨by kernel_rfl, ?_⟩) (by assumption) ?_
      rotate_left 1
      focus (intro wz hSz; (try dsimp only at hSz); go_simp; (try with_reducible rfl))
      simp only [Act.put, List.setIfInBounds_toArray, List.set_cons_zero, List.set_cons_succ]
      refine wpHeld_takeL (i := 5) (v := ?_) rfl (by kernel_rfl) (by kernel_rfl) (by kernel_rfl) (fun _ _ _ h => h) (Or.inl ⟨by kernel_rfl, ?_⟩) (by assumption) ?_
      rotate_left 1
      focus (intro wz hSz; (try dsimp only at hSz); go_simp; (try with_reducible rfl))
      simp only [Act.put, List.setIfInBounds_toArray, List.set_cons_zero, List.set_cons_succ]
      refine wpHeld_oneL (i := 4) (by kernel_rfl) (by rfl) (fun K hK => ?_)
      go_simp
      refine (dCheck_any d a n fw _ ds _ ?_).mono ?_
      · exact HDV.out.keep (limb5 hHeld)
      rintro e x2 ⟨rfl, y2⟩
      go_wp2_with fail
      refine hK.out _ _ ?_ (fun hHeld2 => ?_)
      · exact keep5 c0 c1 c2 c3 c4 sA (bel_trans (limb5 hHeld) y2)
      clear hK K hHeld
      have hHeld := hHeld2
      clear hHeld2
      refine wpHeld_oneL (i := 6) (by kernel_rfl) (by rfl) (fun K hK => ?_)
      go_simp
      refine (checkAsk_any d a n fw _ ds _ ?_).mono ?_
      · exact HDV.out.keep (limb5 hHeld)
      rintro e x3 ⟨rfl, y3⟩
      go_wp2_with fail
      refine hK.out _ _ ?_ (fun hHeld2 => ?_)
      · exact keep5 c0 c1 c2 c3 c4 sA (bel_trans (limb5 hHeld) y3)
      clear hK K hHeld
      have hHeld := hHeld2
      clear hHeld2
      refine wpHeld_takeL (i := 7) (v := ?_) rfl (by kernel_rfl) (by kernel_rfl) (by kernel_rfl) (fun _ _ _ h => h) (Or.inl ⟨by kernel_rfl, ?_⟩) (by assumption) ?_
      rotate_left 1
      focus (intro wz hSz; (try dsimp only at hSz); go_simp; (try with_reducible rfl))
      simp only [Act.put, List.setIfInBounds_toArray, List.set_cons_zero, List.set_cons_succ]
      refine wpHeld_takeL (i := 8) (v := ?_) rfl (by kernel_rfl) (by kernel_rfl) (by kernel_rfl) (fun _ _ _ h => h) (Or.inl ⟨by kernel_rfl, ?_⟩) (by assumption) ?_
      rotate_left 1
      focus (intro wz hSz; (try dsimp only at hSz); go_simp; (try with_reducible rfl))
      simp only [Act.put, List.setIfInBounds_toArray, List.set_cons_zero, List.set_cons_succ]
      refine wpHeld_takeL (i := 9) (v := ?_) rfl (by kernel_rfl) (by kernel_rfl) (by kernel_rfl) (fun _ _ _ h => h) (Or.inl ⟨by kernel_rfl, ?_⟩) (by assumption) ?_
      rotate_left 1
      focus (intro wz hSz; (try dsimp only at hSz); go_simp; (try with_reducible rfl))
      simp only [Act.put, List.setIfInBounds_toArray, List.set_cons_zero, List.set_cons_succ]
      refine wpHeld_takeL (i := 10) (v := ?_) rfl (by kernel_rfl) (by kernel_rfl) (by kernel_rfl) (fun _ _ _ h => h) (Or.inl ⟨by kernel_rfl, ?_⟩) (by assumption) ?_
      rotate_left 1
      focus (intro wz hSz; (try dsimp only at hSz); go_simp; (try with_reducible rfl))
      simp only [Act.put, List.setIfInBounds_toArray, List.set_cons_zero, List.set_cons_succ]
      refine wpHeld_takeL (i := 11) (v := ?_) rfl (by kernel_rfl) (by kernel_rfl) (by kernel_rfl) (fun _ _ _ h => h) (Or.inl ⟨by kernel_rfl, ?_⟩) (by assumption) ?_
      rotate_left 1
      focus (intro wz hSz; (try dsimp only at hSz); go_simp; (try with_reducible rfl))
      simp only [Act.put, List.setIfInBounds_toArray, List.set_cons_zero, List.set_cons_succ]
      refine wpHeld_takeL (i := 12) (v := ?_) rfl (by kernel_rfl) (by kernel_rfl) (by kernel_rfl) (fun _ _ _ h => h) (Or.inl ⟨by kernel_rfl, ?_⟩) (by assumption) ?_
      rotate_left 1
      focus (intro wz hSz; (try dsimp only at hSz); go_simp; (try with_reducible rfl))
      simp only [Act.put, List.setIfInBounds_toArray, List.set_cons_zero, List.set_cons_succ]
      refine wpAnyH_done (by kernel_rfl) ?_ _
      have hB := limb5 hHeld
      clear hHeld
      go_wp2_with fail
      go_meet
      exact ⟨by first | (simp; done) | (simp; exact hE0), hB⟩
    case rest =>
      obtain ⟨rfl, bc⟩ := hcut
      obtain ⟨U, rfl⟩ : ∃ U, U = wc := ⟨wc, rfl⟩
      have BU : Hid (Below w.heap.size w U) := bel_trans BV.out bc
      have HDU : Hid (Sl U _ ds) := HDV.out.keep bc
      have HL0 : Hid (Ls U (.slice va1 0 vk1) []) := HLV.out.keep bc
      have HT0 : Hid (Ts U (.slice ta1 0 tc1) []) := HTV.out.keep bc
      replace X2 := X2.keep bc
      replace P0 : Box U P 39 #[.slice ma1 0 mc1] := P0.keep bc
      replace P1 : Box U (P + 1) 44 #[.int .i64 0, .int .i64 0, .slice va1 0 vk1, .int .i64 0, .int .i64 0, .int .i64 0, .bool false, .int .i64 0, .int .i64 0, .int .i64 0, .int .i64 0, .bool false] := P1.keep bc
      replace P2 : Box U (P + 1 + 1) 82 #[.bool false, .slice da1 0 dc1, .int .i64 0, .slice ta1 0 tc1] := P2.keep bc
      clear bc c0 c1 c2 c3 c4 sA HDV HLV HTV BV
      rw [hE1]
      go_wp2_with fail
      have KEEP : ∀ w', Below U.heap.size U w' → w'.cell? ⟨w.heap.size + 1 + 1, 0, none⟩ = some (.int .i64 d) ∧ w'.cell? ⟨w.heap.size + 1 + 1, 1, none⟩ = some (.int .i64 a) ∧ w'.cell? ⟨w.heap.size + 1 + 1, 2, none⟩ = some (.int .i64 n) ∧ w'.cell? ⟨w.heap.size + 1 + 1, 3, none⟩ = some (.bool fw) ∧ w'.cell? ⟨w.heap.size + 1 + 1, 4, none⟩ = some (.slice da ds.length dc) ∧ w'.cell? ⟨P, 0, none⟩ = some (.slice ma1 0 mc1) ∧ w'.cell? ⟨P + 1, 0, none⟩ = some (.int .i64 0) ∧ w'.cell? ⟨P + 1, 1, none⟩ = some (.int .i64 0) ∧ w'.cell? ⟨P + 1, 2, none⟩ = some (.slice va1 0 vk1) ∧ w'.cell? ⟨P + 1, 3, none⟩ = some (.int .i64 0) ∧ w'.cell? ⟨P + 1, 4, none⟩ = some (.int .i64 0) ∧ w'.cell? ⟨P + 1, 5, none⟩ = some (.int .i64 0) ∧ w'.cell? ⟨P + 1, 6, none⟩ = some (.bool false) ∧ w'.cell? ⟨P + 1, 7, none⟩ = some (.int .i64 0) ∧ w'.cell? ⟨P + 1, 8, none⟩ = some (.int .i64 0) ∧ w'.cell? ⟨P + 1, 9, none⟩ = some (.int .i64 0) ∧ w'.cell? ⟨P + 1, 10, none⟩ = some (.int .i64 0) ∧ w'.cell? ⟨P + 1, 11, none⟩ = some (.bool false) ∧ w'.cell? ⟨P + 1 + 1, 0, none⟩ = some (.bool false) ∧ w'.cell? ⟨P + 1 + 1, 1, none⟩ = some (.slice da1 0 dc1) ∧ w'.cell? ⟨P + 1 + 1, 2, none⟩ = some (.int .i64 0) ∧ w'.cell? ⟨P + 1 + 1, 3, none⟩ = some (.slice ta1 0 tc1) ∧ Below U.heap.size U w' := fun w' hb => ⟨(X2.keep hb).cell 0, (X2.keep hb).cell 1, (X2.keep hb).cell 2, (X2.keep hb).cell 3, (X2.keep hb).cell 4, (P0.keep hb).cell 0, (P1.keep hb).cell 0, (P1.keep hb).cell 1, (P1.keep hb).cell 2, (P1.keep hb).cell 3, (P1.keep hb).cell 4, (P1.keep hb).cell 5, (P1.keep hb).cell 6, (P1.keep hb).cell 7, (P1.keep hb).cell 8, (P1.keep hb).cell 9, (P1.keep hb).cell 10, (P1.keep hb).cell 11, (P2.keep hb).cell 0, (P2.keep hb).cell 1, (P2.keep hb).cell 2, (P2.keep hb).cell 3, hb⟩
      refine wp_region_held_drew (S := fun w' => w'.cell? ⟨w.heap.size + 1 + 1, 0, none⟩ = some (.int .i64 d) ∧ w'.cell? ⟨w.heap.size + 1 + 1, 1, none⟩ = some (.int .i64 a) ∧ w'.cell? ⟨w.heap.size + 1 + 1, 2, none⟩ = some (.int .i64 n) ∧ w'.cell? ⟨w.heap.size + 1 + 1, 3, none⟩ = some (.bool fw) ∧ w'.cell? ⟨w.heap.size + 1 + 1, 4, none⟩ = some (.slice da ds.length dc) ∧ w'.cell? ⟨P, 0, none⟩ = some (.slice ma1 0 mc1) ∧ w'.cell? ⟨P + 1, 0, none⟩ = some (.int .i64 0) ∧ w'.cell? ⟨P + 1, 1, none⟩ = some (.int .i64 0) ∧ w'.cell? ⟨P + 1, 2, none⟩ = some (.slice va1 0 vk1) ∧ w'.cell? ⟨P + 1, 3, none⟩ = some (.int .i64 0) ∧ w'.cell? ⟨P + 1, 4, none⟩ = some (.int .i64 0) ∧ w'.cell? ⟨P + 1, 5, none⟩ = some (.int .i64 0) ∧ w'.cell? ⟨P + 1, 6, none⟩ = some (.bool false) ∧ w'.cell? ⟨P + 1, 7, none⟩ = some (.int .i64 0) ∧ w'.cell? ⟨P + 1, 8, none⟩ = some (.int .i64 0) ∧ w'.cell? ⟨P + 1, 9, none⟩ = some (.int .i64 0) ∧ w'.cell? ⟨P + 1, 10, none⟩ = some (.int .i64 0) ∧ w'.cell? ⟨P + 1, 11, none⟩ = some (.bool false) ∧ w'.cell? ⟨P + 1 + 1, 0, none⟩ = some (.bool false) ∧ w'.cell? ⟨P + 1 + 1, 1, none⟩ = some (.slice da1 0 dc1) ∧ w'.cell? ⟨P + 1 + 1, 2, none⟩ = some (.int .i64 0) ∧ w'.cell? ⟨P + 1 + 1, 3, none⟩ = some (.slice ta1 0 tc1) ∧ Below U.heap.size U w') (by kernel_rfl) (KEEP _ (Below.drew (Below.refl _ _))) (fun hHeld => ?_)
      refine wpHeld_oneL (i := 0) (by kernel_rfl) (by rfl) (fun K hK => ?_)
      go_simp
      refine (carried_true _).mono ?_
      rintro e x1 ⟨rfl, y1⟩
      go_wp2_with fail
      refine hK.out _ _ ?_ (fun hHeld2 => ?_)
      · exact KEEP _ (bel_trans (hHeld.2.2.2.2.2.2.2.2.2.2.2.2.2.2.2.2.2.2.2.2.2.2) y1)
      clear hK K hHeld
      have hHeld := hHeld2
      clear hHeld2
      refine wpHeld_takeL (i := 1) (v := ?_) rfl (by kernel_rfl) (by kernel_rfl) (by kernel_rfl) (fun _ _ _ h => h) (Or.inl ⟨by kernel_rfl, ?_⟩) (by assumption) ?_
      rotate_left 1
      focus (intro wz hSz; (try dsimp only at hSz); go_simp; (try with_reducible rfl))
      simp only [Act.put, List.setIfInBounds_toArray, List.set_cons_zero, List.set_cons_succ]
      refine wpHeld_takeL (i := 2) (v := ?_) rfl (by kernel_rfl) (by kernel_rfl) (by kernel_rfl) (fun _ _ _ h => h) (Or.inl ⟨by kernel_rfl, ?_⟩) (by assumption) ?_
      rotate_left 1
      focus (intro wz hSz; (try dsimp only at hSz); go_simp; (try with_reducible rfl))
      simp only [Act.put, List.setIfInBounds_toArray, List.set_cons_zero, List.set_cons_succ]
      refine wpHeld_takeL (i := 4) (v := ?_) rfl (by kernel_rfl) (by kernel_rfl) (by kernel_rfl) (fun _ _ _ h => h) (Or.inl ⟨by kernel_rfl, ?_⟩) (by assumption) ?_
      rotate_left 1
      focus (intro wz hSz; (try dsimp only at hSz); go_simp; (try with_reducible rfl))
      simp only [Act.put, List.setIfInBounds_toArray, List.set_cons_zero, List.set_cons_succ]
      refine wpHeld_oneL (i := 3) (by kernel_rfl) (by rfl) (fun K hK => ?_)
      go_simp
      refine (dCheck_any d a n fw _ ds _ ?_).mono ?_
      · exact HDU.out.keep (hHeld.2.2.2.2.2.2.2.2.2.2.2.2.2.2.2.2.2.2.2.2.2.2)
      rintro e x2 ⟨rfl, y2⟩
      go_wp2_with fail
      refine hK.out _ _ ?_ (fun hHeld2 => ?_)
      · exact KEEP _ (bel_trans (hHeld.2.2.2.2.2.2.2.2.2.2.2.2.2.2.2.2.2.2.2.2.2.2) y2)
      clear hK K hHeld
      have hHeld := hHeld2
      clear hHeld2
      refine wpHeld_oneL (i := 5) (by kernel_rfl) (by rfl) (fun K hK => ?_)
      go_simp
      refine (checkAsk_any d a n fw _ ds _ ?_).mono ?_
      · exact HDU.out.keep (hHeld.2.2.2.2.2.2.2.2.2.2.2.2.2.2.2.2.2.2.2.2.2.2)
      rintro e x3 ⟨rfl, y3⟩
      go_wp2_with fail
      refine hK.out _ _ ?_ (fun hHeld2 => ?_)
      · exact KEEP _ (bel_trans (hHeld.2.2.2.2.2.2.2.2.2.2.2.2.2.2.2.2.2.2.2.2.2.2) y3)
      clear hK K hHeld
      have hHeld := hHeld2
      clear hHeld2
      refine wpHeld_takeL (i := 6) (v := ?_) rfl (by kernel_rfl) (by kernel_rfl) (by kernel_rfl) (fun _ _ _ h => h) (Or.inl ⟨by kernel_rfl, ?_⟩) (by assumption) ?_
      rotate_left 1
      focus (intro wz hSz; (try dsimp only at hSz); go_simp; (try with_reducible rfl))
      simp only [Act.put, List.setIfInBounds_toArray, List.set_cons_zero, List.set_cons_succ]
      refine wpHeld_takeL (i := 7) (v := ?_) rfl (by kernel_rfl) (by kernel_rfl) (by kernel_rfl) (fun _ _ _ h => h) (Or.inl ⟨by kernel_rfl, ?_⟩) (by assumption) ?_
      rotate_left 1
      focus (intro wz hSz; (try dsimp only at hSz); go_simp; (try with_reducible rfl))
      simp only [Act.put, List.setIfInBounds_toArray, List.set_cons_zero, List.set_cons_succ]
      refine wpHeld_takeL (i := 8) (v := ?_) rfl (by kernel_rfl) (by kernel_rfl) (by kernel_rfl) (fun _ _ _ h => h) (Or.inl ⟨by kernel_rfl, ?_⟩) (by assumption) ?_
      rotate_left 1
      focus (intro wz hSz; (try dsimp only at hSz); go_simp; (try with_reducible rfl))
      simp only [Act.put, List.setIfInBounds_toArray, List.set_cons_zero, List.set_cons_succ]
      refine wpHeld_takeL (i := 9) (v := ?_) rfl (by kernel_rfl) (by kernel_rfl) (by kernel_rfl) (fun _ _ _ h => h) (Or.inl ⟨by kernel_rfl, ?_⟩) (by assumption) ?_
      rotate_left 1
      focus (intro wz hSz; (try dsimp only at hSz); go_simp; (try with_reducible rfl))
      simp only [Act.put, List.setIfInBounds_toArray, List.set_cons_zero, List.set_cons_succ]
      refine wpHeld_takeL (i := 10) (v := ?_) rfl (by kernel_rfl) (by kernel_rfl) (by kernel_rfl) (fun _ _ _ h => h) (Or.inl ⟨by kernel_rfl, ?_⟩) (by assumption) ?_
      rotate_left 1
      focus (intro wz hSz; (try dsimp only at hSz); go_simp; (try with_reducible rfl))
      simp only [Act.put, List.setIfInBounds_toArray, List.set_cons_zero, List.set_cons_succ]
      refine wpHeld_takeL (i := 11) (v := ?_) rfl (by kernel_rfl) (by kernel_rfl) (by kernel_rfl) (fun _ _ _ h => h) (Or.inl ⟨by kernel_rfl, ?_⟩) (by assumption) ?_
      rotate_left 1
      focus (intro wz hSz; (try dsimp only at hSz); go_simp; (try with_reducible rfl))
      simp only [Act.put, List.setIfInBounds_toArray, List.set_cons_zero, List.set_cons_succ]
      refine wpHeld_takeL (i := 12) (v := ?_) rfl (by kernel_rfl) (by kernel_rfl) (by kernel_rfl) (fun _ _ _ h => h) (Or.inl ⟨by kernel_rfl, ?_⟩) (by assumption) ?_
      rotate_left 1
      focus (intro wz hSz; (try dsimp only at hSz); go_simp; (try with_reducible rfl))
      simp only [Act.put, List.setIfInBounds_toArray, List.set_cons_zero, List.set_cons_succ]
      refine wpHeld_takeL (i := 13) (v := ?_) rfl (by kernel_rfl) (by kernel_rfl) (by kernel_rfl) (fun _ _ _ h => h) (Or.inl ⟨by kernel_rfl, ?_⟩) (by assumption) ?_
      rotate_left 1
      focus (intro wz hSz; (try dsimp only at hSz); go_simp; (try with_reducible rfl))
      simp only [Act.put, List.setIfInBounds_toArray, List.set_cons_zero, List.set_cons_succ]
      refine wpHeld_takeL (i := 14) (v := ?_) rfl (by kernel_rfl) (by kernel_rfl) (by kernel_rfl) (fun _ _ _ h => h) (Or.inl ⟨by kernel_rfl, ?_⟩) (by assumption) ?_
      rotate_left 1
      focus (intro wz hSz; (try dsimp only at hSz); go_simp; (try with_reducible rfl))
      simp only [Act.put, List.setIfInBounds_toArray, List.set_cons_zero, List.set_cons_succ]
      refine wpHeld_takeL (i := 15) (v := ?_) rfl (by kernel_rfl) (by kernel_rfl) (by kernel_rfl) (fun _ _ _ h => h) (Or.inl ⟨by kernel_rfl, ?_⟩) (by assumption) ?_
      rotate_left 1
      focus (intro wz hSz; (try dsimp only at hSz); go_simp; (try with_reducible rfl))
      simp only [Act.put, List.setIfInBounds_toArray, List.set_cons_zero, List.set_cons_succ]
      refine wpHeld_takeL (i := 16) (v := ?_) rfl (by kernel_rfl) (by kernel_rfl) (by kernel_rfl) (fun _ _ _ h => h) (Or.inl ⟨by kernel_rfl, ?_⟩) (by assumption) ?_
      rotate_left 1
      focus (intro wz hSz; (try dsimp only at hSz); go_simp; (try with_reducible rfl))
      simp only [Act.put, List.setIfInBounds_toArray, List.set_cons_zero, List.set_cons_succ]
      refine wpHeld_takeL (i := 17) (v := ?_) rfl (by kernel_rfl) (by kernel_rfl) (by kernel_rfl) (fun _ _ _ h => h) (Or.inl ⟨by kernel_rfl, ?_⟩) (by assumption) ?_
      rotate_left 1
      focus (intro wz hSz; (try dsimp only at hSz); go_simp; (try with_reducible rfl))
      simp only [Act.put, List.setIfInBounds_toArray, List.set_cons_zero, List.set_cons_succ]
      refine wpHeld_takeL (i := 18) (v := ?_) rfl (by kernel_rfl) (by kernel_rfl) (by kernel_rfl) (fun _ _ _ h => h) (Or.inl ⟨by kernel_rfl, ?_⟩) (by assumption) ?_
      rotate_left 1
      focus (intro wz hSz; (try dsimp only at hSz); go_simp; (try with_reducible rfl))
      simp only [Act.put, List.setIfInBounds_toArray, List.set_cons_zero, List.set_cons_succ]
      refine wpHeld_takeL (i := 19) (v := ?_) rfl (by kernel_rfl) (by kernel_rfl) (by kernel_rfl) (fun _ _ _ h => h) (Or.inl ⟨by kernel_rfl, ?_⟩) (by assumption) ?_
      rotate_left 1
      focus (intro wz hSz; (try dsimp only at hSz); go_simp; (try with_reducible rfl))
      simp only [Act.put, List.setIfInBounds_toArray, List.set_cons_zero, List.set_cons_succ]
      refine wpHeld_takeL (i := 20) (v := ?_) rfl (by kernel_rfl) (by kernel_rfl) (by kernel_rfl) (fun _ _ _ h => h) (Or.inl ⟨by kernel_rfl, ?_⟩) (by assumption) ?_
      rotate_left 1
      focus (intro wz hSz; (try dsimp only at hSz); go_simp; (try with_reducible rfl))
      simp only [Act.put, List.setIfInBounds_toArray, List.set_cons_zero, List.set_cons_succ]
      refine wpHeld_takeL (i := 21) (v := ?_) rfl (by kernel_rfl) (by kernel_rfl) (by kernel_rfl) (fun _ _ _ h => h) (Or.inl ⟨by kernel_rfl, ?_⟩) (by assumption) ?_
      rotate_left 1
      focus (intro wz hSz; (try dsimp only at hSz); go_simp; (try with_reducible rfl))
      simp only [Act.put, List.setIfInBounds_toArray, List.set_cons_zero, List.set_cons_succ]
      refine wpHeld_oneL (i := 22) (by kernel_rfl) (by rfl) (fun K hK => ?_)
      go_simp
      refine (sameBridge_any 0 0 0 0 0 0 0 0 0 false false _ [] 0 0 0 0 0 0 0 0 0 false false _ [] _ ?_ (Ls.nothing _)).mono ?_
      · exact HL0.out.keep (hHeld.2.2.2.2.2.2.2.2.2.2.2.2.2.2.2.2.2.2.2.2.2.2)
      rintro e x4 ⟨rfl, y4⟩
      go_wp2_with fail
      refine hK.out _ _ ?_ (fun hHeld2 => ?_)
      · exact KEEP _ (bel_trans (hHeld.2.2.2.2.2.2.2.2.2.2.2.2.2.2.2.2.2.2.2.2.2.2) y4)
      clear hK K hHeld
      have hHeld := hHeld2
      clear hHeld2
      rw [sameBr_refl]
      refine wpHeld_takeL (i := 23) (v := ?_) rfl (by kernel_rfl) (by kernel_rfl) (by kernel_rfl) (fun _ _ _ h => h) (Or.inl ⟨by kernel_rfl, ?_⟩) (by assumption) ?_
      rotate_left 1
      focus (intro wz hSz; (try dsimp only at hSz); go_simp; (try with_reducible rfl))
      simp only [Act.put, List.setIfInBounds_toArray, List.set_cons_zero, List.set_cons_succ]
      refine wpHeld_takeL (i := 24) (v := ?_) rfl (by kernel_rfl) (by kernel_rfl) (by kernel_rfl) (fun _ _ _ h => h) (Or.inl ⟨by kernel_rfl, ?_⟩) (by assumption) ?_
      rotate_left 1
      focus (intro wz hSz; (try dsimp only at hSz); go_simp; (try with_reducible rfl))
      simp only [Act.put, List.setIfInBounds_toArray, List.set_cons_zero, List.set_cons_succ]
      refine wpHeld_takeL (i := 25) (v := ?_) rfl (by kernel_rfl) (by kernel_rfl) (by kernel_rfl) (fun _ _ _ h => h) (Or.inl ⟨by kernel_rfl, ?_⟩) (by assumption) ?_
      rotate_left 1
      focus (intro wz hSz; (try dsimp only at hSz); go_simp; (try with_reducible rfl))
      simp only [Act.put, List.setIfInBounds_toArray, List.set_cons_zero, List.set_cons_succ]
      refine wpHeld_takeL (i := 26) (v := ?_) rfl (by kernel_rfl) (by kernel_rfl) (by kernel_rfl) (fun _ _ _ h => h) (Or.inl ⟨by kernel_rfl, ?_⟩) (by assumption) ?_
      rotate_left 1
      focus (intro wz hSz; (try dsimp only at hSz); go_simp; (try with_reducible rfl))
      simp only [Act.put, List.setIfInBounds_toArray, List.set_cons_zero, List.set_cons_succ]
      refine wpHeld_oneL (i := 27) (by kernel_rfl) (by rfl) (fun K hK => ?_)
      go_simp
      refine (sameTold_eq false _ _ [] 0 _ _ [] _ (Sl.nil _ _ _) (Sl.nil _ _ _) ?_ (Ts.nothing _)).mono ?_
      · exact HT0.out.keep (hHeld.2.2.2.2.2.2.2.2.2.2.2.2.2.2.2.2.2.2.2.2.2.2)
      rintro e x5 ⟨rfl, y5⟩
      go_wp2_with fail
      refine hK.out _ _ ?_ (fun hHeld2 => ?_)
      · exact KEEP _ (bel_trans (hHeld.2.2.2.2.2.2.2.2.2.2.2.2.2.2.2.2.2.2.2.2.2.2) y5)
      clear hK K hHeld
      have hHeld := hHeld2
      clear hHeld2
      refine wpHeld_takeL (i := 28) (v := ?_) rfl (by kernel_rfl) (by kernel_rfl) (by kernel_rfl) (fun _ _ _ h => h) (Or.inl ⟨by kernel_rfl, ?_⟩) (by assumption) ?_
      rotate_left 1
      focus (intro wz hSz; (try dsimp only at hSz); go_simp; (try with_reducible rfl))
      simp only [Act.put, List.setIfInBounds_toArray, List.set_cons_zero, List.set_cons_succ]
      refine wpHeld_takeL (i := 29) (v := ?_) rfl (by kernel_rfl) (by kernel_rfl) (by kernel_rfl) (fun _ _ _ h => h) (Or.inl ⟨by kernel_rfl, ?_⟩) (by assumption) ?_
      rotate_left 1
      focus (intro wz hSz; (try dsimp only at hSz); go_simp; (try with_reducible rfl))
      simp only [Act.put, List.setIfInBounds_toArray, List.set_cons_zero, List.set_cons_succ]
      refine wpAnyH_done (by kernel_rfl) ?_ _
      have hB : Hid (Below U.heap.size U _) := hHeld.2.2.2.2.2.2.2.2.2.2.2.2.2.2.2.2.2.2.2.2.2.2
      clear hHeld KEEP
      go_wp2
      go_ret
      exact ⟨rfl, bel_trans BU.out hB.out⟩
  rw [hb]
  obtain ⟨c0, c1, c2, c3, c4⟩ := (X2.keep b34).blk.five
  have sA := (X2.keep b34).lt
  go_wp2_with fail
  refine (checkAsk_any d a n fw _ ds _ (HD.out.keep (bel_trans BB.out b34))).mono ?_
  rintro e w5 ⟨rfl, b5⟩
  clear c0 c1 c2 c3 c4 sA
  have b35 := bel_trans b34 b5
  clear b34 b5
  rw [← HME.out hz hb]
  have BV : Hid (Below w.heap.size w w5) := bel_trans BB.out b35
  have HDV : Hid (Sl w5 _ ds) := HD.out.keep BV.out
  have HLV : Hid (Ls w5 _ l1) := HLn.out.keep b35
  have HTV : Hid (Ts w5 _ tch) := HTn.out.keep b35
  have HAV : Hid (Sl w5 _ dat) := HDn.out.keep b35
  have HSV : Hid (Sl w5 _ ms) := HSn.out.keep b35
  replace X0 := X0.keep b35
  replace X1 := X1.keep b35
  replace X2 := X2.keep b35
  replace P0 := P0.keep b35
  replace P1 := P1.keep b35
  replace P2 := P2.keep b35
  have HPU : Hid (P + 1 + 1 < w5.heap.size) := P2.lt
  clear b35 HSn HLn HDn HTn BB
  obtain ⟨V, rfl⟩ : ∃ V, V = w5 := ⟨_, rfl⟩
  by_cases hE0 : E = 0
  · skip
    subst hE0
    obtain ⟨hz0, hb0, hc0⟩ := doE_ok HE.out
    obtain ⟨⟨n1, n2⟩, _, ⟨a1, a2⟩, _, _⟩ := ckA_ok hc0
    obtain ⟨o, rfl⟩ : ∃ o : Nat, a = o := ⟨a.toNat, by omega⟩
    obtain ⟨cnt, rfl⟩ : ∃ c : Nat, n = c := ⟨n.toNat, by omega⟩
    obtain rfl : dn = decide (f = 0) := by rw [← HDN.out]; simp
    clear n1 n2 a1 a2 hz0 hb0 hc0
    go_upto_region 7 with fail
    obtain ⟨c0, c1, c2, c3, c4⟩ := X2.blk.five
    have sA := X2.lt
    go_cut [46] from 34 to 46 (fun s wx => s = .bool ((0 : Int) != 0) ∧ Below V.heap.size V wx)
    case first =>
      clear P0 P1 P2 X0 X1
      refine wp_region_held_drew (S := (fun w' => w'.cell? ⟨w.heap.size + 1 + 1, 0, none⟩ = some (.int .i64 d) ∧ w'.cell? ⟨w.heap.size + 1 + 1, 1, none⟩ = some (.int .i64 o) ∧ w'.cell? ⟨w.heap.size + 1 + 1, 2, none⟩ = some (.int .i64 cnt) ∧ w'.cell? ⟨w.heap.size + 1 + 1, 3, none⟩ = some (.bool fw) ∧ w'.cell? ⟨w.heap.size + 1 + 1, 4, none⟩ = some (.slice da ds.length dc) ∧ Below V.heap.size V w')) (by kernel_rfl) (keep5 c0 c1 c2 c3 c4 sA (Below.drew (Below.refl _ _))) (fun hHeld => ?_)
      refine wpHeld_oneL (i := 0) (by kernel_rfl) (by rfl) (fun K hK => ?_)
      go_simp
      refine (carried_true _).mono ?_
      rintro e x1 ⟨rfl, y1⟩
      go_wp2_with fail
      refine hK.out _ _ ?_ (fun hHeld2 => ?_)
      · exact keep5 c0 c1 c2 c3 c4 sA (bel_trans (limb5 hHeld) y1)
      clear hK K hHeld
      have hHeld := hHeld2
      clear hHeld2
      refine wpHeld_takeL (i := 1) (v := ?_) rfl (by kernel_rfl) (by kernel_rfl) (by kernel_rfl) (fun _ _ _ h => h) (Or.inl ⟨by kernel_rfl, ?_⟩) (by assumption) ?_
      rotate_left 1
      focus (intro wz hSz; (try dsimp only at hSz); go_simp; (try with_reducible rfl))
      simp only [Act.put, List.setIfInBounds_toArray, List.set_cons_zero, List.set_cons_succ]
      refine wpHeld_takeL (i := 2) (v := ?_) rfl (by kernel_rfl) (by kernel_rfl) (by kernel_rfl) (fun _ _ _ h => h) (Or.inl ⟨by kernel_rfl, ?_⟩) (by assumption) ?_
      rotate_left 1
      focus (intro wz hSz; (try dsimp only at hSz); go_simp; (try with_reducible rfl))
      simp only [Act.put, List.setIfInBounds_toArray, List.set_cons_zero, List.set_cons_succ]
      refine wpHeld_takeL (i := 3) (v := ?_) rfl (by kernel_rfl) (by kernel_rfl) (by kernel_rfl) (fun _ _ _ h => h) (Or.inl ⟨by kernel_rfl, ?_⟩) (by assumption) ?_
      rotate_left 1
      focus (intro wz hSz; (try dsimp only at hSz); go_simp; (try with_reducible rfl))
      simp only [Act.put, List.setIfInBounds_toArray, List.set_cons_zero, List.set_cons_succ]
      refine wpHeld_takeL (i := 5) (v := ?_) rfl (by kernel_rfl) (by kernel_rfl) (by kernel_rfl) (fun _ _ _ h => h) (Or.inl ⟨by kernel_rfl, ?_⟩) (by assumption) ?_
      rotate_left 1
      focus (intro wz hSz; (try dsimp only at hSz); go_simp; (try with_reducible rfl))
      simp only [Act.put, List.setIfInBounds_toArray, List.set_cons_zero, List.set_cons_succ]
      refine wpHeld_oneL (i := 4) (by kernel_rfl) (by rfl) (fun K hK => ?_)
      go_simp
      refine (dCheck_any d o cnt fw _ ds _ ?_).mono ?_
      · exact HDV.out.keep (limb5 hHeld)
      rintro e x2 ⟨rfl, y2⟩
      go_wp2_with fail
      refine hK.out _ _ ?_ (fun hHeld2 => ?_)
      · exact keep5 c0 c1 c2 c3 c4 sA (bel_trans (limb5 hHeld) y2)
      clear hK K hHeld
      have hHeld := hHeld2
      clear hHeld2
      refine wpHeld_oneL (i := 6) (by kernel_rfl) (by rfl) (fun K hK => ?_)
      go_simp
      refine (checkAsk_any d o cnt fw _ ds _ ?_).mono ?_
      · exact HDV.out.keep (limb5 hHeld)
      rintro e x3 ⟨rfl, y3⟩
      go_wp2_with fail
      refine hK.out _ _ ?_ (fun hHeld2 => ?_)
      · exact keep5 c0 c1 c2 c3 c4 sA (bel_trans (limb5 hHeld) y3)
      clear hK K hHeld
      have hHeld := hHeld2
      clear hHeld2
      refine wpHeld_takeL (i := 7) (v := ?_) rfl (by kernel_rfl) (by kernel_rfl) (by kernel_rfl) (fun _ _ _ h => h) (Or.inl ⟨by kernel_rfl, ?_⟩) (by assumption) ?_
      rotate_left 1
      focus (intro wz hSz; (try dsimp only at hSz); go_simp; (try with_reducible rfl))
      simp only [Act.put, List.setIfInBounds_toArray, List.set_cons_zero, List.set_cons_succ]
      refine wpHeld_takeL (i := 8) (v := ?_) rfl (by kernel_rfl) (by kernel_rfl) (by kernel_rfl) (fun _ _ _ h => h) (Or.inl ⟨by kernel_rfl, ?_⟩) (by assumption) ?_
      rotate_left 1
      focus (intro wz hSz; (try dsimp only at hSz); go_simp; (try with_reducible rfl))
      simp only [Act.put, List.setIfInBounds_toArray, List.set_cons_zero, List.set_cons_succ]
      refine wpHeld_takeL (i := 9) (v := ?_) rfl (by kernel_rfl) (by kernel_rfl) (by kernel_rfl) (fun _ _ _ h => h) (Or.inl ⟨by kernel_rfl, ?_⟩) (by assumption) ?_
      rotate_left 1
      focus (intro wz hSz; (try dsimp only at hSz); go_simp; (try with_reducible rfl))
      simp only [Act.put, List.setIfInBounds_toArray, List.set_cons_zero, List.set_cons_succ]
      refine wpHeld_takeL (i := 10) (v := ?_) rfl (by kernel_rfl) (by kernel_rfl) (by kernel_rfl) (fun _ _ _ h => h) (Or.inl ⟨by kernel_rfl, ?_⟩) (by assumption) ?_
      rotate_left 1
      focus (intro wz hSz; (try dsimp only at hSz); go_simp; (try with_reducible rfl))
      simp only [Act.put, List.setIfInBounds_toArray, List.set_cons_zero, List.set_cons_succ]
      refine wpHeld_takeL (i := 11) (v := ?_) rfl (by kernel_rfl) (by kernel_rfl) (by kernel_rfl) (fun _ _ _ h => h) (Or.inl ⟨by kernel_rfl, ?_⟩) (by assumption) ?_
      rotate_left 1
      focus (intro wz hSz; (try dsimp only at hSz); go_simp; (try with_reducible rfl))
      simp only [Act.put, List.setIfInBounds_toArray, List.set_cons_zero, List.set_cons_succ]
      refine wpHeld_takeL (i := 12) (v := ?_) rfl (by kernel_rfl) (by kernel_rfl) (by kernel_rfl) (fun _ _ _ h => h) (Or.inl ⟨by kernel_rfl, ?_⟩) (by assumption) ?_
      rotate_left 1
      focus (intro wz hSz; (try dsimp only at hSz); go_simp; (try with_reducible rfl))
      simp only [Act.put, List.setIfInBounds_toArray, List.set_cons_zero, List.set_cons_succ]
      refine wpAnyH_done (by kernel_rfl) ?_ _
      have hB := limb5 hHeld
      clear hHeld
      go_wp2_with fail
      go_meet
      exact ⟨by first | (simp; done) | (simp; exact hE0), hB⟩
    case rest =>
      obtain ⟨rfl, bc⟩ := hcut
      obtain ⟨U, rfl⟩ : ∃ U, U = wc := ⟨wc, rfl⟩
      have BU : Hid (Below w.heap.size w U) := bel_trans BV.out bc
      have HMU : Hid (Sl U _ zs) := HM.out.keep BU.out
      have HSU : Hid (Ls U _ l) := HS.out.keep BU.out
      have HDU : Hid (Sl U _ ds) := HDV.out.keep bc
      have HLU : Hid (Ls U _ l1) := HLV.out.keep bc
      have HTU : Hid (Ts U _ tch) := HTV.out.keep bc
      have HAU : Hid (Sl U _ dat) := HAV.out.keep bc
      have HNU : Hid (Sl U _ ms) := HSV.out.keep bc
      replace X0 := X0.keep bc
      replace X1 := X1.keep bc
      replace X2 := X2.keep bc
      replace P0 := P0.keep bc
      replace P1 := P1.keep bc
      replace P2 := P2.keep bc
      clear bc c0 c1 c2 c3 c4 sA HDV HLV HTV HAV HSV BV
      rw [show ((0 : Int) != 0) = false from rfl]
      obtain ⟨m0, -, s0⟩ := X0.one
      obtain ⟨⟨q0, q1, q2, q3, q4, q5, q6, q7, q8, q9, q10, q11⟩, sq⟩ := X1.twelve
      obtain ⟨c0, c1, c2, c3, c4⟩ := X2.blk.five
      have sA := X2.lt
      go_wp2_with fail
      refine (asked_any _ zs mo ba op oh ot fe fp fh ft st lo (.slice va l.length vk) l d o cnt fw _ ds _ HMU.out HSU.out HDU.out HE.out).mono ?_
      rintro e w5 ⟨ma2, mn2, mc2, mo2, ba2, op2, oh2, ot2, fe2, fp2, fh2, ft2, st2, lo2, va2, vk2, l2, da2, dc2, ta2, tc2, dat2, tch2, ms2, f2, rfl, hR2, hS5, hL5, hD5, hT5, b5⟩
      rw [HR.out] at hR2
      simp only [Prod.mk.injEq, St.mk.injEq, Br.mk.injEq] at hR2
      obtain ⟨⟨rfl, ⟨rfl, rfl, rfl, rfl, rfl, rfl, rfl, rfl, rfl, rfl, rfl, rfl⟩, rfl, rfl⟩, rfl⟩ := hR2
      have hP6 : P + 1 + 1 < w5.heap.size := Nat.lt_of_lt_of_le P2.lt b5.size
      clear m0 s0 q0 q1 q2 q3 q4 q5 q6 q7 q8 q9 q10 q11 sq c0 c1 c2 c3 c4 sA X0 X1 X2
      have BX : Hid (Below w5.heap.size w5 (((w5.alloc (.cells #[.slice ma2 mn2 mc2] 39)).alloc (.cells #[.int .i64 mo1, .int .i64 ba1, .slice va2 l1.length vk2, .int .i64 op1, .int .i64 oh1, .int .i64 ot1, .bool st1, .int .i64 fe1, .int .i64 fp1, .int .i64 fh1, .int .i64 ft1, .bool lo1] 44)).alloc (.cells #[.bool (decide (f = 0)), .slice da2 dat.length dc2, .int .i64 f, .slice ta2 tch.length tc2] 82))) := bel_alloc (bel_alloc (bel_alloc (Below.refl _ _) _) _) _
      have Q0 := ((Box.newAt (w := w5) rfl 39 #[.slice ma2 mn2 mc2]).past (.cells #[.int .i64 mo1, .int .i64 ba1, .slice va2 l1.length vk2, .int .i64 op1, .int .i64 oh1, .int .i64 ot1, .bool st1, .int .i64 fe1, .int .i64 fp1, .int .i64 fh1, .int .i64 ft1, .bool lo1] 44)).past (.cells #[.bool (decide (f = 0)), .slice da2 dat.length dc2, .int .i64 f, .slice ta2 tch.length tc2] 82)
      have Q1 := (Box.newAt (w := w5.alloc (.cells #[.slice ma2 mn2 mc2] 39)) (n := w5.heap.size + 1) (by simp) 44 #[.int .i64 mo1, .int .i64 ba1, .slice va2 l1.length vk2, .int .i64 op1, .int .i64 oh1, .int .i64 ot1, .bool st1, .int .i64 fe1, .int .i64 fp1, .int .i64 fh1, .int .i64 ft1, .bool lo1]).past (.cells #[.bool (decide (f = 0)), .slice da2 dat.length dc2, .int .i64 f, .slice ta2 tch.length tc2] 82)
      have Q2 := Box.newAt (w := (w5.alloc (.cells #[.slice ma2 mn2 mc2] 39)).alloc (.cells #[.int .i64 mo1, .int .i64 ba1, .slice va2 l1.length vk2, .int .i64 op1, .int .i64 oh1, .int .i64 ot1, .bool st1, .int .i64 fe1, .int .i64 fp1, .int .i64 fh1, .int .i64 ft1, .bool lo1] 44)) (n := w5.heap.size + 1 + 1) (by simp) 82 #[.bool (decide (f = 0)), .slice da2 dat.length dc2, .int .i64 f, .slice ta2 tch.length tc2]
      replace P0 := (P0.keep b5).keep BX.out
      replace P1 := (P1.keep b5).keep BX.out
      replace P2 := (P2.keep b5).keep BX.out
      have S1 : Hid (Sl _ _ ms) := (HNU.out.keep b5).keep BX.out
      have L1 : Hid (Ls _ _ l1) := (HLU.out.keep b5).keep BX.out
      have D1 : Hid (Sl _ _ dat) := (HAU.out.keep b5).keep BX.out
      have T1 : Hid (Ts _ _ tch) := (HTU.out.keep b5).keep BX.out
      have S2 : Hid (Sl _ _ ms) := hS5.keep BX.out
      have L2 : Hid (Ls _ _ l1) := hL5.keep BX.out
      have D2 : Hid (Sl _ _ dat) := hD5.keep BX.out
      have T2 : Hid (Ts _ _ tch) := hT5.keep BX.out
      have B6 : Hid (Below w.heap.size w _) := bel_trans (bel_trans BU.out b5) BX.out
      clear hS5 hL5 hD5 hT5 b5 BX HMU HSU HDU HLU HTU HAU HNU BU
      go_upto_region 10 with fail
      generalize (((w5.alloc (.cells #[.slice ma2 mn2 mc2] 39)).alloc (.cells #[.int .i64 mo1, .int .i64 ba1, .slice va2 l1.length vk2, .int .i64 op1, .int .i64 oh1, .int .i64 ot1, .bool st1, .int .i64 fe1, .int .i64 fp1, .int .i64 fh1, .int .i64 ft1, .bool lo1] 44)).alloc (.cells #[.bool (decide (f = 0)), .slice da2 dat.length dc2, .int .i64 f, .slice ta2 tch.length tc2] 82)) = Y at *
      generalize w5.heap.size = G at *
      obtain ⟨m0, -, s0⟩ := P0.one
      obtain ⟨m2, -, s2⟩ := Q0.one
      go_wp2_with fail
      refine (equal_any _ _ ms ms _ S1.out S2.out).mono ?_
      rintro e w6 ⟨rfl, nq, rfl⟩
      rw [decide_eq_true (rfl : ms = ms)]
      clear m0 s0 m2 s2
      obtain ⟨⟨q0, q1, q2, q3, q4, q5, q6, q7, q8, q9, q10, q11⟩, sq⟩ := (P1.drewN nq).twelve
      obtain ⟨⟨u0, u1, u2, u3, u4, u5, u6, u7, u8, u9, u10, u11⟩, su⟩ := (Q1.drewN nq).twelve
      go_wp2_with fail
      refine (sameBridge_any _ _ _ _ _ _ _ _ _ _ _ _ l1 _ _ _ _ _ _ _ _ _ _ _ _ l1 _ (Ls.drewN L1.out nq) (Ls.drewN L2.out nq)).mono ?_
      rintro e w7 ⟨rfl, b7⟩
      rw [sameBr_refl]
      clear q0 q1 q2 q3 q4 q5 q6 q7 q8 q9 q10 q11 sq u0 u1 u2 u3 u4 u5 u6 u7 u8 u9 u10 u11 su
      obtain ⟨t0, t1, t2, t3, -, -, -, -, sT⟩ := ((P2.drewN nq).keep b7).four
      obtain ⟨v0, v1, v2, v3, -, -, -, -, sV⟩ := ((Q2.drewN nq).keep b7).four
      go_wp2_with fail
      refine (sameTold_eq _ _ _ dat f _ _ tch _ ((Sl.drewN D1.out nq).keep b7) ((Sl.drewN D2.out nq).keep b7) (Ts.keep (show Ts (Y.drewN nq) _ tch from T1.out) b7) (Ts.keep (show Ts (Y.drewN nq) _ tch from T2.out) b7)).mono ?_
      rintro e w8 ⟨rfl, b8⟩
      have B8 : Hid (Below w.heap.size w w8) := bel_trans (bel_trans (bel_drewN B6.out nq) b7) b8
      clear b7 b8 t0 t1 t2 t3 sT v0 v1 v2 v3 sV
      go_wp2
      go_ret
      exact ⟨rfl, B8.out⟩
  · skip
    have h0 := HR.out
    rw [doR, if_neg (by rw [HE.out]; exact hE0)] at h0
    simp only [Prod.mk.injEq, St.mk.injEq, B0, Br.mk.injEq] at h0
    obtain ⟨⟨rfl, ⟨rfl, rfl, rfl, rfl, rfl, rfl, rfl, rfl, rfl, rfl, rfl, rfl⟩, rfl, rfl⟩, rfl⟩ := h0
    obtain rfl : dn = false := by rw [← HDN.out, decide_eq_false hE0]; rfl
    have hE1 : (E != 0) = true := by simpa using hE0
    have hE2 : (E == 0) = false := by simpa using hE0
    go_upto_region 7 with fail
    obtain ⟨c0, c1, c2, c3, c4⟩ := X2.blk.five
    have sA := X2.lt
    go_cut [46] from 34 to 46 (fun s wx => s = .bool (E != 0) ∧ Below V.heap.size V wx)
    case first =>
      clear P0 P1 P2 X0 X1
      refine wp_region_held_drew (S := (fun w' => w'.cell? ⟨w.heap.size + 1 + 1, 0, none⟩ = some (.int .i64 d) ∧ w'.cell? ⟨w.heap.size + 1 + 1, 1, none⟩ = some (.int .i64 a) ∧ w'.cell? ⟨w.heap.size + 1 + 1, 2, none⟩ = some (.int .i64 n) ∧ w'.cell? ⟨w.heap.size + 1 + 1, 3, none⟩ = some (.bool fw) ∧ w'.cell? ⟨w.heap.size + 1 + 1, 4, none⟩ = some (.slice da ds.length dc) ∧ Below V.heap.size V w')) (by kernel_rfl) (keep5 c0 c1 c2 c3 c4 sA (Below.drew (Below.refl _ _))) (fun hHeld => ?_)
      refine wpHeld_oneL (i := 0) (by kernel_rfl) (by rfl) (fun K hK => ?_)
      go_simp
      refine (carried_true _).mono ?_
      rintro e x1 ⟨rfl, y1⟩
      go_wp2_with fail
      refine hK.out _ _ ?_ (fun hHeld2 => ?_)
      · exact keep5 c0 c1 c2 c3 c4 sA (bel_trans (limb5 hHeld) y1)
      clear hK K hHeld
      have hHeld := hHeld2
      clear hHeld2
      refine wpHeld_takeL (i := 1) (v := ?_) rfl (by kernel_rfl) (by kernel_rfl) (by kernel_rfl) (fun _ _ _ h => h) (Or.inl ⟨by kernel_rfl, ?_⟩) (by assumption) ?_
      rotate_left 1
      focus (intro wz hSz; (try dsimp only at hSz); go_simp; (try with_reducible rfl))
      simp only [Act.put, List.setIfInBounds_toArray, List.set_cons_zero, List.set_cons_succ]
      refine wpHeld_takeL (i := 2) (v := ?_) rfl (by kernel_rfl) (by kernel_rfl) (by kernel_rfl) (fun _ _ _ h => h) (Or.inl ⟨by kernel_rfl, ?_⟩) (by assumption) ?_
      rotate_left 1
      focus (intro wz hSz; (try dsimp only at hSz); go_simp; (try with_reducible rfl))
      simp only [Act.put, List.setIfInBounds_toArray, List.set_cons_zero, List.set_cons_succ]
      refine wpHeld_takeL (i := 3) (v := ?_) rfl (by kernel_rfl) (by kernel_rfl) (by kernel_rfl) (fun _ _ _ h => h) (Or.inl ⟨by kernel_rfl, ?_⟩) (by assumption) ?_
      rotate_left 1
      focus (intro wz hSz; (try dsimp only at hSz); go_simp; (try with_reducible rfl))
      simp only [Act.put, List.setIfInBounds_toArray, List.set_cons_zero, List.set_cons_succ]
      refine wpHeld_takeL (i := 5) (v := ?_) rfl (by kernel_rfl) (by kernel_rfl) (by kernel_rfl) (fun _ _ _ h => h) (Or.inl ⟨by kernel_rfl, ?_⟩) (by assumption) ?_
      rotate_left 1
      focus (intro wz hSz; (try dsimp only at hSz); go_simp; (try with_reducible rfl))
      simp only [Act.put, List.setIfInBounds_toArray, List.set_cons_zero, List.set_cons_succ]
      refine wpHeld_oneL (i := 4) (by kernel_rfl) (by rfl) (fun K hK => ?_)
      go_simp
      refine (dCheck_any d a n fw _ ds _ ?_).mono ?_
      · exact HDV.out.keep (limb5 hHeld)
      rintro e x2 ⟨rfl, y2⟩
      go_wp2_with fail
      refine hK.out _ _ ?_ (fun hHeld2 => ?_)
      · exact keep5 c0 c1 c2 c3 c4 sA (bel_trans (limb5 hHeld) y2)
      clear hK K hHeld
      have hHeld := hHeld2
      clear hHeld2
      refine wpHeld_oneL (i := 6) (by kernel_rfl) (by rfl) (fun K hK => ?_)
      go_simp
      refine (checkAsk_any d a n fw _ ds _ ?_).mono ?_
      · exact HDV.out.keep (limb5 hHeld)
      rintro e x3 ⟨rfl, y3⟩
      go_wp2_with fail
      refine hK.out _ _ ?_ (fun hHeld2 => ?_)
      · exact keep5 c0 c1 c2 c3 c4 sA (bel_trans (limb5 hHeld) y3)
      clear hK K hHeld
      have hHeld := hHeld2
      clear hHeld2
      refine wpHeld_takeL (i := 7) (v := ?_) rfl (by kernel_rfl) (by kernel_rfl) (by kernel_rfl) (fun _ _ _ h => h) (Or.inl ⟨by kernel_rfl, ?_⟩) (by assumption) ?_
      rotate_left 1
      focus (intro wz hSz; (try dsimp only at hSz); go_simp; (try with_reducible rfl))
      simp only [Act.put, List.setIfInBounds_toArray, List.set_cons_zero, List.set_cons_succ]
      refine wpHeld_takeL (i := 8) (v := ?_) rfl (by kernel_rfl) (by kernel_rfl) (by kernel_rfl) (fun _ _ _ h => h) (Or.inl ⟨by kernel_rfl, ?_⟩) (by assumption) ?_
      rotate_left 1
      focus (intro wz hSz; (try dsimp only at hSz); go_simp; (try with_reducible rfl))
      simp only [Act.put, List.setIfInBounds_toArray, List.set_cons_zero, List.set_cons_succ]
      refine wpHeld_takeL (i := 9) (v := ?_) rfl (by kernel_rfl) (by kernel_rfl) (by kernel_rfl) (fun _ _ _ h => h) (Or.inl ⟨by kernel_rfl, ?_⟩) (by assumption) ?_
      rotate_left 1
      focus (intro wz hSz; (try dsimp only at hSz); go_simp; (try with_reducible rfl))
      simp only [Act.put, List.setIfInBounds_toArray, List.set_cons_zero, List.set_cons_succ]
      refine wpHeld_takeL (i := 10) (v := ?_) rfl (by kernel_rfl) (by kernel_rfl) (by kernel_rfl) (fun _ _ _ h => h) (Or.inl ⟨by kernel_rfl, ?_⟩) (by assumption) ?_
      rotate_left 1
      focus (intro wz hSz; (try dsimp only at hSz); go_simp; (try with_reducible rfl))
      simp only [Act.put, List.setIfInBounds_toArray, List.set_cons_zero, List.set_cons_succ]
      refine wpHeld_takeL (i := 11) (v := ?_) rfl (by kernel_rfl) (by kernel_rfl) (by kernel_rfl) (fun _ _ _ h => h) (Or.inl ⟨by kernel_rfl, ?_⟩) (by assumption) ?_
      rotate_left 1
      focus (intro wz hSz; (try dsimp only at hSz); go_simp; (try with_reducible rfl))
      simp only [Act.put, List.setIfInBounds_toArray, List.set_cons_zero, List.set_cons_succ]
      refine wpHeld_takeL (i := 12) (v := ?_) rfl (by kernel_rfl) (by kernel_rfl) (by kernel_rfl) (fun _ _ _ h => h) (Or.inl ⟨by kernel_rfl, ?_⟩) (by assumption) ?_
      rotate_left 1
      focus (intro wz hSz; (try dsimp only at hSz); go_simp; (try with_reducible rfl))
      simp only [Act.put, List.setIfInBounds_toArray, List.set_cons_zero, List.set_cons_succ]
      refine wpAnyH_done (by kernel_rfl) ?_ _
      have hB := limb5 hHeld
      clear hHeld
      go_wp2_with fail
      go_meet
      exact ⟨by first | (simp; done) | (simp; exact hE0), hB⟩
    case rest =>
      obtain ⟨rfl, bc⟩ := hcut
      obtain ⟨U, rfl⟩ : ∃ U, U = wc := ⟨wc, rfl⟩
      have BU : Hid (Below w.heap.size w U) := bel_trans BV.out bc
      have HDU : Hid (Sl U _ ds) := HDV.out.keep bc
      have HL0 : Hid (Ls U (.slice va1 0 vk1) []) := HLV.out.keep bc
      have HT0 : Hid (Ts U (.slice ta1 0 tc1) []) := HTV.out.keep bc
      replace X2 := X2.keep bc
      replace P0 : Box U P 39 #[.slice ma1 0 mc1] := P0.keep bc
      replace P1 : Box U (P + 1) 44 #[.int .i64 0, .int .i64 0, .slice va1 0 vk1, .int .i64 0, .int .i64 0, .int .i64 0, .bool false, .int .i64 0, .int .i64 0, .int .i64 0, .int .i64 0, .bool false] := P1.keep bc
      replace P2 : Box U (P + 1 + 1) 82 #[.bool false, .slice da1 0 dc1, .int .i64 0, .slice ta1 0 tc1] := P2.keep bc
      clear bc c0 c1 c2 c3 c4 sA HDV HLV HTV BV
      rw [hE1]
      go_wp2_with fail
      have KEEP : ∀ w', Below U.heap.size U w' → w'.cell? ⟨w.heap.size + 1 + 1, 0, none⟩ = some (.int .i64 d) ∧ w'.cell? ⟨w.heap.size + 1 + 1, 1, none⟩ = some (.int .i64 a) ∧ w'.cell? ⟨w.heap.size + 1 + 1, 2, none⟩ = some (.int .i64 n) ∧ w'.cell? ⟨w.heap.size + 1 + 1, 3, none⟩ = some (.bool fw) ∧ w'.cell? ⟨w.heap.size + 1 + 1, 4, none⟩ = some (.slice da ds.length dc) ∧ w'.cell? ⟨P, 0, none⟩ = some (.slice ma1 0 mc1) ∧ w'.cell? ⟨P + 1, 0, none⟩ = some (.int .i64 0) ∧ w'.cell? ⟨P + 1, 1, none⟩ = some (.int .i64 0) ∧ w'.cell? ⟨P + 1, 2, none⟩ = some (.slice va1 0 vk1) ∧ w'.cell? ⟨P + 1, 3, none⟩ = some (.int .i64 0) ∧ w'.cell? ⟨P + 1, 4, none⟩ = some (.int .i64 0) ∧ w'.cell? ⟨P + 1, 5, none⟩ = some (.int .i64 0) ∧ w'.cell? ⟨P + 1, 6, none⟩ = some (.bool false) ∧ w'.cell? ⟨P + 1, 7, none⟩ = some (.int .i64 0) ∧ w'.cell? ⟨P + 1, 8, none⟩ = some (.int .i64 0) ∧ w'.cell? ⟨P + 1, 9, none⟩ = some (.int .i64 0) ∧ w'.cell? ⟨P + 1, 10, none⟩ = some (.int .i64 0) ∧ w'.cell? ⟨P + 1, 11, none⟩ = some (.bool false) ∧ w'.cell? ⟨P + 1 + 1, 0, none⟩ = some (.bool false) ∧ w'.cell? ⟨P + 1 + 1, 1, none⟩ = some (.slice da1 0 dc1) ∧ w'.cell? ⟨P + 1 + 1, 2, none⟩ = some (.int .i64 0) ∧ w'.cell? ⟨P + 1 + 1, 3, none⟩ = some (.slice ta1 0 tc1) ∧ Below U.heap.size U w' := fun w' hb => ⟨(X2.keep hb).cell 0, (X2.keep hb).cell 1, (X2.keep hb).cell 2, (X2.keep hb).cell 3, (X2.keep hb).cell 4, (P0.keep hb).cell 0, (P1.keep hb).cell 0, (P1.keep hb).cell 1, (P1.keep hb).cell 2, (P1.keep hb).cell 3, (P1.keep hb).cell 4, (P1.keep hb).cell 5, (P1.keep hb).cell 6, (P1.keep hb).cell 7, (P1.keep hb).cell 8, (P1.keep hb).cell 9, (P1.keep hb).cell 10, (P1.keep hb).cell 11, (P2.keep hb).cell 0, (P2.keep hb).cell 1, (P2.keep hb).cell 2, (P2.keep hb).cell 3, hb⟩
      refine wp_region_held_drew (S := fun w' => w'.cell? ⟨w.heap.size + 1 + 1, 0, none⟩ = some (.int .i64 d) ∧ w'.cell? ⟨w.heap.size + 1 + 1, 1, none⟩ = some (.int .i64 a) ∧ w'.cell? ⟨w.heap.size + 1 + 1, 2, none⟩ = some (.int .i64 n) ∧ w'.cell? ⟨w.heap.size + 1 + 1, 3, none⟩ = some (.bool fw) ∧ w'.cell? ⟨w.heap.size + 1 + 1, 4, none⟩ = some (.slice da ds.length dc) ∧ w'.cell? ⟨P, 0, none⟩ = some (.slice ma1 0 mc1) ∧ w'.cell? ⟨P + 1, 0, none⟩ = some (.int .i64 0) ∧ w'.cell? ⟨P + 1, 1, none⟩ = some (.int .i64 0) ∧ w'.cell? ⟨P + 1, 2, none⟩ = some (.slice va1 0 vk1) ∧ w'.cell? ⟨P + 1, 3, none⟩ = some (.int .i64 0) ∧ w'.cell? ⟨P + 1, 4, none⟩ = some (.int .i64 0) ∧ w'.cell? ⟨P + 1, 5, none⟩ = some (.int .i64 0) ∧ w'.cell? ⟨P + 1, 6, none⟩ = some (.bool false) ∧ w'.cell? ⟨P + 1, 7, none⟩ = some (.int .i64 0) ∧ w'.cell? ⟨P + 1, 8, none⟩ = some (.int .i64 0) ∧ w'.cell? ⟨P + 1, 9, none⟩ = some (.int .i64 0) ∧ w'.cell? ⟨P + 1, 10, none⟩ = some (.int .i64 0) ∧ w'.cell? ⟨P + 1, 11, none⟩ = some (.bool false) ∧ w'.cell? ⟨P + 1 + 1, 0, none⟩ = some (.bool false) ∧ w'.cell? ⟨P + 1 + 1, 1, none⟩ = some (.slice da1 0 dc1) ∧ w'.cell? ⟨P + 1 + 1, 2, none⟩ = some (.int .i64 0) ∧ w'.cell? ⟨P + 1 + 1, 3, none⟩ = some (.slice ta1 0 tc1) ∧ Below U.heap.size U w') (by kernel_rfl) (KEEP _ (Below.drew (Below.refl _ _))) (fun hHeld => ?_)
      refine wpHeld_oneL (i := 0) (by kernel_rfl) (by rfl) (fun K hK => ?_)
      go_simp
      refine (carried_true _).mono ?_
      rintro e x1 ⟨rfl, y1⟩
      go_wp2_with fail
      refine hK.out _ _ ?_ (fun hHeld2 => ?_)
      · exact KEEP _ (bel_trans (hHeld.2.2.2.2.2.2.2.2.2.2.2.2.2.2.2.2.2.2.2.2.2.2) y1)
      clear hK K hHeld
      have hHeld := hHeld2
      clear hHeld2
      refine wpHeld_takeL (i := 1) (v := ?_) rfl (by kernel_rfl) (by kernel_rfl) (by kernel_rfl) (fun _ _ _ h => h) (Or.inl ⟨by kernel_rfl, ?_⟩) (by assumption) ?_
      rotate_left 1
      focus (intro wz hSz; (try dsimp only at hSz); go_simp; (try with_reducible rfl))
      simp only [Act.put, List.setIfInBounds_toArray, List.set_cons_zero, List.set_cons_succ]
      refine wpHeld_takeL (i := 2) (v := ?_) rfl (by kernel_rfl) (by kernel_rfl) (by kernel_rfl) (fun _ _ _ h => h) (Or.inl ⟨by kernel_rfl, ?_⟩) (by assumption) ?_
      rotate_left 1
      focus (intro wz hSz; (try dsimp only at hSz); go_simp; (try with_reducible rfl))
      simp only [Act.put, List.setIfInBounds_toArray, List.set_cons_zero, List.set_cons_succ]
      refine wpHeld_takeL (i := 4) (v := ?_) rfl (by kernel_rfl) (by kernel_rfl) (by kernel_rfl) (fun _ _ _ h => h) (Or.inl ⟨by kernel_rfl, ?_⟩) (by assumption) ?_
      rotate_left 1
      focus (intro wz hSz; (try dsimp only at hSz); go_simp; (try with_reducible rfl))
      simp only [Act.put, List.setIfInBounds_toArray, List.set_cons_zero, List.set_cons_succ]
      refine wpHeld_oneL (i := 3) (by kernel_rfl) (by rfl) (fun K hK => ?_)
      go_simp
      refine (dCheck_any d a n fw _ ds _ ?_).mono ?_
      · exact HDU.out.keep (hHeld.2.2.2.2.2.2.2.2.2.2.2.2.2.2.2.2.2.2.2.2.2.2)
      rintro e x2 ⟨rfl, y2⟩
      go_wp2_with fail
      refine hK.out _ _ ?_ (fun hHeld2 => ?_)
      · exact KEEP _ (bel_trans (hHeld.2.2.2.2.2.2.2.2.2.2.2.2.2.2.2.2.2.2.2.2.2.2) y2)
      clear hK K hHeld
      have hHeld := hHeld2
      clear hHeld2
      refine wpHeld_oneL (i := 5) (by kernel_rfl) (by rfl) (fun K hK => ?_)
      go_simp
      refine (checkAsk_any d a n fw _ ds _ ?_).mono ?_
      · exact HDU.out.keep (hHeld.2.2.2.2.2.2.2.2.2.2.2.2.2.2.2.2.2.2.2.2.2.2)
      rintro e x3 ⟨rfl, y3⟩
      go_wp2_with fail
      refine hK.out _ _ ?_ (fun hHeld2 => ?_)
      · exact KEEP _ (bel_trans (hHeld.2.2.2.2.2.2.2.2.2.2.2.2.2.2.2.2.2.2.2.2.2.2) y3)
      clear hK K hHeld
      have hHeld := hHeld2
      clear hHeld2
      refine wpHeld_takeL (i := 6) (v := ?_) rfl (by kernel_rfl) (by kernel_rfl) (by kernel_rfl) (fun _ _ _ h => h) (Or.inl ⟨by kernel_rfl, ?_⟩) (by assumption) ?_
      rotate_left 1
      focus (intro wz hSz; (try dsimp only at hSz); go_simp; (try with_reducible rfl))
      simp only [Act.put, List.setIfInBounds_toArray, List.set_cons_zero, List.set_cons_succ]
      refine wpHeld_takeL (i := 7) (v := ?_) rfl (by kernel_rfl) (by kernel_rfl) (by kernel_rfl) (fun _ _ _ h => h) (Or.inl ⟨by kernel_rfl, ?_⟩) (by assumption) ?_
      rotate_left 1
      focus (intro wz hSz; (try dsimp only at hSz); go_simp; (try with_reducible rfl))
      simp only [Act.put, List.setIfInBounds_toArray, List.set_cons_zero, List.set_cons_succ]
      refine wpHeld_takeL (i := 8) (v := ?_) rfl (by kernel_rfl) (by kernel_rfl) (by kernel_rfl) (fun _ _ _ h => h) (Or.inl ⟨by kernel_rfl, ?_⟩) (by assumption) ?_
      rotate_left 1
      focus (intro wz hSz; (try dsimp only at hSz); go_simp; (try with_reducible rfl))
      simp only [Act.put, List.setIfInBounds_toArray, List.set_cons_zero, List.set_cons_succ]
      refine wpHeld_takeL (i := 9) (v := ?_) rfl (by kernel_rfl) (by kernel_rfl) (by kernel_rfl) (fun _ _ _ h => h) (Or.inl ⟨by kernel_rfl, ?_⟩) (by assumption) ?_
      rotate_left 1
      focus (intro wz hSz; (try dsimp only at hSz); go_simp; (try with_reducible rfl))
      simp only [Act.put, List.setIfInBounds_toArray, List.set_cons_zero, List.set_cons_succ]
      refine wpHeld_takeL (i := 10) (v := ?_) rfl (by kernel_rfl) (by kernel_rfl) (by kernel_rfl) (fun _ _ _ h => h) (Or.inl ⟨by kernel_rfl, ?_⟩) (by assumption) ?_
      rotate_left 1
      focus (intro wz hSz; (try dsimp only at hSz); go_simp; (try with_reducible rfl))
      simp only [Act.put, List.setIfInBounds_toArray, List.set_cons_zero, List.set_cons_succ]
      refine wpHeld_takeL (i := 11) (v := ?_) rfl (by kernel_rfl) (by kernel_rfl) (by kernel_rfl) (fun _ _ _ h => h) (Or.inl ⟨by kernel_rfl, ?_⟩) (by assumption) ?_
      rotate_left 1
      focus (intro wz hSz; (try dsimp only at hSz); go_simp; (try with_reducible rfl))
      simp only [Act.put, List.setIfInBounds_toArray, List.set_cons_zero, List.set_cons_succ]
      refine wpHeld_takeL (i := 12) (v := ?_) rfl (by kernel_rfl) (by kernel_rfl) (by kernel_rfl) (fun _ _ _ h => h) (Or.inl ⟨by kernel_rfl, ?_⟩) (by assumption) ?_
      rotate_left 1
      focus (intro wz hSz; (try dsimp only at hSz); go_simp; (try with_reducible rfl))
      simp only [Act.put, List.setIfInBounds_toArray, List.set_cons_zero, List.set_cons_succ]
      refine wpHeld_takeL (i := 13) (v := ?_) rfl (by kernel_rfl) (by kernel_rfl) (by kernel_rfl) (fun _ _ _ h => h) (Or.inl ⟨by kernel_rfl, ?_⟩) (by assumption) ?_
      rotate_left 1
      focus (intro wz hSz; (try dsimp only at hSz); go_simp; (try with_reducible rfl))
      simp only [Act.put, List.setIfInBounds_toArray, List.set_cons_zero, List.set_cons_succ]
      refine wpHeld_takeL (i := 14) (v := ?_) rfl (by kernel_rfl) (by kernel_rfl) (by kernel_rfl) (fun _ _ _ h => h) (Or.inl ⟨by kernel_rfl, ?_⟩) (by assumption) ?_
      rotate_left 1
      focus (intro wz hSz; (try dsimp only at hSz); go_simp; (try with_reducible rfl))
      simp only [Act.put, List.setIfInBounds_toArray, List.set_cons_zero, List.set_cons_succ]
      refine wpHeld_takeL (i := 15) (v := ?_) rfl (by kernel_rfl) (by kernel_rfl) (by kernel_rfl) (fun _ _ _ h => h) (Or.inl ⟨by kernel_rfl, ?_⟩) (by assumption) ?_
      rotate_left 1
      focus (intro wz hSz; (try dsimp only at hSz); go_simp; (try with_reducible rfl))
      simp only [Act.put, List.setIfInBounds_toArray, List.set_cons_zero, List.set_cons_succ]
      refine wpHeld_takeL (i := 16) (v := ?_) rfl (by kernel_rfl) (by kernel_rfl) (by kernel_rfl) (fun _ _ _ h => h) (Or.inl ⟨by kernel_rfl, ?_⟩) (by assumption) ?_
      rotate_left 1
      focus (intro wz hSz; (try dsimp only at hSz); go_simp; (try with_reducible rfl))
      simp only [Act.put, List.setIfInBounds_toArray, List.set_cons_zero, List.set_cons_succ]
      refine wpHeld_takeL (i := 17) (v := ?_) rfl (by kernel_rfl) (by kernel_rfl) (by kernel_rfl) (fun _ _ _ h => h) (Or.inl ⟨by kernel_rfl, ?_⟩) (by assumption) ?_
      rotate_left 1
      focus (intro wz hSz; (try dsimp only at hSz); go_simp; (try with_reducible rfl))
      simp only [Act.put, List.setIfInBounds_toArray, List.set_cons_zero, List.set_cons_succ]
      refine wpHeld_takeL (i := 18) (v := ?_) rfl (by kernel_rfl) (by kernel_rfl) (by kernel_rfl) (fun _ _ _ h => h) (Or.inl ⟨by kernel_rfl, ?_⟩) (by assumption) ?_
      rotate_left 1
      focus (intro wz hSz; (try dsimp only at hSz); go_simp; (try with_reducible rfl))
      simp only [Act.put, List.setIfInBounds_toArray, List.set_cons_zero, List.set_cons_succ]
      refine wpHeld_takeL (i := 19) (v := ?_) rfl (by kernel_rfl) (by kernel_rfl) (by kernel_rfl) (fun _ _ _ h => h) (Or.inl ⟨by kernel_rfl, ?_⟩) (by assumption) ?_
      rotate_left 1
      focus (intro wz hSz; (try dsimp only at hSz); go_simp; (try with_reducible rfl))
      simp only [Act.put, List.setIfInBounds_toArray, List.set_cons_zero, List.set_cons_succ]
      refine wpHeld_takeL (i := 20) (v := ?_) rfl (by kernel_rfl) (by kernel_rfl) (by kernel_rfl) (fun _ _ _ h => h) (Or.inl ⟨by kernel_rfl, ?_⟩) (by assumption) ?_
      rotate_left 1
      focus (intro wz hSz; (try dsimp only at hSz); go_simp; (try with_reducible rfl))
      simp only [Act.put, List.setIfInBounds_toArray, List.set_cons_zero, List.set_cons_succ]
      refine wpHeld_takeL (i := 21) (v := ?_) rfl (by kernel_rfl) (by kernel_rfl) (by kernel_rfl) (fun _ _ _ h => h) (Or.inl ⟨by kernel_rfl, ?_⟩) (by assumption) ?_
      rotate_left 1
      focus (intro wz hSz; (try dsimp only at hSz); go_simp; (try with_reducible rfl))
      simp only [Act.put, List.setIfInBounds_toArray, List.set_cons_zero, List.set_cons_succ]
      refine wpHeld_oneL (i := 22) (by kernel_rfl) (by rfl) (fun K hK => ?_)
      go_simp
      refine (sameBridge_any 0 0 0 0 0 0 0 0 0 false false _ [] 0 0 0 0 0 0 0 0 0 false false _ [] _ ?_ (Ls.nothing _)).mono ?_
      · exact HL0.out.keep (hHeld.2.2.2.2.2.2.2.2.2.2.2.2.2.2.2.2.2.2.2.2.2.2)
      rintro e x4 ⟨rfl, y4⟩
      go_wp2_with fail
      refine hK.out _ _ ?_ (fun hHeld2 => ?_)
      · exact KEEP _ (bel_trans (hHeld.2.2.2.2.2.2.2.2.2.2.2.2.2.2.2.2.2.2.2.2.2.2) y4)
      clear hK K hHeld
      have hHeld := hHeld2
      clear hHeld2
      rw [sameBr_refl]
      refine wpHeld_takeL (i := 23) (v := ?_) rfl (by kernel_rfl) (by kernel_rfl) (by kernel_rfl) (fun _ _ _ h => h) (Or.inl ⟨by kernel_rfl, ?_⟩) (by assumption) ?_
      rotate_left 1
      focus (intro wz hSz; (try dsimp only at hSz); go_simp; (try with_reducible rfl))
      simp only [Act.put, List.setIfInBounds_toArray, List.set_cons_zero, List.set_cons_succ]
      refine wpHeld_takeL (i := 24) (v := ?_) rfl (by kernel_rfl) (by kernel_rfl) (by kernel_rfl) (fun _ _ _ h => h) (Or.inl ⟨by kernel_rfl, ?_⟩) (by assumption) ?_
      rotate_left 1
      focus (intro wz hSz; (try dsimp only at hSz); go_simp; (try with_reducible rfl))
      simp only [Act.put, List.setIfInBounds_toArray, List.set_cons_zero, List.set_cons_succ]
      refine wpHeld_takeL (i := 25) (v := ?_) rfl (by kernel_rfl) (by kernel_rfl) (by kernel_rfl) (fun _ _ _ h => h) (Or.inl ⟨by kernel_rfl, ?_⟩) (by assumption) ?_
      rotate_left 1
      focus (intro wz hSz; (try dsimp only at hSz); go_simp; (try with_reducible rfl))
      simp only [Act.put, List.setIfInBounds_toArray, List.set_cons_zero, List.set_cons_succ]
      refine wpHeld_takeL (i := 26) (v := ?_) rfl (by kernel_rfl) (by kernel_rfl) (by kernel_rfl) (fun _ _ _ h => h) (Or.inl ⟨by kernel_rfl, ?_⟩) (by assumption) ?_
      rotate_left 1
      focus (intro wz hSz; (try dsimp only at hSz); go_simp; (try with_reducible rfl))
      simp only [Act.put, List.setIfInBounds_toArray, List.set_cons_zero, List.set_cons_succ]
      refine wpHeld_oneL (i := 27) (by kernel_rfl) (by rfl) (fun K hK => ?_)
      go_simp
      refine (sameTold_eq false _ _ [] 0 _ _ [] _ (Sl.nil _ _ _) (Sl.nil _ _ _) ?_ (Ts.nothing _)).mono ?_
      · exact HT0.out.keep (hHeld.2.2.2.2.2.2.2.2.2.2.2.2.2.2.2.2.2.2.2.2.2.2)
      rintro e x5 ⟨rfl, y5⟩
      go_wp2_with fail
      refine hK.out _ _ ?_ (fun hHeld2 => ?_)
      · exact KEEP _ (bel_trans (hHeld.2.2.2.2.2.2.2.2.2.2.2.2.2.2.2.2.2.2.2.2.2.2) y5)
      clear hK K hHeld
      have hHeld := hHeld2
      clear hHeld2
      refine wpHeld_takeL (i := 28) (v := ?_) rfl (by kernel_rfl) (by kernel_rfl) (by kernel_rfl) (fun _ _ _ h => h) (Or.inl ⟨by kernel_rfl, ?_⟩) (by assumption) ?_
      rotate_left 1
      focus (intro wz hSz; (try dsimp only at hSz); go_simp; (try with_reducible rfl))
      simp only [Act.put, List.setIfInBounds_toArray, List.set_cons_zero, List.set_cons_succ]
      refine wpHeld_takeL (i := 29) (v := ?_) rfl (by kernel_rfl) (by kernel_rfl) (by kernel_rfl) (fun _ _ _ h => h) (Or.inl ⟨by kernel_rfl, ?_⟩) (by assumption) ?_
      rotate_left 1
      focus (intro wz hSz; (try dsimp only at hSz); go_simp; (try with_reducible rfl))
      simp only [Act.put, List.setIfInBounds_toArray, List.set_cons_zero, List.set_cons_succ]
      refine wpAnyH_done (by kernel_rfl) ?_ _
      have hB : Hid (Below U.heap.size U _) := hHeld.2.2.2.2.2.2.2.2.2.2.2.2.2.2.2.2.2.2.2.2.2.2
      clear hHeld KEEP
      go_wp2
      go_ret
      exact ⟨rfl, bel_trans BU.out hB.out⟩
end Go.Proofs.Ytefcdcneenjbgab
