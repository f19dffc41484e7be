/-
  Laid together: ObeyedR, TellsWalk, Open0, Open, OpenO, OpenL, OpenR, OpenB, OpenF.
-/
import Derived.Test.YtemnklppplgcoabT11
import Derived.Deep.CutRange
import Derived.ProofKit
import Derived.OpenShut
import Derived.ShutString
import Derived.ChangeOld
import Derived.Deep.Slices
/-
  drawbridgeref's Obeyed: what it answers, of right things; nothing that was there turns.
-/
namespace Go.Proofs.Ytemnklppplgcoab
open Go.RowKit

theorem dropped_at2 {v : Value} {l : List Ln} {k d p : Int} {w : World} (h : Ls w v l) {e0 : Int} {c : List Ln} (hE : drE l k = e0) (hC : drC l k d p = c) :
    Calls Try.prog 66 #[v, .agg #[.int .i64 k, .int .i64 d, .int .i64 p]] w fun e w' => ∃ b cap, e = .returned (.tuple #[.slice b c.length cap, .int .i64 e0]) ∧ Ls w' (.slice b c.length cap) c ∧ Below w.heap.size w w' := by
  subst hE hC
  exact dropped_at h

set_option maxHeartbeats 8000000 in
theorem obeyed_any (v : Value) (zs : List Int) (mo ba op oh ot fe fp fh ft : Int) (st lo : Bool) (vc : Value) (l : List Ln) (w : World) (hs : Sl w v zs) (h : Ls w vc l) (hk : bothB zs ⟨mo, ba, l, op, oh, ot, st, fe, fp, fh, ft, lo⟩ = 0) :
    Calls Try.prog 32 #[.agg #[v], .agg #[.int .i64 mo, .int .i64 ba, vc, .int .i64 op, .int .i64 oh, .int .i64 ot, .bool st, .int .i64 fe, .int .i64 fp, .int .i64 fh, .int .i64 ft, .bool lo]] w fun e w' => ObOut zs ⟨mo, ba, l, op, oh, ot, st, fe, fp, fh, ft, lo⟩ w e w' := by
  have HS : Hid (Ls w vc l) := h
  obtain ⟨va, vk, rfl, -⟩ := h.shape
  have HK : Hid (_ = _) := hk
  have HZ : chk zs = 0 := (bothB_ok hk).1
  obtain ⟨b, o, cap, rfl, hb, hcs⟩ := hs.open512 (chk_ok HZ).1
  have HCS : Hid (∀ i, i < 512 → w.cell? ⟨b, o + i, none⟩ = some (.int .i64 (nth zs i))) := hcs
  clear h hs hk HZ hcs
  have B1 : Hid (Below w.heap.size w ((((w.alloc (.cells #[.slice (some ⟨b, o, none⟩) 512 cap] 39)).alloc (.cells #[.int .i64 mo, .int .i64 ba, .slice va l.length vk, .int .i64 op, .int .i64 oh, .int .i64 ot, .bool st, .int .i64 fe, .int .i64 fp, .int .i64 fh, .int .i64 ft, .bool lo] 44)).alloc (.cells #[.int .i64 0, .int .i64 0, .slice none 0 0, .int .i64 0, .int .i64 0, .int .i64 0, .bool false, .int .i64 0, .int .i64 0, .int .i64 0, .int .i64 0, .bool false] 44)))) := bel_alloc (bel_alloc (bel_alloc (Below.refl w.heap.size w) (.cells #[.slice (some ⟨b, o, none⟩) 512 cap] 39)) (.cells #[.int .i64 mo, .int .i64 ba, .slice va l.length vk, .int .i64 op, .int .i64 oh, .int .i64 ot, .bool st, .int .i64 fe, .int .i64 fp, .int .i64 fh, .int .i64 ft, .bool lo] 44)) (.cells #[.int .i64 0, .int .i64 0, .slice none 0 0, .int .i64 0, .int .i64 0, .int .i64 0, .bool false, .int .i64 0, .int .i64 0, .int .i64 0, .int .i64 0, .bool false] 44)
  have BW : Hid (Below w.heap.size w w) := Below.refl _ _
  cases st
  rotate_left
  · have HE : Hid (obE zs ⟨mo, ba, l, op, oh, ot, true, fe, fp, fh, ft, lo⟩ = 6) := by show _ = _; rw [obE, if_pos HK.out]; rfl
    have HB : Hid (obB zs ⟨mo, ba, l, op, oh, ot, true, fe, fp, fh, ft, lo⟩ = B0) := if_neg (by rw [HE.out]; decide)
    go_enter Try.func32, Try.ntmps32
    go_wp2
    refine bodyPost_ret (v := .tuple #[.agg #[.int .i64 0, .int .i64 0, .slice none 0 0, .int .i64 0, .int .i64 0, .int .i64 0, .bool false, .int .i64 0, .int .i64 0, .int .i64 0, .int .i64 0, .bool false], .int .i64 6]) (by simp [results, Try.results32, go_sem, *]) rfl ⟨_, _, _, _, _, _, _, _, _, _, _, _, _, [], by rw [HE.out]; rfl, HB.out, Ls.nothing _, ?_⟩
    (repeat (first | with_reducible exact BW.out | with_reducible refine Below.drew ?_ | with_reducible refine bel_alloc ?_ _ | (with_reducible refine bel_set12 ?_ ?_ _ _ _ _ _ _ _ _ _ _ _ _; (focus omega)) | (with_reducible refine bel_set ?_ ?_ _; (focus (dsimp only; omega)))))
  by_cases ho : oh = ot
  · subst ho
    have HE : Hid (obE zs ⟨mo, ba, l, op, oh, oh, false, fe, fp, fh, ft, lo⟩ = 6) := by show _ = _; rw [obE, if_pos HK.out]; simp
    have HB : Hid (obB zs ⟨mo, ba, l, op, oh, oh, false, fe, fp, fh, ft, lo⟩ = B0) := if_neg (by rw [HE.out]; decide)
    go_enter Try.func32, Try.ntmps32
    go_wp2
    refine bodyPost_ret (v := .tuple #[.agg #[.int .i64 0, .int .i64 0, .slice none 0 0, .int .i64 0, .int .i64 0, .int .i64 0, .bool false, .int .i64 0, .int .i64 0, .int .i64 0, .int .i64 0, .bool false], .int .i64 6]) (by simp [results, Try.results32, go_sem, *]) rfl ⟨_, _, _, _, _, _, _, _, _, _, _, _, _, [], by rw [HE.out]; rfl, HB.out, Ls.nothing _, ?_⟩
    (repeat (first | with_reducible exact BW.out | with_reducible refine Below.drew ?_ | with_reducible refine bel_alloc ?_ _ | (with_reducible refine bel_set12 ?_ ?_ _ _ _ _ _ _ _ _ _ _ _ _; (focus omega)) | (with_reducible refine bel_set ?_ ?_ _; (focus (dsimp only; omega)))))
  have hE : obE zs ⟨mo, ba, l, op, oh, ot, false, fe, fp, fh, ft, lo⟩ = 0 := by rw [obE, if_pos HK.out]; exact if_neg ho
  have HE : Hid (_ = _) := hE
  have hq : (oh == ot) = false := by simpa using ho
  have hfe : 0 ≤ fe ∧ fe ≤ 999 := (chkB_ok (bothB_ok HK.out).2).2.2.1
  obtain ⟨rp, rh, -⟩ := chkR_ok (chkB_ok (bothB_ok HK.out).2).2.2.2.2.1
  obtain ⟨p0, p1⟩ := pageR_in rp
  obtain ⟨h0, h1⟩ := stepR_in rh
  dsimp only at p0 p1 h0 h1
  clear ho hE rp rh
  have gk := HCS.out (8 * op + oh).toNat (by omega)
  obtain ⟨z, hz⟩ : ∃ z, nth zs (8 * op + oh).toNat = z := ⟨_, rfl⟩
  rw [hz] at gk
  have HW : Hid (ordW zs ⟨mo, ba, l, op, oh, ot, false, fe, fp, fh, ft, lo⟩ = z) := by show _ = _; rw [← hz, ordW, Int.mul_comm]
  have k0 : 0 ≤ 8 * op + oh := by omega
  have k1 : 8 * op + oh < 512 := by omega
  clear hz
  have z0 : b < w.heap.size + 1 := by omega
  have z1 : b < w.heap.size + 1 + 1 := by omega
  obtain ⟨c, e1, hro⟩ : ∃ c e1, (roO z = c ∧ roE z = e1) := ⟨_, _, rfl, rfl⟩
  obtain ⟨k, d, p⟩ := c
  obtain ⟨hO, hEE⟩ := hro
  have HRO : Hid (roO z = (k, d, p)) := hO
  have HRE : Hid (roE z = e1) := hEE
  clear hO hEE
  go_enter Try.func32, Try.ntmps32
  go_wp2_with fail
  refine (orderOf_at HRE.out HRO.out).mono ?_
  rintro e w1 ⟨rfl, b1⟩
  have X1 := ((Box.newAt (n := w.heap.size + 1) (by simp) 44 #[.int .i64 mo, .int .i64 ba, .slice va l.length vk, .int .i64 op, .int .i64 oh, .int .i64 ot, .bool false, .int .i64 fe, .int .i64 fp, .int .i64 fh, .int .i64 ft, .bool lo]).past _).keep b1
  have X2 := (Box.newAt (n := w.heap.size + 1 + 1) (by simp) 44 #[.int .i64 0, .int .i64 0, .slice none 0 0, .int .i64 0, .int .i64 0, .int .i64 0, .bool false, .int .i64 0, .int .i64 0, .int .i64 0, .int .i64 0, .bool false]).keep b1
  have B2 : Hid (Below w.heap.size w w1) := bel_trans B1.out b1
  clear b1 B1 gk k0 k1 z0 z1
  obtain ⟨⟨q0, q1, q2, q3, q4, q5, q6, q7, q8, q9, q10, q11⟩, s1⟩ := X1.twelve
  obtain ⟨i0, i1, i2, i3, i4, i5, i6, i7, i8, i9, i10, i11⟩ := X1.marks
  obtain ⟨⟨u0, u1, u2, u3, u4, u5, u6, u7, u8, u9, u10, u11⟩, s2⟩ := X2.twelve
  obtain ⟨y0, y1, y2, y3, y4, y5, y6, y7, y8, y9, y10, y11⟩ := X2.marks
  by_cases he : e1 = 0
  rotate_left
  · have HB : Hid (obB zs ⟨mo, ba, l, op, oh, ot, false, fe, fp, fh, ft, lo⟩ = ⟨mo, ba, l, op, oh, ot, true, fe, fp, fh, ft, lo⟩) := (ob_bad HE.out (by rw [HW.out, HRE.out]; exact he)).1
    have hqe : (e1 != 0) = true := by simpa using he
    go_wp2
    refine bodyPost_ret (v := .tuple #[.agg #[.int .i64 mo, .int .i64 ba, .slice va l.length vk, .int .i64 op, .int .i64 oh, .int .i64 ot, .bool true, .int .i64 fe, .int .i64 fp, .int .i64 fh, .int .i64 ft, .bool lo], .int .i64 0]) (by simp [results, Try.results32, go_sem, *]) rfl ⟨_, _, _, _, _, _, _, _, _, _, _, _, _, l, by rw [HE.out], HB.out, HS.out.keep ?_, ?_⟩
    all_goals (repeat (first | with_reducible exact B2.out | with_reducible refine Below.drew ?_ | with_reducible refine bel_alloc ?_ _ | (with_reducible refine bel_set12 ?_ ?_ _ _ _ _ _ _ _ _ _ _ _ _; (focus omega)) | (with_reducible refine bel_set ?_ ?_ _; (focus (dsimp only; omega)))))
  subst he
  obtain ⟨eB, -, eD, hk3, -⟩ := ob_right (k := k) (d := d) (p := p) HE.out (by rw [HW.out]; exact HRE.out) (by rw [HW.out]; exact HRO.out)
  have HB : Hid (obB zs ⟨mo, ba, l, op, oh, ot, false, fe, fp, fh, ft, lo⟩ = ⟨mo, ba, drC l k d p, op, (oh + 1) % 8, ot, false, if k = 0 then (fe + 1) % 1000 else fe, fp, fh, ft, lo⟩) := eB
  have HD : Hid (drE l k = 0) := eD
  clear eB eD
  obtain ⟨c, hc⟩ : ∃ c, drC l k d p = c := ⟨_, rfl⟩
  have HC : Hid (_ = _) := hc
  clear hc
  go_wp2_with fail
  refine (dropped_at2 (HS.out.keep (bel_alloc B2.out _)) HD.out HC.out).mono ?_
  rintro e w6 ⟨b6, cap6, rfl, hS6, bb⟩
  have XO := (Box.newAt (w := w1) rfl 23 #[.int .i64 k, .int .i64 d, .int .i64 p]).keep bb
  have nO2 : ¬ w1.heap.size = w.heap.size + 1 + 1 := by omega
  have nO1 : ¬ w1.heap.size = w.heap.size + 1 := by omega
  clear q0 q1 q2 q3 q4 q5 q6 q7 q8 q9 q10 q11 s1 i0 i1 i2 i3 i4 i5 i6 i7 i8 i9 i10 i11 u0 u1 u2 u3 u4 u5 u6 u7 u8 u9 u10 u11 y0 y1 y2 y3 y4 y5 y6 y7 y8 y9 y10 y11 s2
  have X1 := (X1.past _).keep bb
  have X2 := (X2.past _).keep bb
  have AP2 : Hid (Apart _ _ _) := hS6.apart X2
  have APB : Hid (Apart _ _ _) := hS6.apart X1
  have H6 : Hid (Ls _ _ _) := hS6
  have B6 : Hid (Below w.heap.size w w6) := bel_trans (bel_alloc B2.out _) bb
  clear bb B2 hS6
  generalize w1.heap.size = O at *
  obtain ⟨o0, o1, o2, -, -, -, sO⟩ := XO.three
  obtain ⟨⟨q0, q1, q2, q3, q4, q5, q6, q7, q8, q9, q10, q11⟩, s1⟩ := X1.twelve
  obtain ⟨i0, i1, i2, i3, i4, i5, i6, i7, i8, i9, i10, i11⟩ := X1.marks
  obtain ⟨⟨u0, u1, u2, u3, u4, u5, u6, u7, u8, u9, u10, u11⟩, s2⟩ := X2.twelve
  obtain ⟨y0, y1, y2, y3, y4, y5, y6, y7, y8, y9, y10, y11⟩ := X2.marks
  by_cases hk0 : k = 0
  · subst hk0
    have f0 : 0 ≤ fe := hfe.1
    have f1 : fe ≤ 999 := hfe.2
    by_cases hf : fe + 1 = 1000
    · obtain rfl : fe = 999 := by omega
      clear hf f0 f1 hfe
      go_upto_region 13 with fail
      have Y1 : Box ((((w6.setCell ⟨w.heap.size + 1, 2, none⟩ (.slice b6 c.length cap6)).setCell ⟨w.heap.size + 1, 4, none⟩ (.int .i64 ((oh + 1) % 8))).setCell ⟨w.heap.size + 1, 7, none⟩ (.int .i64 1000)).setCell ⟨w.heap.size + 1, 7, none⟩ (.int .i64 0)) (w.heap.size + 1) 44 #[.int .i64 mo, .int .i64 ba, .slice b6 c.length cap6, .int .i64 op, .int .i64 ((oh + 1) % 8), .int .i64 ot, .bool false, .int .i64 0, .int .i64 fp, .int .i64 fh, .int .i64 ft, .bool lo] := (((X1.set 2 _).set 4 _).set 7 _).set 7 _
      have Y2 := (((X2.other (p := ⟨w.heap.size + 1, 2, none⟩) (by dsimp only; omega) (.slice b6 c.length cap6)).other (p := ⟨w.heap.size + 1, 4, none⟩) (by dsimp only; omega) (.int .i64 ((oh + 1) % 8))).other (p := ⟨w.heap.size + 1, 7, none⟩) (by dsimp only; omega) (.int .i64 1000)).other (p := ⟨w.heap.size + 1, 7, none⟩) (by dsimp only; omega) (.int .i64 0)
      have H7 : Hid (Ls ((((w6.setCell ⟨w.heap.size + 1, 2, none⟩ (.slice b6 c.length cap6)).setCell ⟨w.heap.size + 1, 4, none⟩ (.int .i64 ((oh + 1) % 8))).setCell ⟨w.heap.size + 1, 7, none⟩ (.int .i64 1000)).setCell ⟨w.heap.size + 1, 7, none⟩ (.int .i64 0)) _ c) := (((H6.out.putAt APB.out 2 _).putAt APB.out 4 _).putAt APB.out 7 _).putAt APB.out 7 _
      have B7 : Hid (Below w.heap.size w ((((w6.setCell ⟨w.heap.size + 1, 2, none⟩ (.slice b6 c.length cap6)).setCell ⟨w.heap.size + 1, 4, none⟩ (.int .i64 ((oh + 1) % 8))).setCell ⟨w.heap.size + 1, 7, none⟩ (.int .i64 1000)).setCell ⟨w.heap.size + 1, 7, none⟩ (.int .i64 0))) := bel_set (p := ⟨w.heap.size + 1, 7, none⟩) (by dsimp only; omega) (bel_set (p := ⟨w.heap.size + 1, 7, none⟩) (by dsimp only; omega) (bel_set (p := ⟨w.heap.size + 1, 4, none⟩) (by dsimp only; omega) (bel_set (p := ⟨w.heap.size + 1, 2, none⟩) (by dsimp only; omega) B6.out _) _) _) _
      clear q0 q1 q2 q3 q4 q5 q6 q7 q8 q9 q10 q11 s1 i0 i1 i2 i3 i4 i5 i6 i7 i8 i9 i10 i11 u0 u1 u2 u3 u4 u5 u6 u7 u8 u9 u10 u11 y0 y1 y2 y3 y4 y5 y6 y7 y8 y9 y10 y11 s2 o0 o1 o2 sO H6 B6
      generalize ((((w6.setCell ⟨w.heap.size + 1, 2, none⟩ (.slice b6 c.length cap6)).setCell ⟨w.heap.size + 1, 4, none⟩ (.int .i64 ((oh + 1) % 8))).setCell ⟨w.heap.size + 1, 7, none⟩ (.int .i64 1000)).setCell ⟨w.heap.size + 1, 7, none⟩ (.int .i64 0)) = W7 at *
      obtain ⟨⟨q0, q1, q2, q3, q4, q5, q6, q7, q8, q9, q10, q11⟩, s1⟩ := Y1.twelve
      obtain ⟨⟨u0, u1, u2, u3, u4, u5, u6, u7, u8, u9, u10, u11⟩, s2⟩ := Y2.twelve
      obtain ⟨y0, y1, y2, y3, y4, y5, y6, y7, y8, y9, y10, y11⟩ := Y2.marks
      go_wp2
      refine bodyPost_ret (v := .tuple #[.agg #[.int .i64 mo, .int .i64 ba, .slice b6 c.length cap6, .int .i64 op, .int .i64 ((oh + 1) % 8), .int .i64 ot, .bool false, .int .i64 0, .int .i64 fp, .int .i64 fh, .int .i64 ft, .bool lo], .int .i64 0]) (by simp [results, Try.results32, go_sem, *]) rfl ⟨_, _, _, _, _, _, _, _, _, _, _, _, _, c, by rw [HE.out], HB.out.trans (by rw [HC.out]; rfl), ?_, ?_⟩
      · exact Ls.put12 H7.out AP2.out _ _ _ _ _ _ _ _ _ _ _ _
      · exact bel_set12 (by omega) B7.out _ _ _ _ _ _ _ _ _ _ _ _
    · have hff : Hid (fe + 1 = (fe + 1) % 1000) := show _ = _ by omega
      have hqf : (fe + 1 == 1000) = false := by simpa using hf
      clear hf
      go_wp2
      refine bodyPost_ret (v := .tuple #[.agg #[.int .i64 mo, .int .i64 ba, .slice b6 c.length cap6, .int .i64 op, .int .i64 ((oh + 1) % 8), .int .i64 ot, .bool false, .int .i64 (fe + 1), .int .i64 fp, .int .i64 fh, .int .i64 ft, .bool lo], .int .i64 0]) (by simp [results, Try.results32, go_sem, *]) rfl ⟨_, _, _, _, _, _, _, _, _, _, _, _, _, c, by rw [HE.out], HB.out.trans (by rw [HC.out]; simp only [if_true]; rw [← hff.out]), ?_, ?_⟩
      · (repeat (first | with_reducible exact H6.out | with_reducible refine Ls.put12 ?_ AP2.out _ _ _ _ _ _ _ _ _ _ _ _ | with_reducible refine Ls.putAt ?_ APB.out _ _))
      · (repeat (first | with_reducible exact B6.out | with_reducible refine Below.drew ?_ | with_reducible refine bel_alloc ?_ _ | (with_reducible refine bel_set12 ?_ ?_ _ _ _ _ _ _ _ _ _ _ _ _; (focus omega)) | (with_reducible refine bel_set ?_ ?_ _; (focus (dsimp only; omega)))))
  · have hq0 : (k == 0) = false := by simpa using hk0
    have HK0 : Hid (¬ k = 0) := hk0
    clear hk0
    go_wp2
    refine bodyPost_ret (v := .tuple #[.agg #[.int .i64 mo, .int .i64 ba, .slice b6 c.length cap6, .int .i64 op, .int .i64 ((oh + 1) % 8), .int .i64 ot, .bool false, .int .i64 fe, .int .i64 fp, .int .i64 fh, .int .i64 ft, .bool lo], .int .i64 0]) (by simp [results, Try.results32, go_sem, *]) rfl ⟨_, _, _, _, _, _, _, _, _, _, _, _, _, c, by rw [HE.out], HB.out.trans (by rw [HC.out, if_neg HK0.out]), ?_, ?_⟩
    · (repeat (first | with_reducible exact H6.out | with_reducible refine Ls.put12 ?_ AP2.out _ _ _ _ _ _ _ _ _ _ _ _ | with_reducible refine Ls.putAt ?_ APB.out _ _))
    · (repeat (first | with_reducible exact B6.out | with_reducible refine Below.drew ?_ | with_reducible refine bel_alloc ?_ _ | (with_reducible refine bel_set12 ?_ ?_ _ _ _ _ _ _ _ _ _ _ _ _; (focus omega)) | (with_reducible refine bel_set ?_ ?_ _; (focus (dsimp only; omega)))))
end Go.Proofs.Ytemnklppplgcoab
/-
  The walk of BridgeTells.
-/
namespace Go.Proofs.Ytemnklppplgcoab
open Go.RowKit

theorem told_at {v : Value} {zs : List Int} {mo ba op oh ot fe fp fh ft : Int} {st lo : Bool} {vc : Value} {l : List Ln} {c d p : Int} {x : Bool} {w : World} {mo1 ba1 op1 oh1 ot1 fe1 fp1 fh1 ft1 : Int} {st1 lo1 : Bool} {l1 : List Ln} {ms : List Int} {e0 : Int} (hs : Sl w v zs) (h : Ls w vc l) (hk : bothB zs ⟨mo, ba, l, op, oh, ot, st, fe, fp, fh, ft, lo⟩ = 0) (hE : tlE zs ⟨mo, ba, l, op, oh, ot, st, fe, fp, fh, ft, lo⟩ c d p = e0) (hB : tlB zs ⟨mo, ba, l, op, oh, ot, st, fe, fp, fh, ft, lo⟩ c d p = ⟨mo1, ba1, l1, op1, oh1, ot1, st1, fe1, fp1, fh1, ft1, lo1⟩) (hM : tlM zs ⟨mo, ba, l, op, oh, ot, st, fe, fp, fh, ft, lo⟩ c d p x = ms) :
    Calls Try.prog 31 #[.agg #[v], .agg #[.int .i64 mo, .int .i64 ba, vc, .int .i64 op, .int .i64 oh, .int .i64 ot, .bool st, .int .i64 fe, .int .i64 fp, .int .i64 fh, .int .i64 ft, .bool lo], .agg #[.int .i64 c, .int .i64 d, .int .i64 p, .bool x]] w fun e w' =>
      ∃ ma1 mc1 va1 vk1, e = .returned (.tuple #[.agg #[.slice ma1 ms.length mc1], .agg #[.int .i64 mo1, .int .i64 ba1, .slice va1 l1.length vk1, .int .i64 op1, .int .i64 oh1, .int .i64 ot1, .bool st1, .int .i64 fe1, .int .i64 fp1, .int .i64 fh1, .int .i64 ft1, .bool lo1], .int .i64 e0]) ∧ Sl w' (.slice ma1 ms.length mc1) ms ∧ Ls w' (.slice va1 l1.length vk1) l1 ∧ Below w.heap.size w w' := by
  refine (toldOf_any v zs mo ba op oh ot fe fp fh ft st lo vc l c d p x w hs h hk).mono ?_
  rintro e w' ⟨ma2, mn2, mc2, mo2, ba2, op2, oh2, ot2, fe2, fp2, fh2, ft2, st2, lo2, va2, vk2, l2, rfl, hB2, hS, hL, hb⟩
  rw [hB] at hB2
  simp only [Br.mk.injEq] at hB2
  obtain ⟨rfl, rfl, rfl, rfl, rfl, rfl, rfl, rfl, rfl, rfl, rfl, rfl⟩ := hB2
  rw [hM] at hS
  rw [hE]
  obtain ⟨a, cap, he, _⟩ := id hS
  simp only [Value.slice.injEq] at he
  obtain ⟨rfl, rfl, rfl⟩ := he
  exact ⟨ma2, mc2, va2, vk2, rfl, hS, hL, hb⟩

theorem obeyed_at {v : Value} {zs : List Int} {mo ba op oh ot fe fp fh ft : Int} {st lo : Bool} {vc : Value} {l : List Ln} {w : World} {mo1 ba1 op1 oh1 ot1 fe1 fp1 fh1 ft1 : Int} {st1 lo1 : Bool} {l1 : List Ln} {e0 : Int} (hs : Sl w v zs) (h : Ls w vc l) (hk : bothB zs ⟨mo, ba, l, op, oh, ot, st, fe, fp, fh, ft, lo⟩ = 0) (hE : obE zs ⟨mo, ba, l, op, oh, ot, st, fe, fp, fh, ft, lo⟩ = e0) (hB : obB zs ⟨mo, ba, l, op, oh, ot, st, fe, fp, fh, ft, lo⟩ = ⟨mo1, ba1, l1, op1, oh1, ot1, st1, fe1, fp1, fh1, ft1, lo1⟩) :
    Calls Try.prog 32 #[.agg #[v], .agg #[.int .i64 mo, .int .i64 ba, vc, .int .i64 op, .int .i64 oh, .int .i64 ot, .bool st, .int .i64 fe, .int .i64 fp, .int .i64 fh, .int .i64 ft, .bool lo]] w fun e w' =>
      ∃ va1 vk1, e = .returned (.tuple #[.agg #[.int .i64 mo1, .int .i64 ba1, .slice va1 l1.length vk1, .int .i64 op1, .int .i64 oh1, .int .i64 ot1, .bool st1, .int .i64 fe1, .int .i64 fp1, .int .i64 fh1, .int .i64 ft1, .bool lo1], .int .i64 e0]) ∧ Ls w' (.slice va1 l1.length vk1) l1 ∧ Below w.heap.size w w' := by
  refine (obeyed_any v zs mo ba op oh ot fe fp fh ft st lo vc l w hs h hk).mono ?_
  rintro e w' ⟨mo2, ba2, op2, oh2, ot2, fe2, fp2, fh2, ft2, st2, lo2, va2, vk2, l2, rfl, hB2, hL, hb⟩
  rw [hB] at hB2
  simp only [Br.mk.injEq] at hB2
  obtain ⟨rfl, rfl, rfl, rfl, rfl, rfl, rfl, rfl, rfl, rfl, rfl, rfl⟩ := hB2
  rw [hE]
  exact ⟨va2, vk2, rfl, hL, hb⟩

set_option maxRecDepth 10000 in
set_option maxHeartbeats 8000000 in
theorem bridgeTells_walk (v : Value) (zs : List Int) (mo ba op oh ot fe fp fh ft : Int) (st lo : Bool) (vc : Value) (l : List Ln) (c d p : Int) (x : Bool) (w : World) (hs : Sl w v zs) (h : Ls w vc l) :
    Calls Try.prog 6 #[.agg #[v], .agg #[.int .i64 mo, .int .i64 ba, vc, .int .i64 op, .int .i64 oh, .int .i64 ot, .bool st, .int .i64 fe, .int .i64 fp, .int .i64 fh, .int .i64 ft, .bool lo], .agg #[.int .i64 c, .int .i64 d, .int .i64 p, .bool x]] w fun e w' => e = .returned (.bool true) ∧ Below w.heap.size w w' := by
  have HS : Hid (Ls w vc l) := h
  obtain ⟨va, vk, rfl, -⟩ := h.shape
  have HM : Hid (Sl w v zs) := hs
  obtain ⟨ma, mc, rfl⟩ := hs.shape
  clear h hs
  obtain ⟨E1, hE1⟩ : ∃ E, bothB zs ⟨mo, ba, l, op, oh, ot, st, fe, fp, fh, ft, lo⟩ = E := ⟨_, rfl⟩
  obtain ⟨ms, hms⟩ : ∃ E, tlM zs ⟨mo, ba, l, op, oh, ot, st, fe, fp, fh, ft, lo⟩ c d p x = E := ⟨_, rfl⟩
  obtain ⟨⟨mo1, ba1, l1, op1, oh1, ot1, st1, fe1, fp1, fh1, ft1, lo1⟩, hB1⟩ : ∃ E, tlB zs ⟨mo, ba, l, op, oh, ot, st, fe, fp, fh, ft, lo⟩ c d p = E := ⟨_, rfl⟩
  obtain ⟨⟨mo2, ba2, l2, op2, oh2, ot2, st2, fe2, fp2, fh2, ft2, lo2⟩, hB2⟩ : ∃ E, obB zs ⟨mo, ba, l, op, oh, ot, st, fe, fp, fh, ft, lo⟩ = E := ⟨_, rfl⟩
  obtain ⟨E, hE⟩ : ∃ E, tlE zs ⟨mo, ba, l, op, oh, ot, st, fe, fp, fh, ft, lo⟩ c d p = E := ⟨_, rfl⟩
  obtain ⟨G, hG⟩ : ∃ E, obE zs ⟨mo, ba, l, op, oh, ot, st, fe, fp, fh, ft, lo⟩ = E := ⟨_, rfl⟩
  have HZ : Hid (¬ E1 = 0 → (E = E1 ∧ G = E1) ∧ ms = [] ∧ (⟨mo1, ba1, l1, op1, oh1, ot1, st1, fe1, fp1, fh1, ft1, lo1⟩ : Br) = B0 ∧ (⟨mo2, ba2, l2, op2, oh2, ot2, st2, fe2, fp2, fh2, ft2, lo2⟩ : Br) = B0) := fun hn => by
    have e1 : tlE zs ⟨mo, ba, l, op, oh, ot, st, fe, fp, fh, ft, lo⟩ c d p = E1 := by rw [tlE, hE1, if_neg hn]
    have e2 : obE zs ⟨mo, ba, l, op, oh, ot, st, fe, fp, fh, ft, lo⟩ = E1 := by rw [obE, hE1, if_neg hn]
    refine ⟨⟨by rw [← hE, e1], by rw [← hG, e2]⟩, ?_, ?_, ?_⟩
    · rw [← hms, tlM, if_neg (by rw [e1]; exact hn)]
    · rw [← hB1, tlB, if_neg (by rw [e1]; exact hn)]
    · rw [← hB2, obB, if_neg (by rw [e2]; exact hn)]
  have HE1 : Hid (_ = _) := hE1
  have Hms : Hid (_ = _) := hms
  have HB1 : Hid (_ = _) := hB1
  have HB2 : Hid (_ = _) := hB2
  have HE : Hid (_ = _) := hE
  have HG : Hid (_ = _) := hG
  clear hE1 hms hB1 hB2 hE hG
  have BA : Hid (Below w.heap.size w _) := bel_alloc (bel_alloc (bel_alloc (Below.refl w.heap.size w) (.cells #[.slice ma zs.length mc] 39)) (.cells #[.int .i64 mo, .int .i64 ba, .slice va l.length vk, .int .i64 op, .int .i64 oh, .int .i64 ot, .bool st, .int .i64 fe, .int .i64 fp, .int .i64 fh, .int .i64 ft, .bool lo] 44)) (.cells #[.int .i64 c, .int .i64 d, .int .i64 p, .bool x] 25)
  go_enter Try.func6, Try.ntmps6
  go_wp2_with fail
  refine (tell_at (HM.out.keep BA.out) (HS.out.keep BA.out) HE.out HB1.out Hms.out).mono ?_
  rintro e w1 ⟨na1, nc1, va1, vk1, rfl, hS1, hL1, b1⟩
  have XM := (((Box.newAt (n := w.heap.size) rfl 39 #[.slice ma zs.length mc]).past _).past _).keep b1
  have XB := ((Box.newAt (n := w.heap.size + 1) (by simp) 44 #[.int .i64 mo, .int .i64 ba, .slice va l.length vk, .int .i64 op, .int .i64 oh, .int .i64 ot, .bool st, .int .i64 fe, .int .i64 fp, .int .i64 fh, .int .i64 ft, .bool lo]).past _).keep b1
  have XF := (Box.newAt (n := w.heap.size + 1 + 1) (by simp) 25 #[.int .i64 c, .int .i64 d, .int .i64 p, .bool x]).keep b1
  have B1 : Hid (Below w.heap.size w w1) := bel_trans BA.out b1
  clear b1 BA
  obtain ⟨m0, -, s0⟩ := XM.one
  obtain ⟨⟨q0, q1, q2, q3, q4, q5, q6, q7, q8, q9, q10, q11⟩, sq⟩ := XB.twelve
  have z0 : w.heap.size < w1.heap.size + 1 := by omega
  have z1 : w.heap.size + 1 < w1.heap.size + 1 := by omega
  go_wp2_with fail
  refine (obey_at (HM.out.keep (bel_alloc (bel_alloc B1.out _) _)) (HS.out.keep (bel_alloc (bel_alloc B1.out _) _)) HG.out HB2.out).mono ?_
  rintro e w2 ⟨va2, vk2, rfl, hL2, b2⟩
  have XM := ((XM.past _).past _).keep b2
  have XB := ((XB.past _).past _).keep b2
  have XF := ((XF.past _).past _).keep b2
  have X1 := ((Box.newAt (w := w1) rfl 39 #[.slice na1 ms.length nc1]).past _).keep b2
  have X2 := (Box.newAt (w := w1.alloc (.cells #[.slice na1 ms.length nc1] 39)) (n := w1.heap.size + 1) (by simp) 44 #[.int .i64 mo1, .int .i64 ba1, .slice va1 l1.length vk1, .int .i64 op1, .int .i64 oh1, .int .i64 ot1, .bool st1, .int .i64 fe1, .int .i64 fp1, .int .i64 fh1, .int .i64 ft1, .bool lo1]).keep b2
  have HL1 := ((hL1.alloc _).alloc _).keep b2
  have HS1 := ((hS1.alloc _).alloc _).keep b2
  have B2 : Hid (Below w.heap.size w w2) := bel_trans (bel_alloc (bel_alloc B1.out _) _) b2
  clear b2 B1 hL1 hS1 q0 q1 q2 q3 q4 q5 q6 q7 q8 q9 q10 q11 sq m0 s0 z0 z1
  generalize w1.heap.size = P at *
  obtain ⟨m0, -, s0⟩ := XM.one
  go_wp2_with fail
  refine (checkMem_any _ zs _ (HM.out.keep (bel_alloc B2.out _))).mono ?_
  rintro e w3 ⟨rfl, b3⟩
  have XM := (XM.past _).keep b3
  have XB := (XB.past _).keep b3
  have XF := (XF.past _).keep b3
  have X1 := (X1.past _).keep b3
  have X2 := (X2.past _).keep b3
  have X3 := (Box.newAt (w := w2) rfl 44 #[.int .i64 mo2, .int .i64 ba2, .slice va2 l2.length vk2, .int .i64 op2, .int .i64 oh2, .int .i64 ot2, .bool st2, .int .i64 fe2, .int .i64 fp2, .int .i64 fh2, .int .i64 ft2, .bool lo2]).keep b3
  have HL1 := (HL1.alloc _).keep b3
  have HS1 := (HS1.alloc _).keep b3
  have HL2 := (hL2.alloc _).keep b3
  have B3 : Hid (Below w.heap.size w w3) := bel_trans (bel_alloc B2.out _) b3
  clear b3 B2 m0 s0 hL2
  generalize w2.heap.size = Q at *
  have HHL1 : Hid (Ls _ _ l1) := HL1
  have HHS1 : Hid (Sl _ _ ms) := HS1
  have HHL2 : Hid (Ls _ _ l2) := HL2
  clear HL1 HS1 HL2
  go_upto_if 35 with fail
  go_cut [12] from 32 to 37 (fun s wx => s = .int .i64 E1 ∧ Below w3.heap.size w3 wx)
  case first =>
    by_cases hk : chk zs = 0
    · have hH : Hid (bothB zs ⟨mo, ba, l, op, oh, ot, st, fe, fp, fh, ft, lo⟩ = chkB ⟨mo, ba, l, op, oh, ot, st, fe, fp, fh, ft, lo⟩) := if_pos hk
      rw [hk]
      obtain ⟨⟨q0, q1, q2, q3, q4, q5, q6, q7, q8, q9, q10, q11⟩, sq⟩ := XB.twelve
      go_wp2_with fail
      refine (checkBridge_any _ _ _ _ _ _ _ _ _ _ _ _ l _ (HS.out.keep B3.out)).mono ?_
      rintro e w4 ⟨rfl, b4⟩
      go_wp2
      go_meet
      exact ⟨by rw [← HE1.out, hH.out], b4⟩
    · have hH : Hid (bothB zs ⟨mo, ba, l, op, oh, ot, st, fe, fp, fh, ft, lo⟩ = chk zs) := if_neg hk
      have hq : (chk zs == 0) = false := by simpa using hk
      go_wp2
      go_meet
      exact ⟨by rw [← HE1.out, hH.out], Below.refl _ _⟩
  case rest =>
    obtain ⟨rfl, bc⟩ := hcut
    obtain ⟨wA, rfl⟩ : ∃ wA, wA = wc := ⟨wc, rfl⟩
    have XM := XM.keep bc
    have XB := XB.keep bc
    have XF := XF.keep bc
    have X1 := X1.keep bc
    have X2 := X2.keep bc
    have X3 := X3.keep bc
    have LA := HHL1.out.keep bc
    have SA := HHS1.out.keep bc
    have L2 := HHL2.out.keep bc
    have BAA : Hid (Below w.heap.size w wA) := bel_trans B3.out bc
    clear bc HHL1 HHS1 HHL2 B3
    go_wp2_with fail
    refine (crossed_true _).mono ?_
    rintro e w5 ⟨rfl, b5⟩
    have XM := XM.keep b5
    have XB := XB.keep b5
    have XF := XF.keep b5
    have X1 := X1.keep b5
    have X2 := X2.keep b5
    have X3 := X3.keep b5
    have LA := LA.keep b5
    have SA := SA.keep b5
    have L2 := L2.keep b5
    have B5 : Hid (Below w.heap.size w w5) := bel_trans BAA.out b5
    clear b5 BAA
    by_cases h1 : E1 = 0
    rotate_left
    · have hq : (E1 != 0) = true := by simpa using h1
      obtain ⟨⟨z1, z2⟩, z3, z4, z5⟩ := HZ.out h1
      subst z1 z2 z3
      simp only [B0, Br.mk.injEq] at z4 z5
      obtain ⟨rfl, rfl, rfl, rfl, rfl, rfl, rfl, rfl, rfl, rfl, rfl, rfl⟩ := z4
      obtain ⟨rfl, rfl, rfl, rfl, rfl, rfl, rfl, rfl, rfl, rfl, rfl, rfl⟩ := z5
      have HLA : Hid (Ls _ _ _) := LA
      have HL2 : Hid (Ls _ _ _) := L2
      clear SA LA L2 XM XB XF
      go_wp2_with fail
      refine (crossed_true _).mono ?_
      rintro e w6 ⟨rfl, b6⟩
      have X1 := X1.keep b6
      have X2 := X2.keep b6
      have X3 := X3.keep b6
      have HLA : Hid (Ls _ _ _) := HLA.out.keep b6
      have HL2 : Hid (Ls _ _ _) := HL2.out.keep b6
      have B6 : Hid (Below w.heap.size w w6) := bel_trans B5.out b6
      clear b6 B5
      obtain ⟨m0, -, s0⟩ := X1.one
      obtain ⟨⟨q0, q1, q2, q3, q4, q5, q6, q7, q8, q9, q10, q11⟩, sq⟩ := X2.twelve
      go_wp2_with fail
      refine (sameBridge_any _ _ _ _ _ _ _ _ _ _ _ _ [] _ _ _ _ _ _ _ _ _ _ _ _ [] _ HLA.out (Ls.nothing _)).mono ?_
      rintro e w7 ⟨rfl, b7⟩
      rw [sameBr_self]
      have X3 := X3.keep b7
      have HL2 : Hid (Ls _ _ _) := HL2.out.keep b7
      have B7 : Hid (Below w.heap.size w w7) := bel_trans B6.out b7
      clear b7 B6 HLA m0 s0 q0 q1 q2 q3 q4 q5 q6 q7 q8 q9 q10 q11 sq X1 X2
      obtain ⟨⟨q0, q1, q2, q3, q4, q5, q6, q7, q8, q9, q10, q11⟩, sq⟩ := X3.twelve
      go_wp2_with fail
      refine (sameBridge_any _ _ _ _ _ _ _ _ _ _ _ _ [] _ _ _ _ _ _ _ _ _ _ _ _ [] _ HL2.out (Ls.nothing _)).mono ?_
      rintro e w8 ⟨rfl, b8⟩
      rw [sameBr_self]
      have B8 : Hid (Below w.heap.size w w8) := bel_trans B7.out b8
      clear b8 B7 HL2 q0 q1 q2 q3 q4 q5 q6 q7 q8 q9 q10 q11 sq X3
      go_wp2
      go_ret
      exact ⟨rfl, B8.out⟩
    subst h1
    have HLA : Hid (Ls _ _ _) := LA
    have HSA : Hid (Sl _ _ _) := SA
    have HL2 : Hid (Ls _ _ _) := L2
    clear SA LA L2
    obtain ⟨m0, -, s0⟩ := XM.one
    obtain ⟨⟨q0, q1, q2, q3, q4, q5, q6, q7, q8, q9, q10, q11⟩, sq⟩ := XB.twelve
    obtain ⟨f0, f1, f2, f3, -, -, -, -, sf⟩ := XF.four
    go_wp2_with fail
    refine (told_at (HM.out.keep B5.out) (HS.out.keep B5.out) HE1.out HE.out HB1.out Hms.out).mono ?_
    rintro e w6 ⟨na6, nc6, va6, vk6, rfl, hS6, hL6, b6⟩
    have XM := XM.keep b6
    have XB := XB.keep b6
    have X1 := X1.keep b6
    have X2 := X2.keep b6
    have X3 := X3.keep b6
    have HLA : Hid (Ls _ _ _) := HLA.out.keep b6
    have HSA : Hid (Sl _ _ _) := HSA.out.keep b6
    have HL2 : Hid (Ls _ _ _) := HL2.out.keep b6
    have B6 : Hid (Below w.heap.size w w6) := bel_trans B5.out b6
    clear b6 B5 m0 s0 q0 q1 q2 q3 q4 q5 q6 q7 q8 q9 q10 q11 sq f0 f1 f2 f3 sf XF
    obtain ⟨m0, -, s0⟩ := XM.one
    obtain ⟨⟨q0, q1, q2, q3, q4, q5, q6, q7, q8, q9, q10, q11⟩, sq⟩ := XB.twelve
    have z0 : w.heap.size < w6.heap.size + 1 := by omega
    have z1 : w.heap.size + 1 < w6.heap.size + 1 := by omega
    go_wp2_with fail
    refine (obeyed_at (HM.out.keep (bel_alloc (bel_alloc B6.out _) _)) (HS.out.keep (bel_alloc (bel_alloc B6.out _) _)) HE1.out HG.out HB2.out).mono ?_
    rintro e w7 ⟨va7, vk7, rfl, hL7, b7⟩
    have X1 := ((X1.past _).past _).keep b7
    have X2 := ((X2.past _).past _).keep b7
    have X3 := ((X3.past _).past _).keep b7
    have X4 := ((Box.newAt (w := w6) rfl 39 #[.slice na6 ms.length nc6]).past _).keep b7
    have X5 := (Box.newAt (w := w6.alloc (.cells #[.slice na6 ms.length nc6] 39)) (n := w6.heap.size + 1) (by simp) 44 #[.int .i64 mo1, .int .i64 ba1, .slice va6 l1.length vk6, .int .i64 op1, .int .i64 oh1, .int .i64 ot1, .bool st1, .int .i64 fe1, .int .i64 fp1, .int .i64 fh1, .int .i64 ft1, .bool lo1]).keep b7
    have HLA : Hid (Ls _ _ _) := ((HLA.out.alloc _).alloc _).keep b7
    have HSA : Hid (Sl _ _ _) := ((HSA.out.alloc _).alloc _).keep b7
    have HL2 : Hid (Ls _ _ _) := ((HL2.out.alloc _).alloc _).keep b7
    have HS6 : Hid (Sl _ _ _) := ((hS6.alloc _).alloc _).keep b7
    have HL6 : Hid (Ls _ _ _) := ((hL6.alloc _).alloc _).keep b7
    have B7 : Hid (Below w.heap.size w w7) := bel_trans (bel_alloc (bel_alloc B6.out _) _) b7
    clear b7 B6 m0 s0 q0 q1 q2 q3 q4 q5 q6 q7 q8 q9 q10 q11 sq XM XB hS6 hL6 z0 z1
    generalize w6.heap.size = R at *
    obtain ⟨m0, -, s0⟩ := X1.one
    obtain ⟨m4, -, s4⟩ := X4.one
    go_wp2_with fail
    refine (equal_any _ _ ms ms _ (HSA.out.alloc _) (HS6.out.alloc _)).mono ?_
    rintro e w8 ⟨rfl, n8, rfl⟩
    rw [decide_eq_true (rfl : ms = ms)]
    have X2 : Box ((w7.alloc (.cells #[.int .i64 mo2, .int .i64 ba2, .slice va7 l2.length vk7, .int .i64 op2, .int .i64 oh2, .int .i64 ot2, .bool st2, .int .i64 fe2, .int .i64 fp2, .int .i64 fh2, .int .i64 ft2, .bool lo2] 44)).drewN n8) _ _ _ := X2.past _
    have X5 : Box ((w7.alloc (.cells #[.int .i64 mo2, .int .i64 ba2, .slice va7 l2.length vk7, .int .i64 op2, .int .i64 oh2, .int .i64 ot2, .bool st2, .int .i64 fe2, .int .i64 fp2, .int .i64 fh2, .int .i64 ft2, .bool lo2] 44)).drewN n8) _ _ _ := X5.past _
    have X3 : Box ((w7.alloc (.cells #[.int .i64 mo2, .int .i64 ba2, .slice va7 l2.length vk7, .int .i64 op2, .int .i64 oh2, .int .i64 ot2, .bool st2, .int .i64 fe2, .int .i64 fp2, .int .i64 fh2, .int .i64 ft2, .bool lo2] 44)).drewN n8) _ _ _ := X3.past _
    have X6 : Box ((w7.alloc (.cells #[.int .i64 mo2, .int .i64 ba2, .slice va7 l2.length vk7, .int .i64 op2, .int .i64 oh2, .int .i64 ot2, .bool st2, .int .i64 fe2, .int .i64 fp2, .int .i64 fh2, .int .i64 ft2, .bool lo2] 44)).drewN n8) w7.heap.size 44 #[.int .i64 mo2, .int .i64 ba2, .slice va7 l2.length vk7, .int .i64 op2, .int .i64 oh2, .int .i64 ot2, .bool st2, .int .i64 fe2, .int .i64 fp2, .int .i64 fh2, .int .i64 ft2, .bool lo2] := Box.newAt rfl _ _
    have HLA : Hid (Ls ((w7.alloc (.cells #[.int .i64 mo2, .int .i64 ba2, .slice va7 l2.length vk7, .int .i64 op2, .int .i64 oh2, .int .i64 ot2, .bool st2, .int .i64 fe2, .int .i64 fp2, .int .i64 fh2, .int .i64 ft2, .bool lo2] 44)).drewN n8) _ _) := HLA.out.alloc _
    have HL6 : Hid (Ls ((w7.alloc (.cells #[.int .i64 mo2, .int .i64 ba2, .slice va7 l2.length vk7, .int .i64 op2, .int .i64 oh2, .int .i64 ot2, .bool st2, .int .i64 fe2, .int .i64 fp2, .int .i64 fh2, .int .i64 ft2, .bool lo2] 44)).drewN n8) _ _) := HL6.out.alloc _
    have HL2 : Hid (Ls ((w7.alloc (.cells #[.int .i64 mo2, .int .i64 ba2, .slice va7 l2.length vk7, .int .i64 op2, .int .i64 oh2, .int .i64 ot2, .bool st2, .int .i64 fe2, .int .i64 fp2, .int .i64 fh2, .int .i64 ft2, .bool lo2] 44)).drewN n8) _ _) := HL2.out.alloc _
    have HL7 : Hid (Ls ((w7.alloc (.cells #[.int .i64 mo2, .int .i64 ba2, .slice va7 l2.length vk7, .int .i64 op2, .int .i64 oh2, .int .i64 ot2, .bool st2, .int .i64 fe2, .int .i64 fp2, .int .i64 fh2, .int .i64 ft2, .bool lo2] 44)).drewN n8) _ _) := hL7.alloc _
    have B8 : Hid (Below w.heap.size w ((w7.alloc (.cells #[.int .i64 mo2, .int .i64 ba2, .slice va7 l2.length vk7, .int .i64 op2, .int .i64 oh2, .int .i64 ot2, .bool st2, .int .i64 fe2, .int .i64 fp2, .int .i64 fh2, .int .i64 ft2, .bool lo2] 44)).drewN n8)) := bel_drewN (bel_alloc B7.out _) _
    clear m0 s0 m4 s4 B7 hL7 HSA HS6
    generalize ((w7.alloc (.cells #[.int .i64 mo2, .int .i64 ba2, .slice va7 l2.length vk7, .int .i64 op2, .int .i64 oh2, .int .i64 ot2, .bool st2, .int .i64 fe2, .int .i64 fp2, .int .i64 fh2, .int .i64 ft2, .bool lo2] 44)).drewN n8) = W8 at *
    generalize w7.heap.size = S at *
    obtain ⟨⟨q0, q1, q2, q3, q4, q5, q6, q7, q8, q9, q10, q11⟩, sq⟩ := X2.twelve
    obtain ⟨⟨u0, u1, u2, u3, u4, u5, u6, u7, u8, u9, u10, u11⟩, su⟩ := X5.twelve
    go_wp2_with fail
    refine (sameBridge_any _ _ _ _ _ _ _ _ _ _ _ _ l1 _ _ _ _ _ _ _ _ _ _ _ _ l1 _ HLA.out HL6.out).mono ?_
    rintro e w9 ⟨rfl, b9⟩
    rw [sameBr_self]
    have X3 := X3.keep b9
    have X6 := X6.keep b9
    have HL2 : Hid (Ls _ _ _) := HL2.out.keep b9
    have HL7 : Hid (Ls _ _ _) := HL7.out.keep b9
    have B9 : Hid (Below w.heap.size w w9) := bel_trans B8.out b9
    clear b9 B8 HLA HL6 q0 q1 q2 q3 q4 q5 q6 q7 q8 q9 q10 q11 sq u0 u1 u2 u3 u4 u5 u6 u7 u8 u9 u10 u11 su X2 X5
    obtain ⟨⟨q0, q1, q2, q3, q4, q5, q6, q7, q8, q9, q10, q11⟩, sq⟩ := X3.twelve
    obtain ⟨⟨u0, u1, u2, u3, u4, u5, u6, u7, u8, u9, u10, u11⟩, su⟩ := X6.twelve
    go_wp2_with fail
    refine (sameBridge_any _ _ _ _ _ _ _ _ _ _ _ _ l2 _ _ _ _ _ _ _ _ _ _ _ _ l2 _ HL2.out HL7.out).mono ?_
    rintro e w10 ⟨rfl, b10⟩
    rw [sameBr_self]
    have B10 : Hid (Below w.heap.size w w10) := bel_trans B9.out b10
    clear b10 B9 HL2 HL7 q0 q1 q2 q3 q4 q5 q6 q7 q8 q9 q10 q11 sq u0 u1 u2 u3 u4 u5 u6 u7 u8 u9 u10 u11 su X3 X6
    go_wp2
    go_ret
    exact ⟨rfl, B10.out⟩
end Go.Proofs.Ytemnklppplgcoab
/-
  What the openers share.
-/
namespace Go.Proofs.Ytemnklppplgcoab
open Go.ChangeShapes Go.WideShapes Go.ChangeAt Go.RowKit

theorem law_own : ownKnob Try.prog.godebug = none := by kernel_rfl
theorem law_laidOut : laidOutB Try.prog = true := by kernel_rfl
theorem int_cells : Try.prog.cellsOf 3 = 1 := by kernel_rfl
theorem bool_cells : Try.prog.cellsOf 4 = 1 := by kernel_rfl

theorem array5 {cs : List Value} (h : cs.length = 5) : ∃ c0 c1 c2 c3 c4, cs = [c0, c1, c2, c3, c4] := by
  match cs, h with
  | [c0, c1, c2, c3, c4], _ => exact ⟨c0, c1, c2, c3, c4, rfl⟩
theorem array3 {cs : List Value} (h : cs.length = 3) : ∃ c0 c1 c2, cs = [c0, c1, c2] := by
  match cs, h with
  | [c0, c1, c2], _ => exact ⟨c0, c1, c2, rfl⟩
theorem array4 {cs : List Value} (h : cs.length = 4) : ∃ c0 c1 c2 c3, cs = [c0, c1, c2, c3] := by
  match cs, h with
  | [c0, c1, c2, c3], _ => exact ⟨c0, c1, c2, c3, rfl⟩

section
variable {H : Type} {enc : TypeId × Value → H} {W : World}

theorem cell_int {n : Nat} {c : Value} {y : Option (DataW H × List MemPlace)} (h : DataW.trod enc Try.prog W 0 (fun _ => true) true n 3 [c] = y) (hy : y ≠ none) : ∃ a, c = .int .i64 a := by
  cases y with
  | none => exact absurd rfl hy
  | some y =>
    obtain ⟨a, e, _⟩ := DataW.trod_int Try.underlying3 h
    exact ⟨a, by simpa using e⟩
theorem cell_bool {n : Nat} {c : Value} {y : Option (DataW H × List MemPlace)} (h : DataW.trod enc Try.prog W 0 (fun _ => true) true n 4 [c] = y) (hy : y ≠ none) : ∃ a, c = .bool a := by
  cases y with
  | none => exact absurd rfl hy
  | some y =>
    obtain ⟨a, e, _⟩ := DataW.trod_bool Try.underlying4 h
    exact ⟨a, by simpa using e⟩

set_option maxRecDepth 100000 in
theorem cell_intw {n : Nat} {c : Value} {y : Option (DataW H × List MemPlace)} (h : DataW.trod enc Try.prog W 0 (fun _ => true) true n 3 [c] = y) (hy : y ≠ none) : ∃ a, c = .int .i64 a ∧ -9223372036854775808 ≤ a ∧ a ≤ 9223372036854775807 := by
  cases y with
  | none => exact absurd rfl hy
  | some y =>
    obtain ⟨a, e, _, hw⟩ := DataW.trod_int Try.underlying3 h
    refine ⟨a, by simpa using e, ?_⟩
    simp only [Lit.wf, Bool.and_eq_true, decide_eq_true_eq] at hw
    exact hw

end
end Go.Proofs.Ytemnklppplgcoab
/-
  A memory that comes in as an argument reads as a list of numbers (Sl).
-/
namespace Go.Proofs.Ytemnklppplgcoab
open Go.ChangeShapes Go.WideShapes Go.ChangeAt Go.RowKit

theorem mem_cells : Try.prog.cellsOf 39 = 1 := by kernel_rfl
theorem slice_cells : Try.prog.cellsOf 37 = 1 := by kernel_rfl

/-- A cell that reads as a slice of numbers. -/
theorem open_row {H : Type} {enc : TypeId × Value → H} {W : World} {fuel : Nat} {c0 : Value} {x : DataW H × List MemPlace}
    (h : DataW.trod enc Try.prog W 0 (fun _ => true) true fuel 37 [c0] = some x) : ∃ zs, Sl W c0 zs := by
  rcases open_ints Try.underlying37 Try.underlying3 int_cells h with ⟨hcs, _⟩ | ⟨a, len, cap, zs, hcs, _, hl, hm, hz, _, hcell, _⟩
  · simp only [List.cons.injEq, and_true] at hcs
    subst hcs
    exact ⟨[], Sl.nil _ _ _⟩
  · simp only [List.cons.injEq, and_true] at hcs
    subst hcs
    simp only [if_true] at hz
    by_cases h0 : len = 0
    · subst h0
      exact ⟨[], Sl.nil _ _ _⟩
    · obtain ⟨b, off, spot⟩ := a
      have hc := hcell 0 (by omega)
      have hspot : spot = none := by simpa [Addr.add] using World.cell?_spot hc
      subst hspot
      have hlen : (zs.take len).length = len := by simp; omega
      refine ⟨zs.take len, _, cap, by rw [hlen], by omega, .inr ⟨b, off, rfl, ?_, fun i hi => ?_⟩⟩
      · have := World.block_lt_of_cell? W _ hc
        simpa [Addr.add] using this
      · have ha : Addr.add ⟨b, off, none⟩ i = ⟨b, off + i, none⟩ := by unfold Addr.add; split <;> simp_all
        have := hcell i (by omega)
        rw [ha] at this
        rw [this]
        have hi' : i < len := by omega
        simp [nth, hi']

set_option maxRecDepth 100000 in
theorem open_mem {H : Type} {enc : TypeId × Value → H} {W : World} {b0 : Nat} {v : Value} {d : DataW H} {p : List MemPlace} (hv : Value.okWide Try.prog W .any b0 39 v)
    (h : DataW.Trod enc Try.prog W 0 (fun _ => true) true 39 v d p) : ∃ v0 zs, v = .agg #[v0] ∧ Sl W v0 zs := by
  obtain ⟨cs, rfl, hsz⟩ := okWide_struct Try.underlying39 hv
  rw [mem_cells] at hsz
  obtain ⟨l⟩ := cs
  match l, hsz with
  | [c0], _ =>
    obtain ⟨fuel, hf⟩ := h
    obtain ⟨y0, n, _, _, h0⟩ := trod_struct1 Try.underlying39 hf
    obtain ⟨zs, hs⟩ := open_row (c0 := c0) (by simpa [Value.cells, slice_cells] using h0)
    exact ⟨c0, zs, rfl, hs⟩
end Go.Proofs.Ytemnklppplgcoab
/-
  An order that comes in as an argument is written out.
-/
namespace Go.Proofs.Ytemnklppplgcoab
open Go.ChangeShapes Go.WideShapes Go.ChangeAt Go.RowKit

theorem ord_cells : Try.prog.cellsOf 23 = 3 := by kernel_rfl

section
variable {H : Type} {enc : TypeId × Value → H} {W : World}

set_option maxRecDepth 100000 in
theorem open_ord {b0 : Nat} {v : Value} {d : DataW H} {p : List MemPlace} (hv : Value.okWide Try.prog W .any b0 23 v) (h : DataW.Trod enc Try.prog W 0 (fun _ => true) true 23 v d p) :
    ∃ a b n, v = .agg #[.int .i64 a, .int .i64 b, .int .i64 n] ∧ (-9223372036854775808 ≤ a ∧ a ≤ 9223372036854775807) := by
  obtain ⟨cs, rfl, _⟩ := okWide_struct Try.underlying23 hv
  obtain ⟨fuel, hf⟩ := h
  obtain ⟨xs, n, _, _, hl, hlen, hf⟩ := DataW.trod_struct Try.underlying23 hf
  rw [ord_cells] at hl
  obtain ⟨l⟩ := cs
  simp only [Value.cells] at hl hf
  obtain ⟨c0, c1, c2, rfl⟩ := array3 hl
  have some_at : ∀ i, i < 3 → xs[i]? ≠ none := fun i hi => by
    rw [List.getElem?_eq_getElem (by rw [hlen]; exact hi)]; simp
  obtain ⟨a, rfl, ha⟩ := cell_intw (by simpa [int_cells] using hf 0 _ rfl) (some_at 0 (by omega))
  obtain ⟨b, rfl⟩ := cell_int (by simpa [int_cells] using hf 1 _ rfl) (some_at 1 (by omega))
  obtain ⟨q, rfl⟩ := cell_int (by simpa [int_cells] using hf 2 _ rfl) (some_at 2 (by omega))
  exact ⟨a, b, q, rfl, ha⟩

set_option maxRecDepth 100000 in
theorem open_odr {b0 : Nat} {v : Value} {d : DataW H} {p : List MemPlace} (hv : Value.okWide Try.prog W .any b0 23 v) (h : DataW.Trod enc Try.prog W 0 (fun _ => true) true 23 v d p) :
    ∃ a b n, v = .agg #[.int .i64 a, .int .i64 b, .int .i64 n] := by
  obtain ⟨a, b, n, e, _⟩ := open_ord hv h
  exact ⟨a, b, n, e⟩
end
end Go.Proofs.Ytemnklppplgcoab
/-
  Lines, a line, an order that come in as arguments are written out.
-/
namespace Go.Proofs.Ytemnklppplgcoab
open Go.ChangeShapes Go.WideShapes Go.ChangeAt Go.RowKit

theorem line_cells : Try.prog.cellsOf 68 = 5 := by kernel_rfl

section
variable {H : Type} {enc : TypeId × Value → H} {W : World}

set_option maxRecDepth 100000 in
/-- The cells of a line. -/
theorem line_open {fuel : Nat} {cs : List Value} {x : DataW H × List MemPlace} (h : DataW.trod enc Try.prog W 0 (fun _ => true) true fuel 68 cs = some x) :
    ∃ y : Ln, cs = [.int .i64 y.1, .int .i64 y.2.1, .int .i64 y.2.2.1, .bool y.2.2.2.1, .bool y.2.2.2.2] := by
  obtain ⟨xs, n, _, _, hl, hlen, hf⟩ := DataW.trod_struct Try.underlying68 h
  rw [line_cells] at hl
  obtain ⟨c0, c1, c2, c3, c4, rfl⟩ := array5 hl
  have some_at : ∀ i, i < 5 → xs[i]? ≠ none := fun i hi => by
    rw [List.getElem?_eq_getElem (by rw [hlen]; exact hi)]; simp
  obtain ⟨a, rfl⟩ := cell_int (by simpa [int_cells] using hf 0 _ rfl) (some_at 0 (by omega))
  obtain ⟨b, rfl⟩ := cell_int (by simpa [int_cells] using hf 1 _ rfl) (some_at 1 (by omega))
  obtain ⟨c, rfl⟩ := cell_int (by simpa [int_cells] using hf 2 _ rfl) (some_at 2 (by omega))
  obtain ⟨d, rfl⟩ := cell_bool (by simpa [bool_cells] using hf 3 _ rfl) (some_at 3 (by omega))
  obtain ⟨p, rfl⟩ := cell_bool (by simpa [bool_cells] using hf 4 _ rfl) (some_at 4 (by omega))
  exact ⟨(a, b, c, d, p), rfl⟩
set_option maxRecDepth 100000 in
theorem open_line {b0 : Nat} {v : Value} {d : DataW H} {p : List MemPlace} (hv : Value.okWide Try.prog W .any b0 68 v) (h : DataW.Trod enc Try.prog W 0 (fun _ => true) true 68 v d p) :
    ∃ a b c e n, v = .agg #[.int .i64 a, .int .i64 b, .int .i64 c, .bool e, .bool n] := by
  obtain ⟨cs, rfl, _⟩ := okWide_struct Try.underlying68 hv
  obtain ⟨fuel, hf⟩ := h
  obtain ⟨y, hc⟩ := line_open hf
  obtain ⟨l⟩ := cs
  simp only [Value.cells] at hc
  exact ⟨_, _, _, _, _, by rw [hc]⟩
theorem choose_len {P : Nat → Ln → Prop} : ∀ n, (∀ i, i < n → ∃ y, P i y) → ∃ l : List Ln, l.length = n ∧ ∀ i, i < n → P i (lth l i)
  | 0, _ => ⟨[], rfl, fun i hi => absurd hi (Nat.not_lt_zero _)⟩
  | n + 1, h => by
    obtain ⟨l, hl, hp⟩ := choose_len n fun i hi => h i (by omega)
    obtain ⟨y, hy⟩ := h n (by omega)
    refine ⟨l ++ [y], by simp [hl], fun i hi => ?_⟩
    by_cases e : i = n
    · subst e
      have : lth (l ++ [y]) i = y := by simp [lth, ← hl]
      rw [this]; exact hy
    · have : lth (l ++ [y]) i = lth l i := by
        have hi' : i < l.length := by omega
        simp [lth, List.getElem?_append_left hi']
      rw [this]; exact hp i (by omega)

set_option maxRecDepth 100000 in
/-- A cell that reads as a slice of lines. -/
theorem lines_row {fuel : Nat} {c0 : Value} {x : DataW H × List MemPlace} (h : DataW.trod enc Try.prog W 0 (fun _ => true) true fuel 40 [c0] = some x) : ∃ l, Ls W c0 l := by
  rcases Deep.open_slice Try.underlying40 h with ⟨hcs, _⟩ | ⟨a, len, cap, m, n, D, Pl, hcs, hb, hl, hm, hmm, _, hx⟩
  · simp only [List.cons.injEq, and_true] at hcs
    subst hcs
    exact ⟨[], Ls.nothing _⟩
  · simp only [List.cons.injEq, and_true] at hcs
    subst hcs
    simp only [if_true] at hmm
    rw [line_cells] at hx
    by_cases h0 : len = 0
    · subst h0
      exact ⟨[], Ls.nil _ _ _ hm⟩
    · obtain ⟨b, off, spot⟩ := a
      have each : ∀ i, i < len → ∃ y : Ln, ∀ j u, (j < 5 ∧ [Value.int .i64 y.1, .int .i64 y.2.1, .int .i64 y.2.2.1, .bool y.2.2.2.1, .bool y.2.2.2.2][j]? = some u) → W.cell? ((⟨b, off, spot⟩ : Addr).add (i * 5 + j)) = some u := by
        intro i hi
        obtain ⟨cs', h1, h2⟩ := hx i (by omega)
        obtain ⟨y, rfl⟩ := line_open h2
        obtain ⟨_, _, hcell⟩ := World.cells?_some h1
        refine ⟨y, fun j u ⟨hj, hu⟩ => ?_⟩
        have := hcell j (by omega)
        rw [Deep.add_add, hu] at this
        exact this
      obtain ⟨l, hlen, hp⟩ := choose_len (P := fun i y => ∀ j u, (j < 5 ∧ [Value.int .i64 y.1, .int .i64 y.2.1, .int .i64 y.2.2.1, .bool y.2.2.2.1, .bool y.2.2.2.2][j]? = some u) → W.cell? ((⟨b, off, spot⟩ : Addr).add (i * 5 + j)) = some u) len each
      have hc := hp 0 (by omega) 0 _ ⟨by omega, rfl⟩
      have hspot : spot = none := by simpa [Addr.add] using World.cell?_spot hc
      subst hspot
      have ha : ∀ i, Addr.add ⟨b, off, none⟩ i = ⟨b, off + i, none⟩ := fun i => by unfold Addr.add; split <;> simp_all
      refine ⟨l, _, cap, by rw [hlen], by omega, hm, .inr ⟨b, off, rfl, ?_, fun i hi => ?_⟩⟩
      · have := World.block_lt_of_cell? W _ hc
        simpa [Addr.add] using this
      · rw [hlen] at hi
        have hq := hp i hi
        refine ⟨?_, ?_, ?_, ?_, ?_⟩
        · have := hq 0 _ ⟨by omega, rfl⟩; rw [ha] at this; exact this
        · have := hq 1 _ ⟨by omega, rfl⟩; rw [ha, ← Nat.add_assoc] at this; exact this
        · have := hq 2 _ ⟨by omega, rfl⟩; rw [ha, ← Nat.add_assoc] at this; exact this
        · have := hq 3 _ ⟨by omega, rfl⟩; rw [ha, ← Nat.add_assoc] at this; exact this
        · have := hq 4 _ ⟨by omega, rfl⟩; rw [ha, ← Nat.add_assoc] at this; exact this
set_option maxRecDepth 100000 in
theorem open_lines {b0 : Nat} {v : Value} {d : DataW H} {p : List MemPlace} (hv : Value.okWide Try.prog W .any b0 40 v) (h : DataW.Trod enc Try.prog W 0 (fun _ => true) true 40 v d p) :
    ∃ l, Ls W v l := by
  obtain ⟨fuel, hf⟩ := h
  have hone : v.cells.toList = [v] := by
    simp only [Value.okWide, Try.underlying40, Cell.okWide] at hv
    cases v <;> simp_all [Value.cells, Cell.ok]
  rw [hone] at hf
  exact lines_row hf
end
end Go.Proofs.Ytemnklppplgcoab
/-
  A ring that comes in as an argument is written out.
-/
namespace Go.Proofs.Ytemnklppplgcoab
open Go.ChangeShapes Go.WideShapes Go.ChangeAt Go.RowKit

theorem ring_cells : Try.prog.cellsOf 42 = 3 := by kernel_rfl
section
variable {H : Type} {enc : TypeId × Value → H} {W : World}
set_option maxRecDepth 100000 in
/-- The cells of a ring. -/
theorem ring_open {fuel : Nat} {cs : List Value} {x : DataW H × List MemPlace} (h : DataW.trod enc Try.prog W 0 (fun _ => true) true fuel 42 cs = some x) :
    ∃ a b p, cs = [.int .i64 a, .int .i64 b, .int .i64 p] := by
  obtain ⟨xs, n, _, _, hl, hlen, hf⟩ := DataW.trod_struct Try.underlying42 h
  rw [ring_cells] at hl
  obtain ⟨c0, c1, c2, rfl⟩ := array3 hl
  have some_at : ∀ i, i < 3 → xs[i]? ≠ none := fun i hi => by
    rw [List.getElem?_eq_getElem (by rw [hlen]; exact hi)]; simp
  obtain ⟨a, rfl⟩ := cell_int (by simpa [int_cells] using hf 0 _ rfl) (some_at 0 (by omega))
  obtain ⟨b, rfl⟩ := cell_int (by simpa [int_cells] using hf 1 _ rfl) (some_at 1 (by omega))
  obtain ⟨p, rfl⟩ := cell_int (by simpa [int_cells] using hf 2 _ rfl) (some_at 2 (by omega))
  exact ⟨a, b, p, rfl⟩
set_option maxRecDepth 100000 in
theorem open_ring {b0 : Nat} {v : Value} {d : DataW H} {p : List MemPlace} (hv : Value.okWide Try.prog W .any b0 42 v) (h : DataW.Trod enc Try.prog W 0 (fun _ => true) true 42 v d p) :
    ∃ a b n, v = .agg #[.int .i64 a, .int .i64 b, .int .i64 n] := by
  obtain ⟨cs, rfl, _⟩ := okWide_struct Try.underlying42 hv
  obtain ⟨fuel, hf⟩ := h
  obtain ⟨a, b, n, hc⟩ := ring_open hf
  obtain ⟨l⟩ := cs
  simp only [Value.cells] at hc
  exact ⟨a, b, n, by rw [hc]⟩
end
end Go.Proofs.Ytemnklppplgcoab
/-
  A bridge that comes in as an argument is written out.
-/
namespace Go.Proofs.Ytemnklppplgcoab
open Go.ChangeShapes Go.WideShapes Go.ChangeAt Go.RowKit

theorem bri_cells : Try.prog.cellsOf 44 = 12 := by kernel_rfl
theorem lines_cells : Try.prog.cellsOf 40 = 1 := by kernel_rfl
theorem array12 {cs : List Value} (h : cs.length = 12) : ∃ c0 c1 c2 c3 c4 c5 c6 c7 c8 c9 c10 c11, cs = [c0, c1, c2, c3, c4, c5, c6, c7, c8, c9, c10, c11] := by
  match cs, h with
  | [c0, c1, c2, c3, c4, c5, c6, c7, c8, c9, c10, c11], _ => exact ⟨c0, c1, c2, c3, c4, c5, c6, c7, c8, c9, c10, c11, rfl⟩
section
variable {H : Type} {enc : TypeId × Value → H} {W : World}
set_option maxRecDepth 100000 in
theorem open_bri {b0 : Nat} {v : Value} {d : DataW H} {p : List MemPlace} (hv : Value.okWide Try.prog W .any b0 44 v) (h : DataW.Trod enc Try.prog W 0 (fun _ => true) true 44 v d p) :
    ∃ mo ba op oh ot fe fp fh ft st lo vc l, v = .agg #[.int .i64 mo, .int .i64 ba, vc, .int .i64 op, .int .i64 oh, .int .i64 ot, .bool st, .int .i64 fe, .int .i64 fp, .int .i64 fh, .int .i64 ft, .bool lo] ∧ Ls W vc l := by
  obtain ⟨cs, rfl, _⟩ := okWide_struct Try.underlying44 hv
  obtain ⟨fuel, hf⟩ := h
  obtain ⟨xs, n, _, _, hl, hlen, hf⟩ := DataW.trod_struct Try.underlying44 hf
  rw [bri_cells] at hl
  obtain ⟨l⟩ := cs
  simp only [Value.cells] at hl hf
  obtain ⟨c0, c1, c2, c3, c4, c5, c6, c7, c8, c9, c10, c11, rfl⟩ := array12 hl
  have some_at : ∀ i, i < 8 → ∃ y, xs[i]? = some y := fun i hi => by
    rw [List.getElem?_eq_getElem (by rw [hlen]; exact hi)]; simp
  have ne_at : ∀ i, i < 8 → xs[i]? ≠ none := fun i hi => by
    obtain ⟨y, hy⟩ := some_at i hi; rw [hy]; simp
  obtain ⟨mo, rfl⟩ := cell_int (by simpa [int_cells, bool_cells, lines_cells, ring_cells] using hf 0 _ rfl) (ne_at 0 (by omega))
  obtain ⟨ba, rfl⟩ := cell_int (by simpa [int_cells, bool_cells, lines_cells, ring_cells] using hf 1 _ rfl) (ne_at 1 (by omega))
  obtain ⟨y2, hy2⟩ := some_at 2 (by omega)
  obtain ⟨l, hL⟩ := lines_row (c0 := c2) (x := y2) (by rw [← hy2]; simpa [int_cells, bool_cells, lines_cells, ring_cells] using hf 2 _ rfl)
  obtain ⟨y3, hy3⟩ := some_at 3 (by omega)
  obtain ⟨op, oh, ot, e3⟩ := ring_open (cs := [c3, c4, c5]) (x := y3) (by rw [← hy3]; simpa [int_cells, bool_cells, lines_cells, ring_cells] using hf 3 _ rfl)
  obtain ⟨st, rfl⟩ := cell_bool (by simpa [int_cells, bool_cells, lines_cells, ring_cells] using hf 4 _ rfl) (ne_at 4 (by omega))
  obtain ⟨fe, rfl⟩ := cell_int (by simpa [int_cells, bool_cells, lines_cells, ring_cells] using hf 5 _ rfl) (ne_at 5 (by omega))
  obtain ⟨y6, hy6⟩ := some_at 6 (by omega)
  obtain ⟨fp, fh, ft, e6⟩ := ring_open (cs := [c8, c9, c10]) (x := y6) (by rw [← hy6]; simpa [int_cells, bool_cells, lines_cells, ring_cells] using hf 6 _ rfl)
  obtain ⟨lo, rfl⟩ := cell_bool (by simpa [int_cells, bool_cells, lines_cells, ring_cells] using hf 7 _ rfl) (ne_at 7 (by omega))
  simp only [List.cons.injEq, and_true] at e3 e6
  obtain ⟨rfl, rfl, rfl⟩ := e3
  obtain ⟨rfl, rfl, rfl⟩ := e6
  exact ⟨mo, ba, op, oh, ot, fe, fp, fh, ft, st, lo, c2, l, rfl, hL⟩
end
end Go.Proofs.Ytemnklppplgcoab
/-
  A fault that comes in as an argument is written out.
-/
namespace Go.Proofs.Ytemnklppplgcoab
open Go.ChangeShapes Go.WideShapes Go.ChangeAt Go.RowKit

theorem flt_cells : Try.prog.cellsOf 25 = 4 := by kernel_rfl
section
variable {H : Type} {enc : TypeId × Value → H} {W : World}
set_option maxRecDepth 100000 in
theorem open_flt {b0 : Nat} {v : Value} {d : DataW H} {p : List MemPlace} (hv : Value.okWide Try.prog W .any b0 25 v) (h : DataW.Trod enc Try.prog W 0 (fun _ => true) true 25 v d p) :
    ∃ a b c e, v = .agg #[.int .i64 a, .int .i64 b, .int .i64 c, .bool e] := by
  obtain ⟨cs, rfl, _⟩ := okWide_struct Try.underlying25 hv
  obtain ⟨fuel, hf⟩ := h
  obtain ⟨xs, n, _, _, hl, hlen, hf⟩ := DataW.trod_struct Try.underlying25 hf
  rw [flt_cells] at hl
  obtain ⟨l⟩ := cs
  simp only [Value.cells] at hl hf
  obtain ⟨c0, c1, c2, c3, rfl⟩ := array4 hl
  have some_at : ∀ i, i < 4 → xs[i]? ≠ none := fun i hi => by
    rw [List.getElem?_eq_getElem (by rw [hlen]; exact hi)]; simp
  obtain ⟨a, rfl⟩ := cell_int (by simpa [int_cells] using hf 0 _ rfl) (some_at 0 (by omega))
  obtain ⟨b, rfl⟩ := cell_int (by simpa [int_cells] using hf 1 _ rfl) (some_at 1 (by omega))
  obtain ⟨c, rfl⟩ := cell_int (by simpa [int_cells] using hf 2 _ rfl) (some_at 2 (by omega))
  obtain ⟨e, rfl⟩ := cell_bool (by simpa [bool_cells] using hf 3 _ rfl) (some_at 3 (by omega))
  exact ⟨a, b, c, e, rfl⟩
end
end Go.Proofs.Ytemnklppplgcoab
