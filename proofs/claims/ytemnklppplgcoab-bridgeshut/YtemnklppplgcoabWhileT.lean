/-
  Package bridge: whileOn by the tables.
-/
import Derived.Test.YtemnklppplgcoabWhileOn
namespace Go.Proofs.Ytemnklppplgcoab
open Go.RowKit

set_option maxHeartbeats 4000000 in
/-- By the tables. -/
theorem whileOn_table (v : Value) (zs : List Int) (mo ba op oh ot fe fp fh ft : Int) (st lo : Bool) (vc : Value) (l : List Ln) (d p : Int) (wr : Bool) (w : World) (hs : Sl w v zs) (h : Ls w vc l) (hk : chk zs = 0) (hc : chkC l = 0) (hba : 0 ≤ ba ∧ ba ≤ 63) (hd : 0 ≤ d ∧ d ≤ 7) (hp : 0 ≤ p ∧ p ≤ 63) (hf : ¬ 0 ≤ fndC l d p) :
    Calls Try.prog 52 #[.agg #[v], .agg #[.int .i64 mo, .int .i64 ba, vc, .int .i64 op, .int .i64 oh, .int .i64 ot, .bool st, .int .i64 fe, .int .i64 fp, .int .i64 fh, .int .i64 ft, .bool lo], .int .i64 d, .int .i64 p, .bool wr] w fun e w' =>
      ∃ vc1 l1 k f, e = .returned (.tuple #[.agg #[.int .i64 mo, .int .i64 ba, vc1, .int .i64 op, .int .i64 oh, .int .i64 ot, .bool st, .int .i64 fe, .int .i64 fp, .int .i64 fh, .int .i64 ft, .bool lo], .int .i64 k, .int .i64 f]) ∧ byT zs ⟨mo, ba, l, op, oh, ot, st, fe, fp, fh, ft, lo⟩ d p wr = (⟨mo, ba, l1, op, oh, ot, st, fe, fp, fh, ft, lo⟩, k, f) ∧ Ls w' vc1 l1 ∧ Below w.heap.size w w' := by
  have HFN : Hid (fndC l d p < 0) := show _ < _ by omega
  have HS : Hid (Ls w vc l) := h
  obtain ⟨va, vk, rfl, -⟩ := h.shape
  have HM : Hid (Sl w v zs) := hs
  obtain ⟨b, o, cap, rfl, hb, hcs⟩ := hs.open512 (chk_ok hk).1
  obtain ⟨ba0, ba1⟩ := hba
  obtain ⟨d0, d1⟩ := hd
  have gk := hcs (ba * 8 + d).toNat (by omega)
  obtain ⟨z, hz⟩ : ∃ z, nth zs (ba * 8 + d).toNat = z := ⟨_, rfl⟩
  rw [hz] at gk
  have HZ : Hid (ctxW zs ⟨mo, ba, l, op, oh, ot, st, fe, fp, fh, ft, lo⟩ d = z) := by show _ = _; rw [← hz, ctxW, Int.mul_comm]
  have HK : Hid (chk zs = 0) := hk
  have HC : Hid (chkC l = 0) := hc
  have HP : Hid (0 ≤ p ∧ p ≤ 63) := hp
  have HD : Hid (0 ≤ d ∧ d ≤ 7) := ⟨d0, d1⟩
  have k0 : 0 ≤ ba * 8 + d := by omega
  have k1 : ba * 8 + d < 512 := by omega
  clear h hs hcs hz hk hc hp
  go_enter Try.func52, Try.ntmps52
  go_wp2_with fail
  refine (cFind_any _ l d p _ (HS.out.keep (bel_alloc (bel_alloc (bel_alloc (Below.refl _ _) _) _) _))).mono ?_
  rintro e w1 ⟨rfl, b1⟩
  have X0 := (((Box.newAt (n := w.heap.size) rfl 39 #[.slice (some ⟨b, o, none⟩) 512 cap]).past _).past _).keep b1
  have X1 := ((Box.newAt (n := w.heap.size + 1) (by simp) 44 #[.int .i64 mo, .int .i64 ba, .slice va l.length vk, .int .i64 op, .int .i64 oh, .int .i64 ot, .bool st, .int .i64 fe, .int .i64 fp, .int .i64 fh, .int .i64 ft, .bool lo]).past _).keep b1
  have X2 := (Box.newAt (n := w.heap.size + 1 + 1) (by simp) 44 #[.int .i64 0, .int .i64 0, .slice none 0 0, .int .i64 0, .int .i64 0, .int .i64 0, .bool false, .int .i64 0, .int .i64 0, .int .i64 0, .int .i64 0, .bool false]).keep b1
  have B1 : Hid (Below w.heap.size w w1) := bel_trans (bel_alloc (bel_alloc (bel_alloc (Below.refl _ _) _) _) _) b1
  clear b1
  obtain ⟨qm, -, s0⟩ := X0.one
  obtain ⟨⟨q0, q1, q2, q3, q4, q5, q6, q7, q8, q9, q10, q11⟩, s1⟩ := X1.twelve
  obtain ⟨⟨u0, u1, u2, u3, u4, u5, u6, u7, u8, u9, u10, u11⟩, s2⟩ := X2.twelve
  obtain ⟨y0, y1, y2, y3, y4, y5, y6, y7, y8, y9, y10, y11⟩ := X2.marks
  rw [← B1.out.cell (p := ⟨b, o + (ba * 8 + d).toNat, none⟩) hb] at gk
  have hb1 : b < w1.heap.size := Nat.lt_of_lt_of_le hb B1.out.size
  have hfn : (decide (0 ≤ fndC l d p)) = false := by simpa using hf
  go_wp2_with fail
  refine (eReadContext_any z _).mono ?_
  rintro e w2 ⟨rfl, b2⟩
  clear q0 q1 q2 q3 q4 q5 q6 q7 q8 q9 q10 q11 u0 u1 u2 u3 u4 u5 u6 u7 u8 u9 u10 u11 y0 y1 y2 y3 y4 y5 y6 y7 y8 y9 y10 y11 s1 s2
  clear qm s0 gk hb1 hb k0 k1
  have X0 := X0.keep b2
  have X1 := X1.keep b2
  have X2 := X2.keep b2
  have B2 : Hid (Below w.heap.size w w2) := bel_trans B1.out b2
  clear b2 B1
  obtain ⟨qm, -, s0⟩ := X0.one
  obtain ⟨⟨q0, q1, q2, q3, q4, q5, q6, q7, q8, q9, q10, q11⟩, s1⟩ := X1.twelve
  obtain ⟨⟨u0, u1, u2, u3, u4, u5, u6, u7, u8, u9, u10, u11⟩, s2⟩ := X2.twelve
  obtain ⟨y0, y1, y2, y3, y4, y5, y6, y7, y8, y9, y10, y11⟩ := X2.marks
  have BX := B2
  cases hv : vC z
  · have HT : Hid (byT zs ⟨mo, ba, l, op, oh, ot, st, fe, fp, fh, ft, lo⟩ d p wr = (⟨mo, ba, l, op, oh, ot, st, fe, fp, fh, ft, lo⟩, 0, 2)) := by show _ = _; rw [byT, HZ.out, hv]; rfl
    cases ho : okC z
    all_goals
      go_wp2
      refine bodyPost_ret (v := .tuple #[.agg #[.int .i64 mo, .int .i64 ba, .slice va l.length vk, .int .i64 op, .int .i64 oh, .int .i64 ot, .bool st, .int .i64 fe, .int .i64 fp, .int .i64 fh, .int .i64 ft, .bool lo], .int .i64 0, .int .i64 2]) (by simp [results, Try.results52, go_sem, *]) rfl ⟨_, _, _, _, rfl, HT.out, HS.out.keep ?_, ?_⟩
      all_goals (repeat (first | with_reducible exact BX.out | with_reducible refine bel_alloc ?_ _ | (with_reducible refine bel_set12 ?_ ?_ _ _ _ _ _ _ _ _ _ _ _ _; (focus omega))))
  have ho : okC z = true := by
    cases ho : okC z
    · simp [vC, ho] at hv
    · rfl
  cases ha : aC z
  rotate_left
  · have HT : Hid (byT zs ⟨mo, ba, l, op, oh, ot, st, fe, fp, fh, ft, lo⟩ d p wr = (⟨mo, ba, l, op, oh, ot, st, fe, fp, fh, ft, lo⟩, p, 0)) := by show _ = _; rw [byT, HZ.out, if_pos hv, if_pos ha]
    go_wp2
    refine bodyPost_ret (v := .tuple #[.agg #[.int .i64 mo, .int .i64 ba, .slice va l.length vk, .int .i64 op, .int .i64 oh, .int .i64 ot, .bool st, .int .i64 fe, .int .i64 fp, .int .i64 fh, .int .i64 ft, .bool lo], .int .i64 p, .int .i64 0]) (by simp [results, Try.results52, go_sem, *]) rfl ⟨_, _, _, _, rfl, HT.out, HS.out.keep ?_, ?_⟩
    all_goals (repeat (first | with_reducible exact BX.out | with_reducible refine bel_alloc ?_ _ | (with_reducible refine bel_set12 ?_ ?_ _ _ _ _ _ _ _ _ _ _ _ _; (focus omega))))
  have HA : Hid (¬ aC z = true) := by show ¬ _; rw [ha]; decide
  have HV : Hid (vC z = true) := hv
  rcases wkd_two (wr := wr) HK.out (pC_page z) (page_of HP.out) with ⟨f, hff, hwk⟩ | ⟨x, a, haa, hx, hwk⟩
  · have HT : Hid (byT zs ⟨mo, ba, l, op, oh, ot, st, fe, fp, fh, ft, lo⟩ d p wr = (⟨mo, ba, l, op, oh, ot, st, fe, fp, fh, ft, lo⟩, 0, f)) := by
      show _ = _; rw [byT, HZ.out, if_pos HV.out, if_neg HA.out, hwk]; exact if_neg (show ¬ f = 0 by omega)
    have hfq : (f != 0) = true := by simp; omega
    have HW : Hid (_ = _) := hwk
    clear hwk hff
    go_wp2_with fail
    refine (walk_at HW.out (HM.out.keep (bel_alloc B2.out _))).mono ?_
    rintro e w3 ⟨rfl, b3⟩
    clear q0 q1 q2 q3 q4 q5 q6 q7 q8 q9 q10 q11 u0 u1 u2 u3 u4 u5 u6 u7 u8 u9 u10 u11 y0 y1 y2 y3 y4 y5 y6 y7 y8 y9 y10 y11 s1 s2
    clear qm s0
    have X1 := (X1.past _).keep b3
    have X2 := (X2.past _).keep b3
    have B3 : Hid (Below w.heap.size w w3) := bel_trans (bel_alloc B2.out _) b3
    clear b3 B2
    have BX := B3
    obtain ⟨⟨q0, q1, q2, q3, q4, q5, q6, q7, q8, q9, q10, q11⟩, s1⟩ := X1.twelve
    obtain ⟨⟨u0, u1, u2, u3, u4, u5, u6, u7, u8, u9, u10, u11⟩, s2⟩ := X2.twelve
    obtain ⟨y0, y1, y2, y3, y4, y5, y6, y7, y8, y9, y10, y11⟩ := X2.marks
    go_wp2
    refine bodyPost_ret (v := .tuple #[.agg #[.int .i64 mo, .int .i64 ba, .slice va l.length vk, .int .i64 op, .int .i64 oh, .int .i64 ot, .bool st, .int .i64 fe, .int .i64 fp, .int .i64 fh, .int .i64 ft, .bool lo], .int .i64 0, .int .i64 f]) (by simp [results, Try.results52, go_sem, *]) rfl ⟨_, _, _, _, rfl, HT.out, HS.out.keep ?_, ?_⟩
    all_goals (repeat (first | with_reducible exact BX.out | with_reducible refine bel_alloc ?_ _ | (with_reducible refine bel_set12 ?_ ?_ _ _ _ _ _ _ _ _ _ _ _ _; (focus omega))))
  obtain ⟨c, hfc⟩ : ∃ c, flC l (d, p, a, true, x) = c := ⟨_, rfl⟩
  have HT : Hid (byT zs ⟨mo, ba, l, op, oh, ot, st, fe, fp, fh, ft, lo⟩ d p wr = (⟨mo, ba, c, op, oh, ot, st, fe, fp, fh, ft, lo⟩, a, 0)) := by
    show _ = _; rw [byT, HZ.out, if_pos HV.out, if_neg HA.out, hwk]; simp only [if_true, hfc]; rfl
  have HF : Hid (flE l (d, p, a, true, x) = 0) := fl_ok HC.out HD.out HP.out haa (by have := HFN.out; omega)
  have HFC : Hid (flC l (d, p, a, true, x) = c) := hfc
  have HW : Hid (_ = _) := hwk
  clear hwk hx haa hfc
  go_wp2_with fail
  refine (walk_at HW.out (HM.out.keep (bel_alloc B2.out _))).mono ?_
  rintro e w3 ⟨rfl, b3⟩
  clear q0 q1 q2 q3 q4 q5 q6 q7 q8 q9 q10 q11 u0 u1 u2 u3 u4 u5 u6 u7 u8 u9 u10 u11 y0 y1 y2 y3 y4 y5 y6 y7 y8 y9 y10 y11 s1 s2
  clear qm s0
  have X1 := (X1.past _).keep b3
  have X2 := (X2.past _).keep b3
  have B3 : Hid (Below w.heap.size w w3) := bel_trans (bel_alloc B2.out _) b3
  clear b3 B2
  obtain ⟨⟨q0, q1, q2, q3, q4, q5, q6, q7, q8, q9, q10, q11⟩, s1⟩ := X1.twelve
  obtain ⟨⟨u0, u1, u2, u3, u4, u5, u6, u7, u8, u9, u10, u11⟩, s2⟩ := X2.twelve
  obtain ⟨y0, y1, y2, y3, y4, y5, y6, y7, y8, y9, y10, y11⟩ := X2.marks
  go_wp2_with fail
  refine (fill_at (HS.out.keep (bel_alloc B3.out _)) HF.out HFC.out).mono ?_
  rintro e w4 ⟨b', cap', rfl, hS4, b4⟩
  have n2 : ¬ w3.heap.size = w.heap.size + 1 + 1 := by omega
  have n1 : ¬ w3.heap.size = w.heap.size + 1 := by omega
  clear q0 q1 q2 q3 q4 q5 q6 q7 q8 q9 q10 q11 u0 u1 u2 u3 u4 u5 u6 u7 u8 u9 u10 u11 y0 y1 y2 y3 y4 y5 y6 y7 y8 y9 y10 y11 s1 s2
  have X1 := (X1.past _).keep b4
  have X2 := (X2.past _).keep b4
  have X3 := (Box.newAt (w := w3) rfl 92 #[.bool true, .bool true, .bool x, .bool true, .int .i64 a]).keep b4
  have B4 : Hid (Below w.heap.size w w4) := bel_trans (bel_alloc B3.out _) b4
  clear b4 B3
  have AP1 : Hid (Apart _ _ _) := hS4.apart X1
  have AP2 : Hid (Apart _ _ _) := hS4.apart X2
  have H4 : Hid (Ls _ _ _) := hS4
  clear hS4
  obtain ⟨⟨q0, q1, q2, q3, q4, q5, q6, q7, q8, q9, q10, q11⟩, s1⟩ := X1.twelve
  obtain ⟨⟨u0, u1, u2, u3, u4, u5, u6, u7, u8, u9, u10, u11⟩, s2⟩ := X2.twelve
  obtain ⟨y0, y1, y2, y3, y4, y5, y6, y7, y8, y9, y10, y11⟩ := X2.marks
  obtain ⟨-, -, z2, -⟩ := X1.marks
  have e4 : w4.cell? ⟨w3.heap.size, 4, none⟩ = some (.int .i64 a) := X3.cell 4
  have s3 := X3.lt
  go_wp2
  go_region
  go_wp2
  refine bodyPost_ret (v := .tuple #[.agg #[.int .i64 mo, .int .i64 ba, .slice b' c.length cap', .int .i64 op, .int .i64 oh, .int .i64 ot, .bool st, .int .i64 fe, .int .i64 fp, .int .i64 fh, .int .i64 ft, .bool lo], .int .i64 a, .int .i64 0]) (by simp [results, Try.results52, go_sem, *]) rfl ⟨_, _, _, _, rfl, HT.out, ?_, ?_⟩
  · (repeat (first | with_reducible exact H4.out | with_reducible refine Ls.drew ?_ | with_reducible refine Ls.put12 ?_ AP2.out _ _ _ _ _ _ _ _ _ _ _ _ | with_reducible refine Ls.putAt ?_ AP1.out _ _))
  · (repeat (first | with_reducible exact B4.out | with_reducible refine Below.drew ?_ | (with_reducible refine bel_set12 ?_ ?_ _ _ _ _ _ _ _ _ _ _ _ _; (focus omega)) | (with_reducible refine bel_set ?_ ?_ _; (focus (dsimp only; omega)))))
end Go.Proofs.Ytemnklppplgcoab
