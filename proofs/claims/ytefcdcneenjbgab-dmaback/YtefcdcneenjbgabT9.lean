/-
  Laid together: WhileT, CopyN, Through, Word1, Word2, Word3.
-/
import Derived.Test.YtefcdcneenjbgabT8
/-
  Package bridge: whileOn by the tables.
-/
namespace Go.Proofs.Ytefcdcneenjbgab
open Go.RowKit

set_option maxHeartbeats 4000000 in
/-- By the tables. -/
theorem whileOn_table (v : Value) (zs : List Int) (mo ba op oh ot fe fp fh ft : Int) (st lo : Bool) (vc : Value) (l : List Ln) (d p : Int) (wr : Bool) (w : World) (hs : Sl w v zs) (h : Ls w vc l) (hk : chk zs = 0) (hc : chkC l = 0) (hba : 0 ≤ ba ∧ ba ≤ 63) (hd : 0 ≤ d ∧ d ≤ 7) (hp : 0 ≤ p ∧ p ≤ 63) (hf : ¬ 0 ≤ fndC l d p) :
    Calls Try.prog 63 #[.agg #[v], .agg #[.int .i64 mo, .int .i64 ba, vc, .int .i64 op, .int .i64 oh, .int .i64 ot, .bool st, .int .i64 fe, .int .i64 fp, .int .i64 fh, .int .i64 ft, .bool lo], .int .i64 d, .int .i64 p, .bool wr] w fun e w' =>
      ∃ vc1 l1 k f, e = .returned (.tuple #[.agg #[.int .i64 mo, .int .i64 ba, vc1, .int .i64 op, .int .i64 oh, .int .i64 ot, .bool st, .int .i64 fe, .int .i64 fp, .int .i64 fh, .int .i64 ft, .bool lo], .int .i64 k, .int .i64 f]) ∧ byT zs ⟨mo, ba, l, op, oh, ot, st, fe, fp, fh, ft, lo⟩ d p wr = (⟨mo, ba, l1, op, oh, ot, st, fe, fp, fh, ft, lo⟩, k, f) ∧ Ls w' vc1 l1 ∧ Below w.heap.size w w' ∧ ∀ N, N ≤ w.heap.size → Fresh N vc → Fresh N vc1 := by
  have HFN : Hid (fndC l d p < 0) := show _ < _ by omega
  have HS : Hid (Ls w vc l) := h
  obtain ⟨va, vk, rfl, -⟩ := h.shape
  have HM : Hid (Sl w v zs) := hs
  obtain ⟨b, o, cap, rfl, hb, hcs⟩ := hs.open512 (chk_ok hk).1
  obtain ⟨ba0, ba1⟩ := hba
  obtain ⟨d0, d1⟩ := hd
  have gk := hcs (ba * 8 + d).toNat (by omega)
  obtain ⟨z, hz⟩ : ∃ z, nth zs (ba * 8 + d).toNat = z := ⟨_, rfl⟩
  rw [hz] at gk
  have HZ : Hid (ctxW zs ⟨mo, ba, l, op, oh, ot, st, fe, fp, fh, ft, lo⟩ d = z) := by show _ = _; rw [← hz, ctxW, Int.mul_comm]
  have HK : Hid (chk zs = 0) := hk
  have HC : Hid (chkC l = 0) := hc
  have HP : Hid (0 ≤ p ∧ p ≤ 63) := hp
  have HD : Hid (0 ≤ d ∧ d ≤ 7) := ⟨d0, d1⟩
  have k0 : 0 ≤ ba * 8 + d := by omega
  have k1 : ba * 8 + d < 512 := by omega
  clear h hs hcs hz hk hc hp
  go_enter Try.func63, Try.ntmps63
  go_wp2_with fail
  refine (cFind_any _ l d p _ (HS.out.keep (bel_alloc (bel_alloc (bel_alloc (Below.refl _ _) _) _) _))).mono ?_
  rintro e w1 ⟨rfl, b1⟩
  have X0 := (((Box.newAt (n := w.heap.size) rfl 39 #[.slice (some ⟨b, o, none⟩) 512 cap]).past _).past _).keep b1
  have X1 := ((Box.newAt (n := w.heap.size + 1) (by simp) 44 #[.int .i64 mo, .int .i64 ba, .slice va l.length vk, .int .i64 op, .int .i64 oh, .int .i64 ot, .bool st, .int .i64 fe, .int .i64 fp, .int .i64 fh, .int .i64 ft, .bool lo]).past _).keep b1
  have X2 := (Box.newAt (n := w.heap.size + 1 + 1) (by simp) 44 #[.int .i64 0, .int .i64 0, .slice none 0 0, .int .i64 0, .int .i64 0, .int .i64 0, .bool false, .int .i64 0, .int .i64 0, .int .i64 0, .int .i64 0, .bool false]).keep b1
  have B1 : Hid (Below w.heap.size w w1) := bel_trans (bel_alloc (bel_alloc (bel_alloc (Below.refl _ _) _) _) _) b1
  clear b1
  obtain ⟨qm, -, s0⟩ := X0.one
  obtain ⟨⟨q0, q1, q2, q3, q4, q5, q6, q7, q8, q9, q10, q11⟩, s1⟩ := X1.twelve
  obtain ⟨⟨u0, u1, u2, u3, u4, u5, u6, u7, u8, u9, u10, u11⟩, s2⟩ := X2.twelve
  obtain ⟨y0, y1, y2, y3, y4, y5, y6, y7, y8, y9, y10, y11⟩ := X2.marks
  rw [← B1.out.cell (p := ⟨b, o + (ba * 8 + d).toNat, none⟩) hb] at gk
  have hb1 : b < w1.heap.size := Nat.lt_of_lt_of_le hb B1.out.size
  have hfn : (decide (0 ≤ fndC l d p)) = false := by simpa using hf
  go_wp2_with fail
  refine (eReadContext_any z _).mono ?_
  rintro e w2 ⟨rfl, b2⟩
  clear q0 q1 q2 q3 q4 q5 q6 q7 q8 q9 q10 q11 u0 u1 u2 u3 u4 u5 u6 u7 u8 u9 u10 u11 y0 y1 y2 y3 y4 y5 y6 y7 y8 y9 y10 y11 s1 s2
  clear qm s0 gk hb1 hb k0 k1
  have X0 := X0.keep b2
  have X1 := X1.keep b2
  have X2 := X2.keep b2
  have B2 : Hid (Below w.heap.size w w2) := bel_trans B1.out b2
  clear b2 B1
  obtain ⟨qm, -, s0⟩ := X0.one
  obtain ⟨⟨q0, q1, q2, q3, q4, q5, q6, q7, q8, q9, q10, q11⟩, s1⟩ := X1.twelve
  obtain ⟨⟨u0, u1, u2, u3, u4, u5, u6, u7, u8, u9, u10, u11⟩, s2⟩ := X2.twelve
  obtain ⟨y0, y1, y2, y3, y4, y5, y6, y7, y8, y9, y10, y11⟩ := X2.marks
  have BX := B2
  cases hv : vC z
  · have HT : Hid (byT zs ⟨mo, ba, l, op, oh, ot, st, fe, fp, fh, ft, lo⟩ d p wr = (⟨mo, ba, l, op, oh, ot, st, fe, fp, fh, ft, lo⟩, 0, 2)) := by show _ = _; rw [byT, HZ.out, hv]; rfl
    cases ho : okC z
    all_goals
      go_wp2
      refine bodyPost_ret (v := .tuple #[.agg #[.int .i64 mo, .int .i64 ba, .slice va l.length vk, .int .i64 op, .int .i64 oh, .int .i64 ot, .bool st, .int .i64 fe, .int .i64 fp, .int .i64 fh, .int .i64 ft, .bool lo], .int .i64 0, .int .i64 2]) (by simp [results, Try.results63, go_sem, *]) rfl ⟨_, _, _, _, rfl, HT.out, HS.out.keep ?_, ?_, fun _ _ h => h⟩
      all_goals (repeat (first | with_reducible exact BX.out | with_reducible refine bel_alloc ?_ _ | (with_reducible refine bel_set12 ?_ ?_ _ _ _ _ _ _ _ _ _ _ _ _; (focus omega))))
  have ho : okC z = true := by
    cases ho : okC z
    · simp [vC, ho] at hv
    · rfl
  cases ha : aC z
  rotate_left
  · have HT : Hid (byT zs ⟨mo, ba, l, op, oh, ot, st, fe, fp, fh, ft, lo⟩ d p wr = (⟨mo, ba, l, op, oh, ot, st, fe, fp, fh, ft, lo⟩, p, 0)) := by show _ = _; rw [byT, HZ.out, if_pos hv, if_pos ha]
    go_wp2
    refine bodyPost_ret (v := .tuple #[.agg #[.int .i64 mo, .int .i64 ba, .slice va l.length vk, .int .i64 op, .int .i64 oh, .int .i64 ot, .bool st, .int .i64 fe, .int .i64 fp, .int .i64 fh, .int .i64 ft, .bool lo], .int .i64 p, .int .i64 0]) (by simp [results, Try.results63, go_sem, *]) rfl ⟨_, _, _, _, rfl, HT.out, HS.out.keep ?_, ?_, fun _ _ h => h⟩
    all_goals (repeat (first | with_reducible exact BX.out | with_reducible refine bel_alloc ?_ _ | (with_reducible refine bel_set12 ?_ ?_ _ _ _ _ _ _ _ _ _ _ _ _; (focus omega))))
  have HA : Hid (¬ aC z = true) := by show ¬ _; rw [ha]; decide
  have HV : Hid (vC z = true) := hv
  rcases wkd_two (wr := wr) HK.out (pC_page z) (page_of HP.out) with ⟨f, hff, hwk⟩ | ⟨x, a, haa, hx, hwk⟩
  · have HT : Hid (byT zs ⟨mo, ba, l, op, oh, ot, st, fe, fp, fh, ft, lo⟩ d p wr = (⟨mo, ba, l, op, oh, ot, st, fe, fp, fh, ft, lo⟩, 0, f)) := by
      show _ = _; rw [byT, HZ.out, if_pos HV.out, if_neg HA.out, hwk]; exact if_neg (show ¬ f = 0 by omega)
    have hfq : (f != 0) = true := by simp; omega
    have HW : Hid (_ = _) := hwk
    clear hwk hff
    go_wp2_with fail
    refine (walk_at HW.out (HM.out.keep (bel_alloc B2.out _))).mono ?_
    rintro e w3 ⟨rfl, b3⟩
    clear q0 q1 q2 q3 q4 q5 q6 q7 q8 q9 q10 q11 u0 u1 u2 u3 u4 u5 u6 u7 u8 u9 u10 u11 y0 y1 y2 y3 y4 y5 y6 y7 y8 y9 y10 y11 s1 s2
    clear qm s0
    have X1 := (X1.past _).keep b3
    have X2 := (X2.past _).keep b3
    have B3 : Hid (Below w.heap.size w w3) := bel_trans (bel_alloc B2.out _) b3
    clear b3 B2
    have BX := B3
    obtain ⟨⟨q0, q1, q2, q3, q4, q5, q6, q7, q8, q9, q10, q11⟩, s1⟩ := X1.twelve
    obtain ⟨⟨u0, u1, u2, u3, u4, u5, u6, u7, u8, u9, u10, u11⟩, s2⟩ := X2.twelve
    obtain ⟨y0, y1, y2, y3, y4, y5, y6, y7, y8, y9, y10, y11⟩ := X2.marks
    go_wp2
    refine bodyPost_ret (v := .tuple #[.agg #[.int .i64 mo, .int .i64 ba, .slice va l.length vk, .int .i64 op, .int .i64 oh, .int .i64 ot, .bool st, .int .i64 fe, .int .i64 fp, .int .i64 fh, .int .i64 ft, .bool lo], .int .i64 0, .int .i64 f]) (by simp [results, Try.results63, go_sem, *]) rfl ⟨_, _, _, _, rfl, HT.out, HS.out.keep ?_, ?_, fun _ _ h => h⟩
    all_goals (repeat (first | with_reducible exact BX.out | with_reducible refine bel_alloc ?_ _ | (with_reducible refine bel_set12 ?_ ?_ _ _ _ _ _ _ _ _ _ _ _ _; (focus omega))))
  obtain ⟨c, hfc⟩ : ∃ c, flC l (d, p, a, true, x) = c := ⟨_, rfl⟩
  have HT : Hid (byT zs ⟨mo, ba, l, op, oh, ot, st, fe, fp, fh, ft, lo⟩ d p wr = (⟨mo, ba, c, op, oh, ot, st, fe, fp, fh, ft, lo⟩, a, 0)) := by
    show _ = _; rw [byT, HZ.out, if_pos HV.out, if_neg HA.out, hwk]; simp only [if_true, hfc]; rfl
  have HF : Hid (flE l (d, p, a, true, x) = 0) := fl_ok HC.out HD.out HP.out haa (by have := HFN.out; omega)
  have HFC : Hid (flC l (d, p, a, true, x) = c) := hfc
  have HW : Hid (_ = _) := hwk
  clear hwk hx haa hfc
  go_wp2_with fail
  refine (walk_at HW.out (HM.out.keep (bel_alloc B2.out _))).mono ?_
  rintro e w3 ⟨rfl, b3⟩
  clear q0 q1 q2 q3 q4 q5 q6 q7 q8 q9 q10 q11 u0 u1 u2 u3 u4 u5 u6 u7 u8 u9 u10 u11 y0 y1 y2 y3 y4 y5 y6 y7 y8 y9 y10 y11 s1 s2
  clear qm s0
  have X1 := (X1.past _).keep b3
  have X2 := (X2.past _).keep b3
  have B3 : Hid (Below w.heap.size w w3) := bel_trans (bel_alloc B2.out _) b3
  clear b3 B2
  obtain ⟨⟨q0, q1, q2, q3, q4, q5, q6, q7, q8, q9, q10, q11⟩, s1⟩ := X1.twelve
  obtain ⟨⟨u0, u1, u2, u3, u4, u5, u6, u7, u8, u9, u10, u11⟩, s2⟩ := X2.twelve
  obtain ⟨y0, y1, y2, y3, y4, y5, y6, y7, y8, y9, y10, y11⟩ := X2.marks
  go_wp2_with fail
  refine (fill_atF (HS.out.keep (bel_alloc B3.out _)) HF.out HFC.out).mono ?_
  rintro e w4 ⟨b', cap', rfl, hS4, hN4, b4⟩
  have HN4 : Hid (Fresh w.heap.size (.slice b' c.length cap')) := hN4.mono (bel_alloc B3.out _).size
  clear hN4
  have n2 : ¬ w3.heap.size = w.heap.size + 1 + 1 := by omega
  have n1 : ¬ w3.heap.size = w.heap.size + 1 := by omega
  clear q0 q1 q2 q3 q4 q5 q6 q7 q8 q9 q10 q11 u0 u1 u2 u3 u4 u5 u6 u7 u8 u9 u10 u11 y0 y1 y2 y3 y4 y5 y6 y7 y8 y9 y10 y11 s1 s2
  have X1 := (X1.past _).keep b4
  have X2 := (X2.past _).keep b4
  have X3 := (Box.newAt (w := w3) rfl 108 #[.bool true, .bool true, .bool x, .bool true, .int .i64 a]).keep b4
  have B4 : Hid (Below w.heap.size w w4) := bel_trans (bel_alloc B3.out _) b4
  clear b4 B3
  have AP1 : Hid (Apart _ _ _) := hS4.apart X1
  have AP2 : Hid (Apart _ _ _) := hS4.apart X2
  have H4 : Hid (Ls _ _ _) := hS4
  clear hS4
  obtain ⟨⟨q0, q1, q2, q3, q4, q5, q6, q7, q8, q9, q10, q11⟩, s1⟩ := X1.twelve
  obtain ⟨⟨u0, u1, u2, u3, u4, u5, u6, u7, u8, u9, u10, u11⟩, s2⟩ := X2.twelve
  obtain ⟨y0, y1, y2, y3, y4, y5, y6, y7, y8, y9, y10, y11⟩ := X2.marks
  obtain ⟨-, -, z2, -⟩ := X1.marks
  have e4 : w4.cell? ⟨w3.heap.size, 4, none⟩ = some (.int .i64 a) := X3.cell 4
  have s3 := X3.lt
  go_wp2
  go_region
  go_wp2
  refine bodyPost_ret (v := .tuple #[.agg #[.int .i64 mo, .int .i64 ba, .slice b' c.length cap', .int .i64 op, .int .i64 oh, .int .i64 ot, .bool st, .int .i64 fe, .int .i64 fp, .int .i64 fh, .int .i64 ft, .bool lo], .int .i64 a, .int .i64 0]) (by simp [results, Try.results63, go_sem, *]) rfl ⟨_, _, _, _, rfl, HT.out, ?_, ?_, fun _ h _ => HN4.out.mono h⟩
  · (repeat (first | with_reducible exact H4.out | with_reducible refine Ls.drew ?_ | with_reducible refine Ls.put12 ?_ AP2.out _ _ _ _ _ _ _ _ _ _ _ _ | with_reducible refine Ls.putAt ?_ AP1.out _ _))
  · (repeat (first | with_reducible exact B4.out | with_reducible refine Below.drew ?_ | (with_reducible refine bel_set12 ?_ ?_ _ _ _ _ _ _ _ _ _ _ _ _; (focus omega)) | (with_reducible refine bel_set ?_ ?_ _; (focus (dsimp only; omega)))))
end Go.Proofs.Ytefcdcneenjbgab
/-
  Package bridge: copyOf's lines lie in new memory.
-/
namespace Go.Proofs.Ytefcdcneenjbgab
open Go.RowKit

set_option maxHeartbeats 2000000 in
theorem copyOf_anyN (mo ba op oh ot fe fp fh ft : Int) (st lo : Bool) (vc : Value) (l : List Ln) (w : World) (h : Ls w vc l) (hn : l.length ≤ 6) :
    Calls Try.prog 62 #[.agg #[.int .i64 mo, .int .i64 ba, vc, .int .i64 op, .int .i64 oh, .int .i64 ot, .bool st, .int .i64 fe, .int .i64 fp, .int .i64 fh, .int .i64 ft, .bool lo]] w fun e w' => ∃ g, w.heap.size ≤ g ∧ e = .returned (.agg #[.int .i64 mo, .int .i64 ba, .slice (some ⟨g, 0, none⟩) l.length l.length, .int .i64 op, .int .i64 oh, .int .i64 ot, .bool st, .int .i64 fe, .int .i64 fp, .int .i64 fh, .int .i64 ft, .bool lo]) ∧ Ls w' (.slice (some ⟨g, 0, none⟩) l.length l.length) l ∧ Below w.heap.size w w' := by
  have HS : Hid (Ls w vc l) := h
  obtain ⟨va, vk, rfl, -⟩ := h.shape
  clear h
  have HN : Hid (l.length ≤ 6) := hn
  obtain ⟨N, hN⟩ : ∃ N, N = l.length := ⟨_, rfl⟩
  have HE : Hid (N = l.length) := hN
  rw [← hN]
  have hN6 : N ≤ 6 := by omega
  have HV : Hid (Ls w (.slice va N vk) l) := by show Ls _ _ _; rw [hN]; exact HS.out
  clear hN hn
  have hW : Below w.heap.size w ((w.alloc (.cells #[.int .i64 mo, .int .i64 ba, .slice va N vk, .int .i64 op, .int .i64 oh, .int .i64 ot, .bool st, .int .i64 fe, .int .i64 fp, .int .i64 fh, .int .i64 ft, .bool lo] 44)).alloc (.cells #[.int .i64 0, .int .i64 0, .slice none 0 0, .int .i64 0, .int .i64 0, .int .i64 0, .bool false, .int .i64 0, .int .i64 0, .int .i64 0, .int .i64 0, .bool false] 44)) := bel_alloc (bel_alloc (Below.refl _ _) _) _
  obtain ⟨cur, hmk, hcs⟩ := makeLines ((w.alloc (.cells #[.int .i64 mo, .int .i64 ba, .slice va N vk, .int .i64 op, .int .i64 oh, .int .i64 ot, .bool st, .int .i64 fe, .int .i64 fp, .int .i64 fh, .int .i64 ft, .bool lo] 44)).alloc (.cells #[.int .i64 0, .int .i64 0, .slice none 0 0, .int .i64 0, .int .i64 0, .int .i64 0, .bool false, .int .i64 0, .int .i64 0, .int .i64 0, .int .i64 0, .bool false] 44)) N hN6
  have hg0 : (((w.alloc (.cells #[.int .i64 mo, .int .i64 ba, .slice va N vk, .int .i64 op, .int .i64 oh, .int .i64 ot, .bool st, .int .i64 fe, .int .i64 fp, .int .i64 fh, .int .i64 ft, .bool lo] 44)).alloc (.cells #[.int .i64 0, .int .i64 0, .slice none 0 0, .int .i64 0, .int .i64 0, .int .i64 0, .bool false, .int .i64 0, .int .i64 0, .int .i64 0, .int .i64 0, .bool false] 44)).alloc (.cells cur 68)).heap[w.heap.size + 1 + 1]? = some (.cells cur 68 (0, 0)) := heap_at (by simp)
  obtain ⟨w3, hcp, hg3, ho3, hs3, hb3⟩ := copyLines _ 3 (.slice va N vk) (w.heap.size + 1 + 1) l cur hg0 (by rw [hcs, HE.out]) (HV.out.keep (bel_alloc hW _))
  rw [← HE.out] at hcp
  have X0 : Box w3 w.heap.size 44 #[.int .i64 mo, .int .i64 ba, .slice va N vk, .int .i64 op, .int .i64 oh, .int .i64 ot, .bool st, .int .i64 fe, .int .i64 fp, .int .i64 fh, .int .i64 ft, .bool lo] := by
    unfold Box; rw [ho3 _ (by omega)]
    exact ((Box.newAt (n := w.heap.size) rfl 44 _).past _).past _
  have X1 : Box w3 (w.heap.size + 1) 44 #[.int .i64 0, .int .i64 0, .slice none 0 0, .int .i64 0, .int .i64 0, .int .i64 0, .bool false, .int .i64 0, .int .i64 0, .int .i64 0, .int .i64 0, .bool false] := by
    unfold Box; rw [ho3 _ (by omega)]
    exact (Box.newAt (n := w.heap.size + 1) (by simp) 44 _).past _
  have B3 : Hid (Below w.heap.size w w3) := (bel_alloc hW _).trans (hb3.mono (by omega))
  obtain ⟨⟨q0, q1, q2, q3, q4, q5, q6, q7, q8, q9, q10, q11⟩, s0⟩ := X0.twelve
  obtain ⟨-, -, z2, -⟩ := X0.marks
  obtain ⟨⟨u0, u1, u2, u3, u4, u5, u6, u7, u8, u9, u10, u11⟩, s1⟩ := X1.twelve
  obtain ⟨y0, y1, y2, y3, y4, y5, y6, y7, y8, y9, y10, y11⟩ := X1.marks
  have HG : Hid _ := hg3
  clear hg3 ho3 hs3 hb3 hg0 hW hcs
  have n1 : ¬ w.heap.size + 1 + 1 = w.heap.size := by omega
  have n2 : ¬ w.heap.size + 1 + 1 = w.heap.size + 1 := by omega
  go_enter Try.func62, Try.ntmps62
  go_wp2
  refine bodyPost_ret (v := .agg #[.int .i64 mo, .int .i64 ba, .slice (some ⟨w.heap.size + 1 + 1, 0, none⟩) N N, .int .i64 op, .int .i64 oh, .int .i64 ot, .bool st, .int .i64 fe, .int .i64 fp, .int .i64 fh, .int .i64 ft, .bool lo]) (by simp [results, Try.results62, go_sem, *]) rfl ⟨_, by omega, rfl, ?_, ?_⟩
  · rw [HE.out]
    refine ls_block ?_ HN.out
    exact (Box.other (p := ⟨w.heap.size, 2, none⟩) HG.out (by dsimp only; omega) _).other12 (by omega) _ _ _ _ _ _ _ _ _ _ _ _
  · exact bel_set12 (by omega) (bel_set (by dsimp only; omega) B3.out _) _ _ _ _ _ _ _ _ _ _ _ _

end Go.Proofs.Ytefcdcneenjbgab
/-
  Package bridge: Through and Plain: what they answer, of anything; nothing that was there turns.
-/
namespace Go.Proofs.Ytefcdcneenjbgab
open Go.RowKit

theorem chkC_len {l : List Ln} (h : chkC l = 0) : l.length ≤ 6 := (chkC_zero.1 h).1

theorem whileOn_any (v : Value) (zs : List Int) (mo ba op oh ot fe fp fh ft : Int) (st lo : Bool) (vc : Value) (l : List Ln) (d p : Int) (wr : Bool) (w : World) (hs : Sl w v zs) (h : Ls w vc l) (hE : thE zs ⟨mo, ba, l, op, oh, ot, st, fe, fp, fh, ft, lo⟩ d p = 0) (hm : mo = 2) :
    Calls Try.prog 63 #[.agg #[v], .agg #[.int .i64 mo, .int .i64 ba, vc, .int .i64 op, .int .i64 oh, .int .i64 ot, .bool st, .int .i64 fe, .int .i64 fp, .int .i64 fh, .int .i64 ft, .bool lo], .int .i64 d, .int .i64 p, .bool wr] w fun e w' =>
      ∃ vc1 l1 k f, e = .returned (.tuple #[.agg #[.int .i64 mo, .int .i64 ba, vc1, .int .i64 op, .int .i64 oh, .int .i64 ot, .bool st, .int .i64 fe, .int .i64 fp, .int .i64 fh, .int .i64 ft, .bool lo], .int .i64 k, .int .i64 f]) ∧ goT zs ⟨mo, ba, l, op, oh, ot, st, fe, fp, fh, ft, lo⟩ d p wr = (⟨mo, ba, l1, op, oh, ot, st, fe, fp, fh, ft, lo⟩, k, f) ∧ Ls w' vc1 l1 ∧ Below w.heap.size w w' ∧ ∀ N, N ≤ w.heap.size → Fresh N vc → Fresh N vc1 := by
  obtain ⟨hk, hb, hd, hp⟩ := thE_ok hE
  obtain ⟨_, g2, _, g4, _, _⟩ := chkB_ok hb
  have hg : ∀ X, goT zs ⟨mo, ba, l, op, oh, ot, st, fe, fp, fh, ft, lo⟩ d p wr = X ↔ (if 0 ≤ fndC l d p then (if (wr && !(lineC l d p).2.2.2.2) = true then (⟨mo, ba, l, op, oh, ot, st, fe, fp, fh, ft, lo⟩, 0, 5) else (⟨mo, ba, l, op, oh, ot, st, fe, fp, fh, ft, lo⟩, (lineC l d p).2.2.1, 0)) else byT zs ⟨mo, ba, l, op, oh, ot, st, fe, fp, fh, ft, lo⟩ d p wr) = X := fun X => by
    rw [goT, if_neg (by show ¬ mo = 0; omega), if_neg (by show ¬ mo = 1; omega)]
  by_cases hf : 0 ≤ fndC l d p
  · refine (whileOn_found v zs mo ba op oh ot fe fp fh ft st lo vc l d p wr w hs h hf).mono ?_
    rintro e w' ⟨rfl, hl, hb⟩
    refine ⟨_, l, _, _, rfl, (hg _).2 ?_, hl, hb, fun _ _ h => h⟩
    rw [if_pos hf]
    cases hq : (wr && !(lineC l d p).2.2.2.2) <;> rfl
  · refine (whileOn_table v zs mo ba op oh ot fe fp fh ft st lo vc l d p wr w hs h hk g4 g2 hd hp hf).mono ?_
    rintro e w' ⟨vc1, l1, k, f, rfl, hT, hl, hb, hN⟩
    exact ⟨vc1, l1, k, f, rfl, (hg _).2 (by rw [if_neg hf]; exact hT), hl, hb, hN⟩

theorem whoB_ways (d p : Int) : (whoB d p = true ∧ stepR d = true ∧ pageR p = true) ∨ (whoB d p = false ∧ (stepR d = false ∨ (stepR d = true ∧ pageR p = false))) := by
  simp only [whoB, stepR, pageR]
  by_cases h1 : 0 ≤ d ∧ d < 8
  · by_cases h2 : 0 ≤ p ∧ p < 64
    · exact .inl ⟨by simp; omega, by simp [h1], by simp [h2]⟩
    · exact .inr ⟨by simp; omega, .inr ⟨by simp [h1], by simpa using h2⟩⟩
  · exact .inr ⟨by simp; omega, .inl (by simpa using h1)⟩

/-- What comes out of Through, as letters. -/
abbrev ThOut (zs : List Int) (b : Br) (d p : Int) (wr : Bool) (w : World) (e : Ending) (w' : World) : Prop :=
  ∃ mo1 ba1 op1 oh1 ot1 fe1 fp1 fh1 ft1 st1 lo1 va1 vk1 l1 k f, e = .returned (.tuple #[.agg #[.int .i64 mo1, .int .i64 ba1, .slice va1 l1.length vk1, .int .i64 op1, .int .i64 oh1, .int .i64 ot1, .bool st1, .int .i64 fe1, .int .i64 fp1, .int .i64 fh1, .int .i64 ft1, .bool lo1], .int .i64 k, .int .i64 f, .int .i64 (thE zs b d p)]) ∧ thR zs b d p wr = (⟨mo1, ba1, l1, op1, oh1, ot1, st1, fe1, fp1, fh1, ft1, lo1⟩, k, f) ∧ Ls w' (.slice va1 l1.length vk1) l1 ∧ Below w.heap.size w w'

/-- The same, and that the lines lie in new memory. -/
abbrev ThOutF (zs : List Int) (b : Br) (d p : Int) (wr : Bool) (w : World) (e : Ending) (w' : World) : Prop :=
  ∃ mo1 ba1 op1 oh1 ot1 fe1 fp1 fh1 ft1 st1 lo1 va1 vk1 l1 k f, e = .returned (.tuple #[.agg #[.int .i64 mo1, .int .i64 ba1, .slice va1 l1.length vk1, .int .i64 op1, .int .i64 oh1, .int .i64 ot1, .bool st1, .int .i64 fe1, .int .i64 fp1, .int .i64 fh1, .int .i64 ft1, .bool lo1], .int .i64 k, .int .i64 f, .int .i64 (thE zs b d p)]) ∧ thR zs b d p wr = (⟨mo1, ba1, l1, op1, oh1, ot1, st1, fe1, fp1, fh1, ft1, lo1⟩, k, f) ∧ Ls w' (.slice va1 l1.length vk1) l1 ∧ Below w.heap.size w w' ∧ Fresh w.heap.size (.slice va1 l1.length vk1)

set_option maxHeartbeats 4000000 in
theorem through_anyF (v : Value) (zs : List Int) (mo ba op oh ot fe fp fh ft : Int) (st lo : Bool) (vc : Value) (l : List Ln) (d p : Int) (wr : Bool) (w : World) (hs : Sl w v zs) (h : Ls w vc l) :
    Calls Try.prog 24 #[.agg #[v], .agg #[.int .i64 mo, .int .i64 ba, vc, .int .i64 op, .int .i64 oh, .int .i64 ot, .bool st, .int .i64 fe, .int .i64 fp, .int .i64 fh, .int .i64 ft, .bool lo], .int .i64 d, .int .i64 p, .bool wr] w fun e w' => ThOutF zs ⟨mo, ba, l, op, oh, ot, st, fe, fp, fh, ft, lo⟩ d p wr w e w' := by
  have HS : Hid (Ls w vc l) := h
  obtain ⟨va, vk, rfl, -⟩ := h.shape
  have HM : Hid (Sl w v zs) := hs
  obtain ⟨ma, mc, rfl⟩ := hs.shape
  clear h hs
  go_enter Try.func24, Try.ntmps24
  go_wp2_with fail
  refine (checkBothB_any _ zs mo ba op oh ot fe fp fh ft st lo (.slice va l.length vk) l _ (HM.out.keep (bel_alloc (bel_alloc (bel_alloc (Below.refl _ _) _) _) _)) (HS.out.keep (bel_alloc (bel_alloc (bel_alloc (Below.refl _ _) _) _) _))).mono ?_
  rintro e w1 ⟨rfl, b1⟩
  have X0 := (((Box.newAt (n := w.heap.size) rfl 39 #[.slice ma zs.length mc]).past _).past _).keep b1
  have X1 := ((Box.newAt (n := w.heap.size + 1) (by simp) 44 #[.int .i64 mo, .int .i64 ba, .slice va l.length vk, .int .i64 op, .int .i64 oh, .int .i64 ot, .bool st, .int .i64 fe, .int .i64 fp, .int .i64 fh, .int .i64 ft, .bool lo]).past _).keep b1
  have X2 := (Box.newAt (n := w.heap.size + 1 + 1) (by simp) 44 #[.int .i64 0, .int .i64 0, .slice none 0 0, .int .i64 0, .int .i64 0, .int .i64 0, .bool false, .int .i64 0, .int .i64 0, .int .i64 0, .int .i64 0, .bool false]).keep b1
  have B1 : Hid (Below w.heap.size w w1) := bel_trans (bel_alloc (bel_alloc (bel_alloc (Below.refl _ _) _) _) _) b1
  clear b1
  obtain ⟨qm, -, s0⟩ := X0.one
  obtain ⟨⟨q0, q1, q2, q3, q4, q5, q6, q7, q8, q9, q10, q11⟩, s1⟩ := X1.twelve
  obtain ⟨⟨u0, u1, u2, u3, u4, u5, u6, u7, u8, u9, u10, u11⟩, s2⟩ := X2.twelve
  obtain ⟨y0, y1, y2, y3, y4, y5, y6, y7, y8, y9, y10, y11⟩ := X2.marks
  by_cases hk : bothB zs ⟨mo, ba, l, op, oh, ot, st, fe, fp, fh, ft, lo⟩ = 0
  rotate_left
  · have HE : Hid (thE zs ⟨mo, ba, l, op, oh, ot, st, fe, fp, fh, ft, lo⟩ d p = bothB zs ⟨mo, ba, l, op, oh, ot, st, fe, fp, fh, ft, lo⟩) := if_neg hk
    have HR : Hid (thR zs ⟨mo, ba, l, op, oh, ot, st, fe, fp, fh, ft, lo⟩ d p wr = (B0, 0, 0)) := if_neg (by rw [HE.out]; exact hk)
    generalize bothB zs ⟨mo, ba, l, op, oh, ot, st, fe, fp, fh, ft, lo⟩ = E at *
    have hq : (E != 0) = true := by simpa using hk
    go_wp2
    refine bodyPost_ret (v := .tuple #[.agg #[.int .i64 0, .int .i64 0, .slice none 0 0, .int .i64 0, .int .i64 0, .int .i64 0, .bool false, .int .i64 0, .int .i64 0, .int .i64 0, .int .i64 0, .bool false], .int .i64 0, .int .i64 0, .int .i64 E]) (by simp [results, Try.results24, go_sem, *]) rfl ⟨_, _, _, _, _, _, _, _, _, _, _, _, _, [], _, _, by rw [HE.out]; rfl, HR.out, Ls.nothing _, ?_, Fresh.none _ _ _⟩
    (repeat (first | with_reducible exact B1.out | with_reducible refine bel_alloc ?_ _ | (with_reducible refine bel_set12 ?_ ?_ _ _ _ _ _ _ _ _ _ _ _ _; (focus omega))))
  rcases whoB_ways d p with ⟨hw, hw1, hw2⟩ | ⟨hw, hww⟩
  rotate_left
  · have HE : Hid (thE zs ⟨mo, ba, l, op, oh, ot, st, fe, fp, fh, ft, lo⟩ d p = 4) := by show _ = _; rw [thE, if_pos hk, hw]; rfl
    have HR : Hid (thR zs ⟨mo, ba, l, op, oh, ot, st, fe, fp, fh, ft, lo⟩ d p wr = (B0, 0, 0)) := if_neg (by rw [HE.out]; decide)
    rw [hk]
    clear hw hk
    rcases hww with hw1 | ⟨hw1, hw2⟩
    all_goals
      go_wp2_with (first | (go_at_call 61; refine (isPageB_any _ _).mono ?_; rintro e w' ⟨rfl, rfl⟩) | (go_at_call 60; refine (isDevB_any _ _).mono ?_; rintro e w' ⟨rfl, rfl⟩))
      refine bodyPost_ret (v := .tuple #[.agg #[.int .i64 0, .int .i64 0, .slice none 0 0, .int .i64 0, .int .i64 0, .int .i64 0, .bool false, .int .i64 0, .int .i64 0, .int .i64 0, .int .i64 0, .bool false], .int .i64 0, .int .i64 0, .int .i64 4]) (by simp [results, Try.results24, go_sem, *]) rfl ⟨_, _, _, _, _, _, _, _, _, _, _, _, _, [], _, _, by rw [HE.out]; rfl, HR.out, Ls.nothing _, ?_, Fresh.none _ _ _⟩
      (repeat (first | with_reducible exact B1.out | with_reducible refine bel_alloc ?_ _ | (with_reducible refine bel_set12 ?_ ?_ _ _ _ _ _ _ _ _ _ _ _ _; (focus omega))))
  have HE : Hid (thE zs ⟨mo, ba, l, op, oh, ot, st, fe, fp, fh, ft, lo⟩ d p = 0) := by show _ = _; rw [thE, if_pos hk, if_pos hw]
  have HR : Hid (thR zs ⟨mo, ba, l, op, oh, ot, st, fe, fp, fh, ft, lo⟩ d p wr = goT zs ⟨mo, ba, l, op, oh, ot, st, fe, fp, fh, ft, lo⟩ d p wr) := if_pos HE.out
  have hmo : 0 ≤ mo ∧ mo ≤ 2 := (chkB_ok (bothB_ok hk).2).1
  have hl6 : l.length ≤ 6 := chkC_len (chkB_ok (bothB_ok hk).2).2.2.2.1
  rw [hk]
  clear hk hw
  go_wp2_with (first | (go_at_call 61; refine (isPageB_any _ _).mono ?_; rintro e w' ⟨rfl, rfl⟩) | (go_at_call 60; refine (isDevB_any _ _).mono ?_; rintro e w' ⟨rfl, rfl⟩))
  refine (copyOf_anyN mo ba op oh ot fe fp fh ft st lo (.slice va l.length vk) l _ (HS.out.keep B1.out) hl6).mono ?_
  rintro e w2 ⟨g, hgn, rfl, hS2, b2⟩
  have GN : Hid (w.heap.size ≤ g) := Nat.le_trans B1.out.size hgn
  clear hgn
  clear q0 q1 q2 q3 q4 q5 q6 q7 q8 q9 q10 q11 u0 u1 u2 u3 u4 u5 u6 u7 u8 u9 u10 u11 y0 y1 y2 y3 y4 y5 y6 y7 y8 y9 y10 y11 s0 s1 s2 qm X1
  have X0 := X0.keep b2
  have X2 := X2.keep b2
  have B2 : Hid (Below w.heap.size w w2) := bel_trans B1.out b2
  have AP : Hid (Apart _ _ _) := hS2.apart X2
  have H2 : Hid (Ls _ _ _) := hS2
  clear b2 B1 hS2
  obtain ⟨qm, -, s0⟩ := X0.one
  obtain ⟨⟨u0, u1, u2, u3, u4, u5, u6, u7, u8, u9, u10, u11⟩, s2⟩ := X2.twelve
  obtain ⟨y0, y1, y2, y3, y4, y5, y6, y7, y8, y9, y10, y11⟩ := X2.marks
  have z1 : w.heap.size < w2.heap.size := by omega
  obtain hm | hm | hm : mo = 0 ∨ mo = 1 ∨ mo = 2 := by omega
  · subst hm
    have HG : Hid (goT zs ⟨0, ba, l, op, oh, ot, st, fe, fp, fh, ft, lo⟩ d p wr = (⟨0, ba, l, op, oh, ot, st, fe, fp, fh, ft, lo⟩, 0, 1)) := rfl
    go_wp2
    refine bodyPost_ret (v := .tuple #[.agg #[.int .i64 0, .int .i64 ba, .slice (some ⟨g, 0, none⟩) l.length l.length, .int .i64 op, .int .i64 oh, .int .i64 ot, .bool st, .int .i64 fe, .int .i64 fp, .int .i64 fh, .int .i64 ft, .bool lo], .int .i64 0, .int .i64 1, .int .i64 0]) (by simp [results, Try.results24, go_sem, *]) rfl ⟨_, _, _, _, _, _, _, _, _, _, _, _, _, l, _, _, by rw [HE.out], HR.out.trans HG.out, ?_, ?_, fresh_at GN.out _ _ _⟩
    · (repeat (first | with_reducible exact H2.out | with_reducible refine Ls.alloc ?_ _ | with_reducible refine Ls.put12 ?_ AP.out _ _ _ _ _ _ _ _ _ _ _ _))
    · (repeat (first | with_reducible exact B2.out | with_reducible refine bel_alloc ?_ _ | (with_reducible refine bel_set12 ?_ ?_ _ _ _ _ _ _ _ _ _ _ _ _; (focus omega))))
  · subst hm
    have HG : Hid (goT zs ⟨1, ba, l, op, oh, ot, st, fe, fp, fh, ft, lo⟩ d p wr = (⟨1, ba, l, op, oh, ot, st, fe, fp, fh, ft, lo⟩, p, 0)) := rfl
    go_wp2
    refine bodyPost_ret (v := .tuple #[.agg #[.int .i64 1, .int .i64 ba, .slice (some ⟨g, 0, none⟩) l.length l.length, .int .i64 op, .int .i64 oh, .int .i64 ot, .bool st, .int .i64 fe, .int .i64 fp, .int .i64 fh, .int .i64 ft, .bool lo], .int .i64 p, .int .i64 0, .int .i64 0]) (by simp [results, Try.results24, go_sem, *]) rfl ⟨_, _, _, _, _, _, _, _, _, _, _, _, _, l, _, _, by rw [HE.out], HR.out.trans HG.out, ?_, ?_, fresh_at GN.out _ _ _⟩
    · (repeat (first | with_reducible exact H2.out | with_reducible refine Ls.alloc ?_ _ | with_reducible refine Ls.put12 ?_ AP.out _ _ _ _ _ _ _ _ _ _ _ _))
    · (repeat (first | with_reducible exact B2.out | with_reducible refine bel_alloc ?_ _ | (with_reducible refine bel_set12 ?_ ?_ _ _ _ _ _ _ _ _ _ _ _ _; (focus omega))))
  subst hm
  go_wp2_with fail
  refine (whileOn_any _ zs 2 ba op oh ot fe fp fh ft st lo (.slice (some ⟨g, 0, none⟩) l.length l.length) l d p wr _ (HM.out.keep (bel_alloc B2.out _)) (H2.out.alloc _) HE.out rfl).mono ?_
  rintro e w3 ⟨vc1, l1, k, f, rfl, hG, hL, b3, hN3⟩
  obtain ⟨va1, vk1, rfl, -⟩ := hL.shape
  have FN : Hid (Fresh w.heap.size (.slice va1 l1.length vk1)) := hN3 _ (bel_alloc B2.out _).size (fresh_at GN.out _ _ _)
  clear hN3
  have X2 := (X2.past _).keep b3
  have X3 := (Box.newAt (w := w2) rfl 44 #[.int .i64 2, .int .i64 ba, .slice (some ⟨g, 0, none⟩) l.length l.length, .int .i64 op, .int .i64 oh, .int .i64 ot, .bool st, .int .i64 fe, .int .i64 fp, .int .i64 fh, .int .i64 ft, .bool lo]).keep b3
  have B3 : Hid (Below w.heap.size w w3) := bel_trans (bel_alloc B2.out _) b3
  have AP2 : Hid (Apart _ _ _) := hL.apart X2
  have AP3 : Hid (Apart _ _ _) := hL.apart X3
  have H3 : Hid (Ls _ _ _) := hL
  have HG : Hid (_ = _) := hG
  clear b3 B2 hL hG u0 u1 u2 u3 u4 u5 u6 u7 u8 u9 u10 u11 y0 y1 y2 y3 y4 y5 y6 y7 y8 y9 y10 y11 qm X0
  have n2 : ¬ w2.heap.size = w.heap.size + 1 + 1 := by omega
  clear s2
  obtain ⟨⟨u0, u1, u2, u3, u4, u5, u6, u7, u8, u9, u10, u11⟩, s2⟩ := X2.twelve
  obtain ⟨y0, y1, y2, y3, y4, y5, y6, y7, y8, y9, y10, y11⟩ := X2.marks
  obtain ⟨⟨t0, t1, t2, t3, t4, t5, t6, t7, t8, t9, t10, t11⟩, s3⟩ := X3.twelve
  obtain ⟨x0, x1, x2, x3, x4, x5, x6, x7, x8, x9, x10, x11⟩ := X3.marks
  go_wp2
  refine bodyPost_ret (v := .tuple #[.agg #[.int .i64 2, .int .i64 ba, .slice va1 l1.length vk1, .int .i64 op, .int .i64 oh, .int .i64 ot, .bool st, .int .i64 fe, .int .i64 fp, .int .i64 fh, .int .i64 ft, .bool lo], .int .i64 k, .int .i64 f, .int .i64 0]) (by simp [results, Try.results24, go_sem, *]) rfl ⟨_, _, _, _, _, _, _, _, _, _, _, _, _, l1, _, _, by rw [HE.out], HR.out.trans HG.out, ?_, ?_, FN.out⟩
  · (repeat (first | with_reducible exact H3.out | with_reducible refine Ls.put12 ?_ AP2.out _ _ _ _ _ _ _ _ _ _ _ _ | with_reducible refine Ls.put12 ?_ AP3.out _ _ _ _ _ _ _ _ _ _ _ _))
  · (repeat (first | with_reducible exact B3.out | (with_reducible refine bel_set12 ?_ ?_ _ _ _ _ _ _ _ _ _ _ _ _; (focus omega))))

theorem through_any (v : Value) (zs : List Int) (mo ba op oh ot fe fp fh ft : Int) (st lo : Bool) (vc : Value) (l : List Ln) (d p : Int) (wr : Bool) (w : World) (hs : Sl w v zs) (h : Ls w vc l) :
    Calls Try.prog 24 #[.agg #[v], .agg #[.int .i64 mo, .int .i64 ba, vc, .int .i64 op, .int .i64 oh, .int .i64 ot, .bool st, .int .i64 fe, .int .i64 fp, .int .i64 fh, .int .i64 ft, .bool lo], .int .i64 d, .int .i64 p, .bool wr] w fun e w' => ThOut zs ⟨mo, ba, l, op, oh, ot, st, fe, fp, fh, ft, lo⟩ d p wr w e w' := by
  refine (through_anyF v zs mo ba op oh ot fe fp fh ft st lo vc l d p wr w hs h).mono ?_
  rintro e w' ⟨mo2, ba2, op2, oh2, ot2, fe2, fp2, fh2, ft2, st2, lo2, va2, vk2, l2, k2, f2, he, hR2, hl, hb, -⟩
  exact ⟨mo2, ba2, op2, oh2, ot2, fe2, fp2, fh2, ft2, st2, lo2, va2, vk2, l2, k2, f2, he, hR2, hl, hb⟩
end Go.Proofs.Ytefcdcneenjbgab
/-
  Package word: what isWord, isDev, isPage, isOrder answer; none turns memory that was there.
-/
namespace Go.Proofs.Ytefcdcneenjbgab
open Go.RowKit

theorem between_yes {lo hi z : Int} (h : lo ≤ z ∧ z ≤ hi) : betweenB lo hi z = true := decide_eq_true h
theorem between_no {lo hi z : Int} (h : ¬ (lo ≤ z ∧ z ≤ hi)) : betweenB lo hi z = false := decide_eq_false h
theorem of_between {lo hi z : Int} (h : betweenB lo hi z = true) : lo ≤ z ∧ z ≤ hi := of_decide_eq_true h

theorem oIsWord_any (z : Int) (w : World) : Calls Try.prog 57 #[.int .i64 z] w fun e w' => e = .returned (.bool (betweenB 0 65535 z)) ∧ w' = w := by
  by_cases h1 : 0 ≤ z
  · by_cases h2 : z ≤ 65535
    · rw [between_yes ⟨h1, h2⟩]
      go_enter Try.func57, Try.ntmps57
      go_wp2
      go_ret
      exact ⟨rfl, rfl⟩
    · rw [between_no fun h => h2 h.2]
      go_enter Try.func57, Try.ntmps57
      go_wp2
      go_ret
      exact ⟨rfl, rfl⟩
  · rw [between_no fun h => h1 h.1]
    go_enter Try.func57, Try.ntmps57
    go_wp2
    go_ret
    exact ⟨rfl, rfl⟩
theorem oIsDev_any (z : Int) (w : World) : Calls Try.prog 54 #[.int .i64 z] w fun e w' => e = .returned (.bool (betweenB 0 7 z)) ∧ w' = w := by
  by_cases h1 : 0 ≤ z
  · by_cases h2 : z < 8
    · rw [between_yes ⟨h1, by omega⟩]
      go_enter Try.func54, Try.ntmps54
      go_wp2
      go_ret
      exact ⟨rfl, rfl⟩
    · rw [between_no fun h => h2 (by omega)]
      go_enter Try.func54, Try.ntmps54
      go_wp2
      go_ret
      exact ⟨rfl, rfl⟩
  · rw [between_no fun h => h1 h.1]
    go_enter Try.func54, Try.ntmps54
    go_wp2
    go_ret
    exact ⟨rfl, rfl⟩
theorem oIsPage_any (z : Int) (w : World) : Calls Try.prog 55 #[.int .i64 z] w fun e w' => e = .returned (.bool (betweenB 0 63 z)) ∧ w' = w := by
  by_cases h1 : 0 ≤ z
  · by_cases h2 : z < 64
    · rw [between_yes ⟨h1, by omega⟩]
      go_enter Try.func55, Try.ntmps55
      go_wp2
      go_ret
      exact ⟨rfl, rfl⟩
    · rw [between_no fun h => h2 (by omega)]
      go_enter Try.func55, Try.ntmps55
      go_wp2
      go_ret
      exact ⟨rfl, rfl⟩
  · rw [between_no fun h => h1 h.1]
    go_enter Try.func55, Try.ntmps55
    go_wp2
    go_ret
    exact ⟨rfl, rfl⟩

/-- Has an order nothing that its kind doesn't speak of? -/
def forO (k d p : Int) : Bool := if k = 3 then true else if k = 2 then decide (p = 0) else decide (d = 0) && decide (p = 0)

theorem isOrder_any (k d p : Int) (w : World) :
    Calls Try.prog 56 #[.agg #[.int .i64 k, .int .i64 d, .int .i64 p]] w fun e w' => e = .returned (.bool (forO k d p)) ∧ ∃ o, w' = w.alloc o := by
  by_cases h3 : k = 3
  · subst h3
    go_enter Try.func56, Try.ntmps56
    go_wp2
    go_ret
    exact ⟨rfl, _, rfl⟩
  have n3 : (k == 3) = false := by simpa using h3
  by_cases h2 : k = 2
  · subst h2
    by_cases hp : p = 0
    · subst hp
      go_enter Try.func56, Try.ntmps56
      go_wp2
      go_ret
      exact ⟨rfl, _, rfl⟩
    · have np : (p == 0) = false := by simpa using hp
      have HF : Hid (forO 2 d p = false) := by simp [forO, hp, Hid]
      clear hp
      go_enter Try.func56, Try.ntmps56
      go_wp2
      go_ret
      exact ⟨ret_bool HF.out.symm, _, rfl⟩
  have n2 : (k == 2) = false := by simpa using h2
  by_cases hd : d = 0
  · subst hd
    by_cases hp : p = 0
    · subst hp
      have HF : Hid (forO k 0 0 = true) := by simp [forO, h3, h2, Hid]
      clear h3 h2
      go_enter Try.func56, Try.ntmps56
      go_wp2
      go_ret
      exact ⟨ret_bool HF.out.symm, _, rfl⟩
    · have np : (p == 0) = false := by simpa using hp
      have HF : Hid (forO k 0 p = false) := by simp [forO, h3, h2, hp, Hid]
      clear h3 h2 hp
      go_enter Try.func56, Try.ntmps56
      go_wp2
      go_ret
      exact ⟨ret_bool HF.out.symm, _, rfl⟩
  · have nd : (d == 0) = false := by simpa using hd
    have HF : Hid (forO k d p = false) := by simp [forO, h3, h2, hd, Hid]
    clear h3 h2 hd
    go_enter Try.func56, Try.ntmps56
    go_wp2
    go_ret
    exact ⟨ret_bool HF.out.symm, _, rfl⟩
end Go.Proofs.Ytefcdcneenjbgab
/-
  What PutOrder, PutFault answer, and drawbridgeref's OrderWord, FaultWord: the same; none turns memory that was there.
-/
namespace Go.Proofs.Ytefcdcneenjbgab
open Go.RowKit

theorem forO_ok {k d p : Int} (hk : 0 ≤ k ∧ k ≤ 3) (hd : 0 ≤ d ∧ d ≤ 7) (hp : 0 ≤ p ∧ p ≤ 63) (h : forO k d p = true) : oE k d p = 0 := by
  refine oE_mk hk hd hp ?_ ?_
  · intro ⟨a, b⟩
    have n3 : ¬ k = 3 := by omega
    have n2 : ¬ k = 2 := by omega
    have nd : ¬ d = 0 := by omega
    simp [forO, n3, n2, nd] at h
  · intro ⟨a, b⟩
    have n3 : ¬ k = 3 := by omega
    have np : ¬ p = 0 := by omega
    by_cases n2 : k = 2 <;> simp [forO, n3, n2, np] at h
theorem forO_bad {k d p : Int} (hk : 0 ≤ k ∧ k ≤ 3) (hd : 0 ≤ d ∧ d ≤ 7) (hp : 0 ≤ p ∧ p ≤ 63) (h : forO k d p = false) : oE k d p = 3 := by
  unfold oE
  rw [if_pos ⟨hk, hd, hp⟩, if_pos]
  by_cases n3 : k = 3
  · simp [forO, n3] at h
  by_cases n2 : k = 2
  · by_cases np : p = 0
    · simp [forO, n2, np] at h
    · exact .inr (by omega)
  by_cases nd : d = 0
  · by_cases np : p = 0
    · simp [forO, n2, n3, nd, np] at h
    · exact .inr (by omega)
  · exact .inl (by omega)
theorem oE_out {k d p : Int} (h : ¬ ((0 ≤ k ∧ k ≤ 3) ∧ (0 ≤ d ∧ d ≤ 7) ∧ (0 ≤ p ∧ p ≤ 63))) : oE k d p = 2 := if_neg h
theorem oW_bad {k d p e : Int} (h : oE k d p = e) (hn : ¬ e = 0) : oW k d p = 0 := if_neg (fun x => hn (h.symm.trans x))
theorem fE_out {c d p : Int} (h : ¬ ((1 ≤ c ∧ c ≤ 5) ∧ (0 ≤ d ∧ d ≤ 7) ∧ (0 ≤ p ∧ p ≤ 63))) : fE c d p = 2 := if_neg h
theorem fW_bad {c d p : Int} {x : Bool} (h : fE c d p = 2) : fW c d p x = 0 := if_neg (by rw [h]; decide)

set_option maxHeartbeats 1000000 in
theorem putOrder_any (k d p : Int) (w : World) :
    Calls Try.prog 15 #[.agg #[.int .i64 k, .int .i64 d, .int .i64 p]] w fun e w' => e = .returned (.tuple #[.int .i64 (oW k d p), .int .i64 (oE k d p)]) ∧ Below w.heap.size w w' := by
  by_cases k0 : k < 0
  · have he : oE k d p = 2 := oE_out (by omega)
    rw [oW_bad he (by decide), he]
    clear he
    go_enter Try.func15, Try.ntmps15
    go_wp2
    go_ret2
    exact ⟨rfl, bel_alloc (Below.refl _ _) _⟩
  by_cases k1 : 3 < k
  · have he : oE k d p = 2 := oE_out (by omega)
    rw [oW_bad he (by decide), he]
    clear he
    go_enter Try.func15, Try.ntmps15
    go_wp2
    go_ret2
    exact ⟨rfl, bel_alloc (Below.refl _ _) _⟩
  cases hd : betweenB 0 7 d
  · have hd' : ¬ (0 ≤ d ∧ d ≤ 7) := of_decide_eq_false hd
    have he : oE k d p = 2 := oE_out (by omega)
    rw [oW_bad he (by decide), he]
    clear he hd'
    go_enter Try.func15, Try.ntmps15
    go_wp2_with fail
    refine (oIsDev_any _ _).mono ?_
    rintro e w1 ⟨rfl, rfl⟩
    rw [hd]
    go_wp2
    go_ret2
    exact ⟨rfl, bel_alloc (Below.refl _ _) _⟩
  have hd' := of_between hd
  cases hp : betweenB 0 63 p
  · have hp' : ¬ (0 ≤ p ∧ p ≤ 63) := of_decide_eq_false hp
    have he : oE k d p = 2 := oE_out (by omega)
    rw [oW_bad he (by decide), he]
    clear he hd' hp'
    go_enter Try.func15, Try.ntmps15
    go_wp2_with fail
    refine (oIsDev_any _ _).mono ?_
    rintro e w1 ⟨rfl, rfl⟩
    rw [hd]
    go_wp2_with fail
    refine (oIsPage_any _ _).mono ?_
    rintro e w1 ⟨rfl, rfl⟩
    rw [hp]
    go_wp2
    go_ret2
    exact ⟨rfl, bel_alloc (Below.refl _ _) _⟩
  have hp' := of_between hp
  cases hf : forO k d p
  · have he : oE k d p = 3 := forO_bad (by omega) hd' hp' hf
    rw [oW_bad he (by decide), he]
    clear he hd' hp'
    go_enter Try.func15, Try.ntmps15
    go_wp2_with fail
    refine (oIsDev_any _ _).mono ?_
    rintro e w1 ⟨rfl, rfl⟩
    rw [hd]
    go_wp2_with fail
    refine (oIsPage_any _ _).mono ?_
    rintro e w1 ⟨rfl, rfl⟩
    rw [hp]
    go_wp2_with fail
    refine (isOrder_any _ _ _ _).mono ?_
    rintro e w1 ⟨rfl, o1, rfl⟩
    rw [hf]
    go_wp2
    go_ret2
    exact ⟨rfl, bel_alloc (bel_alloc (Below.refl _ _) _) _⟩
  · have he : oE k d p = 0 := forO_ok (by omega) hd' hp' hf
    rw [oW_ok he, he]
    clear he
    obtain ⟨d0, d1⟩ := hd'
    obtain ⟨p0, p1⟩ := hp'
    go_enter Try.func15, Try.ntmps15
    go_wp2_with fail
    refine (oIsDev_any _ _).mono ?_
    rintro e w1 ⟨rfl, rfl⟩
    rw [hd]
    go_wp2_with fail
    refine (oIsPage_any _ _).mono ?_
    rintro e w1 ⟨rfl, rfl⟩
    rw [hp]
    go_wp2_with fail
    refine (isOrder_any _ _ _ _).mono ?_
    rintro e w1 ⟨rfl, o1, rfl⟩
    rw [hf]
    go_wp2
    go_ret2
    exact ⟨rfl, bel_alloc (bel_alloc (Below.refl _ _) _) _⟩

set_option maxHeartbeats 1000000 in
theorem putFault_any (c d p : Int) (x : Bool) (w : World) :
    Calls Try.prog 17 #[.agg #[.int .i64 c, .int .i64 d, .int .i64 p, .bool x]] w fun e w' => e = .returned (.tuple #[.int .i64 (fW c d p x), .int .i64 (fE c d p)]) ∧ Below w.heap.size w w' := by
  by_cases k0 : c < 1
  · have he : fE c d p = 2 := fE_out (by omega)
    rw [fW_bad he, he]
    clear he
    go_enter Try.func17, Try.ntmps17
    go_wp2
    go_ret2
    exact ⟨rfl, bel_alloc (Below.refl _ _) _⟩
  by_cases k1 : 5 < c
  · have he : fE c d p = 2 := fE_out (by omega)
    rw [fW_bad he, he]
    clear he
    go_enter Try.func17, Try.ntmps17
    go_wp2
    go_ret2
    exact ⟨rfl, bel_alloc (Below.refl _ _) _⟩
  cases hd : betweenB 0 7 d
  · have hd' : ¬ (0 ≤ d ∧ d ≤ 7) := of_decide_eq_false hd
    have he : fE c d p = 2 := fE_out (by omega)
    rw [fW_bad he, he]
    clear he hd'
    go_enter Try.func17, Try.ntmps17
    go_wp2_with fail
    refine (oIsDev_any _ _).mono ?_
    rintro e w1 ⟨rfl, rfl⟩
    rw [hd]
    go_wp2
    go_ret2
    exact ⟨rfl, bel_alloc (Below.refl _ _) _⟩
  have hd' := of_between hd
  cases hp : betweenB 0 63 p
  · have hp' : ¬ (0 ≤ p ∧ p ≤ 63) := of_decide_eq_false hp
    have he : fE c d p = 2 := fE_out (by omega)
    rw [fW_bad he, he]
    clear he hd' hp'
    go_enter Try.func17, Try.ntmps17
    go_wp2_with fail
    refine (oIsDev_any _ _).mono ?_
    rintro e w1 ⟨rfl, rfl⟩
    rw [hd]
    go_wp2_with fail
    refine (oIsPage_any _ _).mono ?_
    rintro e w1 ⟨rfl, rfl⟩
    rw [hp]
    go_wp2
    go_ret2
    exact ⟨rfl, bel_alloc (Below.refl _ _) _⟩
  have hp' := of_between hp
  have he : fE c d p = 0 := fE_mk (by omega) hd' hp'
  rw [fW_ok he, he]
  clear he
  obtain ⟨d0, d1⟩ := hd'
  obtain ⟨p0, p1⟩ := hp'
  cases x
  · rw [show fX false = 0 from rfl, Int.add_zero]
    go_enter Try.func17, Try.ntmps17
    go_wp2_with fail
    refine (oIsDev_any _ _).mono ?_
    rintro e w1 ⟨rfl, rfl⟩
    rw [hd]
    go_wp2_with fail
    refine (oIsPage_any _ _).mono ?_
    rintro e w1 ⟨rfl, rfl⟩
    rw [hp]
    go_wp2
    go_ret2
    exact ⟨rfl, bel_alloc (Below.refl _ _) _⟩
  · rw [show fX true = 4096 from rfl]
    go_enter Try.func17, Try.ntmps17
    go_wp2_with fail
    refine (oIsDev_any _ _).mono ?_
    rintro e w1 ⟨rfl, rfl⟩
    rw [hd]
    go_wp2_with fail
    refine (oIsPage_any _ _).mono ?_
    rintro e w1 ⟨rfl, rfl⟩
    rw [hp]
    go_wp2
    go_ret2
    exact ⟨rfl, bel_alloc (Below.refl _ _) _⟩

/-- The reference's. -/
theorem oE_form {k d p : Int} (hk : 0 ≤ k ∧ k ≤ 3) (hd : 0 ≤ d ∧ d ≤ 7) (hp : 0 ≤ p ∧ p ≤ 63) (h : (0 < d ∧ k < 2) ∨ (0 < p ∧ k < 3)) : oE k d p = 3 := by
  unfold oE; rw [if_pos ⟨hk, hd, hp⟩, if_pos h]

set_option maxHeartbeats 1000000 in
theorem orderWord_any (k d p : Int) (w : World) :
    Calls Try.prog 19 #[.agg #[.int .i64 k, .int .i64 d, .int .i64 p]] w fun e w' => e = .returned (.tuple #[.int .i64 (oW k d p), .int .i64 (oE k d p)]) ∧ Below w.heap.size w w' := by
  cases hk : betweenB 0 3 k
  · have hk' : ¬ (0 ≤ k ∧ k ≤ 3) := of_decide_eq_false hk
    have he : oE k d p = 2 := oE_out (fun h => hk' h.1)
    rw [oW_bad he (by decide), he]
    clear he hk'
    go_enter Try.func19, Try.ntmps19
    go_wp2_with fail
    refine (in_any _ _ _ _).mono ?_
    rintro e w1 ⟨rfl, rfl⟩
    rw [hk]
    go_wp2
    go_ret2
    exact ⟨rfl, bel_alloc (Below.refl _ _) _⟩
  have hk' := of_between hk
  cases hd : betweenB 0 7 d
  · have hd' : ¬ (0 ≤ d ∧ d ≤ 7) := of_decide_eq_false hd
    have he : oE k d p = 2 := oE_out (fun h => hd' h.2.1)
    rw [oW_bad he (by decide), he]
    clear he hd' hk'
    go_enter Try.func19, Try.ntmps19
    go_wp2_with fail
    refine (in_any _ _ _ _).mono ?_
    rintro e w1 ⟨rfl, rfl⟩
    rw [hk]
    go_wp2_with fail
    refine (in_any _ _ _ _).mono ?_
    rintro e w1 ⟨rfl, rfl⟩
    rw [hd]
    go_wp2
    go_ret2
    exact ⟨rfl, bel_alloc (Below.refl _ _) _⟩
  have hd' := of_between hd
  cases hp : betweenB 0 63 p
  · have hp' : ¬ (0 ≤ p ∧ p ≤ 63) := of_decide_eq_false hp
    have he : oE k d p = 2 := oE_out (fun h => hp' h.2.2)
    rw [oW_bad he (by decide), he]
    clear he hd' hk' hp'
    go_enter Try.func19, Try.ntmps19
    go_wp2_with fail
    refine (in_any _ _ _ _).mono ?_
    rintro e w1 ⟨rfl, rfl⟩
    rw [hk]
    go_wp2_with fail
    refine (in_any _ _ _ _).mono ?_
    rintro e w1 ⟨rfl, rfl⟩
    rw [hd]
    go_wp2_with fail
    refine (in_any _ _ _ _).mono ?_
    rintro e w1 ⟨rfl, rfl⟩
    rw [hp]
    go_wp2
    go_ret2
    exact ⟨rfl, bel_alloc (Below.refl _ _) _⟩
  have hp' := of_between hp
  obtain ⟨k0, k1⟩ := hk'
  obtain ⟨d0, d1⟩ := hd'
  obtain ⟨p0, p1⟩ := hp'
  have oneB : (0 < d ∧ k < 2) ∨ (0 < d ∧ ¬ k < 2 ∧ 0 < p ∧ k < 3) ∨ (¬ 0 < d ∧ 0 < p ∧ k < 3) ∨ (0 < d ∧ ¬ k < 2 ∧ ¬ 0 < p) ∨ (¬ 0 < d ∧ ¬ 0 < p) ∨ (0 < d ∧ ¬ k < 2 ∧ 0 < p ∧ ¬ k < 3) ∨ (¬ 0 < d ∧ 0 < p ∧ ¬ k < 3) := by omega
  rcases oneB with ⟨a1, a2⟩ | ⟨a1, a2, a3, a4⟩ | ⟨a1, a3, a4⟩ | ⟨a1, a2, a3⟩ | ⟨a1, a3⟩ | ⟨a1, a2, a3, a4⟩ | ⟨a1, a3, a4⟩
  · rw [oW_bad (oE_form ⟨k0, k1⟩ ⟨d0, d1⟩ ⟨p0, p1⟩ (by omega)) (by decide), oE_form ⟨k0, k1⟩ ⟨d0, d1⟩ ⟨p0, p1⟩ (by omega)]
    go_enter Try.func19, Try.ntmps19
    go_wp2_with fail
    refine (in_any _ _ _ _).mono ?_
    rintro e w1 ⟨rfl, rfl⟩
    rw [hk]
    go_wp2_with fail
    refine (in_any _ _ _ _).mono ?_
    rintro e w1 ⟨rfl, rfl⟩
    rw [hd]
    go_wp2_with fail
    refine (in_any _ _ _ _).mono ?_
    rintro e w1 ⟨rfl, rfl⟩
    rw [hp]
    go_wp2
    go_ret2
    exact ⟨rfl, bel_alloc (Below.refl _ _) _⟩
  · rw [oW_bad (oE_form ⟨k0, k1⟩ ⟨d0, d1⟩ ⟨p0, p1⟩ (by omega)) (by decide), oE_form ⟨k0, k1⟩ ⟨d0, d1⟩ ⟨p0, p1⟩ (by omega)]
    go_enter Try.func19, Try.ntmps19
    go_wp2_with fail
    refine (in_any _ _ _ _).mono ?_
    rintro e w1 ⟨rfl, rfl⟩
    rw [hk]
    go_wp2_with fail
    refine (in_any _ _ _ _).mono ?_
    rintro e w1 ⟨rfl, rfl⟩
    rw [hd]
    go_wp2_with fail
    refine (in_any _ _ _ _).mono ?_
    rintro e w1 ⟨rfl, rfl⟩
    rw [hp]
    go_wp2
    go_ret2
    exact ⟨rfl, bel_alloc (Below.refl _ _) _⟩
  · rw [oW_bad (oE_form ⟨k0, k1⟩ ⟨d0, d1⟩ ⟨p0, p1⟩ (by omega)) (by decide), oE_form ⟨k0, k1⟩ ⟨d0, d1⟩ ⟨p0, p1⟩ (by omega)]
    go_enter Try.func19, Try.ntmps19
    go_wp2_with fail
    refine (in_any _ _ _ _).mono ?_
    rintro e w1 ⟨rfl, rfl⟩
    rw [hk]
    go_wp2_with fail
    refine (in_any _ _ _ _).mono ?_
    rintro e w1 ⟨rfl, rfl⟩
    rw [hd]
    go_wp2_with fail
    refine (in_any _ _ _ _).mono ?_
    rintro e w1 ⟨rfl, rfl⟩
    rw [hp]
    go_wp2
    go_ret2
    exact ⟨rfl, bel_alloc (Below.refl _ _) _⟩
  · rw [oW_ok (oE_mk ⟨k0, k1⟩ ⟨d0, d1⟩ ⟨p0, p1⟩ (by omega) (by omega)), oE_mk ⟨k0, k1⟩ ⟨d0, d1⟩ ⟨p0, p1⟩ (by omega) (by omega)]
    go_enter Try.func19, Try.ntmps19
    go_wp2_with fail
    refine (in_any _ _ _ _).mono ?_
    rintro e w1 ⟨rfl, rfl⟩
    rw [hk]
    go_wp2_with fail
    refine (in_any _ _ _ _).mono ?_
    rintro e w1 ⟨rfl, rfl⟩
    rw [hd]
    go_wp2_with fail
    refine (in_any _ _ _ _).mono ?_
    rintro e w1 ⟨rfl, rfl⟩
    rw [hp]
    go_wp2
    go_ret2
    exact ⟨rfl, bel_alloc (Below.refl _ _) _⟩
  · rw [oW_ok (oE_mk ⟨k0, k1⟩ ⟨d0, d1⟩ ⟨p0, p1⟩ (by omega) (by omega)), oE_mk ⟨k0, k1⟩ ⟨d0, d1⟩ ⟨p0, p1⟩ (by omega) (by omega)]
    go_enter Try.func19, Try.ntmps19
    go_wp2_with fail
    refine (in_any _ _ _ _).mono ?_
    rintro e w1 ⟨rfl, rfl⟩
    rw [hk]
    go_wp2_with fail
    refine (in_any _ _ _ _).mono ?_
    rintro e w1 ⟨rfl, rfl⟩
    rw [hd]
    go_wp2_with fail
    refine (in_any _ _ _ _).mono ?_
    rintro e w1 ⟨rfl, rfl⟩
    rw [hp]
    go_wp2
    go_ret2
    exact ⟨rfl, bel_alloc (Below.refl _ _) _⟩
  · rw [oW_ok (oE_mk ⟨k0, k1⟩ ⟨d0, d1⟩ ⟨p0, p1⟩ (by omega) (by omega)), oE_mk ⟨k0, k1⟩ ⟨d0, d1⟩ ⟨p0, p1⟩ (by omega) (by omega)]
    go_enter Try.func19, Try.ntmps19
    go_wp2_with fail
    refine (in_any _ _ _ _).mono ?_
    rintro e w1 ⟨rfl, rfl⟩
    rw [hk]
    go_wp2_with fail
    refine (in_any _ _ _ _).mono ?_
    rintro e w1 ⟨rfl, rfl⟩
    rw [hd]
    go_wp2_with fail
    refine (in_any _ _ _ _).mono ?_
    rintro e w1 ⟨rfl, rfl⟩
    rw [hp]
    go_wp2
    go_ret2
    exact ⟨rfl, bel_alloc (Below.refl _ _) _⟩
  · rw [oW_ok (oE_mk ⟨k0, k1⟩ ⟨d0, d1⟩ ⟨p0, p1⟩ (by omega) (by omega)), oE_mk ⟨k0, k1⟩ ⟨d0, d1⟩ ⟨p0, p1⟩ (by omega) (by omega)]
    go_enter Try.func19, Try.ntmps19
    go_wp2_with fail
    refine (in_any _ _ _ _).mono ?_
    rintro e w1 ⟨rfl, rfl⟩
    rw [hk]
    go_wp2_with fail
    refine (in_any _ _ _ _).mono ?_
    rintro e w1 ⟨rfl, rfl⟩
    rw [hd]
    go_wp2_with fail
    refine (in_any _ _ _ _).mono ?_
    rintro e w1 ⟨rfl, rfl⟩
    rw [hp]
    go_wp2
    go_ret2
    exact ⟨rfl, bel_alloc (Below.refl _ _) _⟩

set_option maxHeartbeats 1000000 in
theorem faultWord_any (c d p : Int) (x : Bool) (w : World) :
    Calls Try.prog 21 #[.agg #[.int .i64 c, .int .i64 d, .int .i64 p, .bool x]] w fun e w' => e = .returned (.tuple #[.int .i64 (fW c d p x), .int .i64 (fE c d p)]) ∧ Below w.heap.size w w' := by
  cases hk : betweenB 1 5 c
  · have hk' : ¬ (1 ≤ c ∧ c ≤ 5) := of_decide_eq_false hk
    have he : fE c d p = 2 := fE_out (fun h => hk' h.1)
    rw [fW_bad he, he]
    clear he hk'
    go_enter Try.func21, Try.ntmps21
    go_wp2_with fail
    refine (in_any _ _ _ _).mono ?_
    rintro e w1 ⟨rfl, rfl⟩
    rw [hk]
    go_wp2
    go_ret2
    exact ⟨rfl, bel_alloc (Below.refl _ _) _⟩
  have hk' := of_between hk
  cases hd : betweenB 0 7 d
  · have hd' : ¬ (0 ≤ d ∧ d ≤ 7) := of_decide_eq_false hd
    have he : fE c d p = 2 := fE_out (fun h => hd' h.2.1)
    rw [fW_bad he, he]
    clear he hd' hk'
    go_enter Try.func21, Try.ntmps21
    go_wp2_with fail
    refine (in_any _ _ _ _).mono ?_
    rintro e w1 ⟨rfl, rfl⟩
    rw [hk]
    go_wp2_with fail
    refine (in_any _ _ _ _).mono ?_
    rintro e w1 ⟨rfl, rfl⟩
    rw [hd]
    go_wp2
    go_ret2
    exact ⟨rfl, bel_alloc (Below.refl _ _) _⟩
  have hd' := of_between hd
  cases hp : betweenB 0 63 p
  · have hp' : ¬ (0 ≤ p ∧ p ≤ 63) := of_decide_eq_false hp
    have he : fE c d p = 2 := fE_out (fun h => hp' h.2.2)
    rw [fW_bad he, he]
    clear he hd' hk' hp'
    go_enter Try.func21, Try.ntmps21
    go_wp2_with fail
    refine (in_any _ _ _ _).mono ?_
    rintro e w1 ⟨rfl, rfl⟩
    rw [hk]
    go_wp2_with fail
    refine (in_any _ _ _ _).mono ?_
    rintro e w1 ⟨rfl, rfl⟩
    rw [hd]
    go_wp2_with fail
    refine (in_any _ _ _ _).mono ?_
    rintro e w1 ⟨rfl, rfl⟩
    rw [hp]
    go_wp2
    go_ret2
    exact ⟨rfl, bel_alloc (Below.refl _ _) _⟩
  have hp' := of_between hp
  have he : fE c d p = 0 := fE_mk hk' hd' hp'
  rw [fW_ok he, he]
  clear he
  obtain ⟨k0, k1⟩ := hk'
  obtain ⟨d0, d1⟩ := hd'
  obtain ⟨p0, p1⟩ := hp'
  cases x
  · rw [show fX false = 0 from rfl, Int.add_zero]
    go_enter Try.func21, Try.ntmps21
    go_wp2_with fail
    refine (in_any _ _ _ _).mono ?_
    rintro e w1 ⟨rfl, rfl⟩
    rw [hk]
    go_wp2_with fail
    refine (in_any _ _ _ _).mono ?_
    rintro e w1 ⟨rfl, rfl⟩
    rw [hd]
    go_wp2_with fail
    refine (in_any _ _ _ _).mono ?_
    rintro e w1 ⟨rfl, rfl⟩
    rw [hp]
    go_wp2
    go_ret2
    exact ⟨rfl, bel_alloc (Below.refl _ _) _⟩
  · rw [show fX true = 4096 from rfl]
    go_enter Try.func21, Try.ntmps21
    go_wp2_with fail
    refine (in_any _ _ _ _).mono ?_
    rintro e w1 ⟨rfl, rfl⟩
    rw [hk]
    go_wp2_with fail
    refine (in_any _ _ _ _).mono ?_
    rintro e w1 ⟨rfl, rfl⟩
    rw [hd]
    go_wp2_with fail
    refine (in_any _ _ _ _).mono ?_
    rintro e w1 ⟨rfl, rfl⟩
    rw [hp]
    go_wp2
    go_ret2
    exact ⟨rfl, bel_alloc (Below.refl _ _) _⟩
end Go.Proofs.Ytefcdcneenjbgab
/-
  What ReadOrder, ReadFault answer, and drawbridgeref's OrderOf, FaultOf: the same; none turns memory that was there.
-/
namespace Go.Proofs.Ytefcdcneenjbgab
open Go.RowKit

theorem roE_out {z : Int} (h : ¬ (0 ≤ z ∧ z ≤ 65535)) : roE z = 2 := if_neg h
theorem roE_bad {z : Int} (h : 0 ≤ z ∧ z ≤ 65535) (k : ¬ oE (z % 4) (z / 4 % 8) (z / 32) = 0) : roE z = 3 := by rw [roE, if_pos h, if_neg k]
theorem roO_bad {z e : Int} (h : roE z = e) (hn : ¬ e = 0) : roO z = (0, 0, 0) := if_neg (fun x => hn (h.symm.trans x))
theorem roO_ok {z : Int} (h : roE z = 0) : roO z = (z % 4, z / 4 % 8, z / 32) := if_pos h
theorem rfE_out {z : Int} (h : ¬ (0 ≤ z ∧ z ≤ 65535)) : rfE z = 2 := if_neg h
theorem rfE_bad {z : Int} (h : 0 ≤ z ∧ z ≤ 65535) (k : ¬ (fE (z % 8) (z / 8 % 8) (z / 64 % 64) = 0 ∧ z < 8192)) : rfE z = 3 := by rw [rfE, if_pos h, if_neg k]
theorem rfF_bad {z e : Int} (h : rfE z = e) (hn : ¬ e = 0) : rfF z = (0, 0, 0, false) := if_neg (fun x => hn (h.symm.trans x))
theorem rfF_ok {z : Int} (h : rfE z = 0) : rfF z = (z % 8, z / 8 % 8, z / 64 % 64, decide (z / 4096 = 1)) := if_pos h

/-- The project's way: what is read is put, and must be as it was. -/
theorem ro_way {z : Int} (h : 0 ≤ z ∧ z ≤ 65535) :
    (roE z = 3 ∧ roO z = (0, 0, 0) ∧ (¬ oE (z % 4) (z / 4 % 8) (z / 32 % 64) = 0 ∨ (oE (z % 4) (z / 4 % 8) (z / 32 % 64) = 0 ∧ ¬ oW (z % 4) (z / 4 % 8) (z / 32 % 64) = z))) ∨
    (roE z = 0 ∧ roO z = (z % 4, z / 4 % 8, z / 32 % 64) ∧ oE (z % 4) (z / 4 % 8) (z / 32 % 64) = 0 ∧ oW (z % 4) (z / 4 % 8) (z / 32 % 64) = z) := by
  by_cases hs : z < 2048
  · have e : z / 32 % 64 = z / 32 := by omega
    rw [e]
    by_cases hk : oE (z % 4) (z / 4 % 8) (z / 32) = 0
    · have hr := roE_mk h hk
      exact .inr ⟨hr, roO_ok hr, hk, by rw [oW_ok hk]; omega⟩
    · have hr := roE_bad h hk
      exact .inl ⟨hr, roO_bad hr (by decide), .inl hk⟩
  · have hr : roE z = 3 := roE_bad h fun hk => by have := (oE_ok hk).2.2.1; omega
    refine .inl ⟨hr, roO_bad hr (by decide), ?_⟩
    by_cases hk : oE (z % 4) (z / 4 % 8) (z / 32 % 64) = 0
    · exact .inr ⟨hk, by rw [oW_ok hk]; omega⟩
    · exact .inl hk
theorem rf_way {z : Int} (h : 0 ≤ z ∧ z ≤ 65535) :
    (rfE z = 3 ∧ rfF z = (0, 0, 0, false) ∧ (¬ fE (z % 8) (z / 8 % 8) (z / 64 % 64) = 0 ∨ (fE (z % 8) (z / 8 % 8) (z / 64 % 64) = 0 ∧ ¬ fW (z % 8) (z / 8 % 8) (z / 64 % 64) (z / 4096 % 2 == 1) = z))) ∨
    (rfE z = 0 ∧ rfF z = (z % 8, z / 8 % 8, z / 64 % 64, (z / 4096 % 2 == 1)) ∧ fE (z % 8) (z / 8 % 8) (z / 64 % 64) = 0 ∧ fW (z % 8) (z / 8 % 8) (z / 64 % 64) (z / 4096 % 2 == 1) = z) := by
  have hb : (z / 4096 % 2 == 1) = decide (z / 4096 % 2 = 1) := rfl
  rw [hb]
  by_cases hk : fE (z % 8) (z / 8 % 8) (z / 64 % 64) = 0
  · by_cases hs : z < 8192
    · have hr := rfE_mk h hk hs
      have e : z / 4096 % 2 = z / 4096 := by omega
      have hq := rfF_ok hr
      rw [e]
      exact .inr ⟨hr, hq, hk, (f_read hr hq).2⟩
    · have hr : rfE z = 3 := rfE_bad h fun x => hs x.2
      refine .inl ⟨hr, rfF_bad hr (by decide), .inr ⟨hk, ?_⟩⟩
      rw [fW_ok hk]
      rcases fX_cases (decide (z / 4096 % 2 = 1)) with ⟨_, e⟩ | ⟨_, e⟩ <;> rw [e] <;> omega
  · have hr : rfE z = 3 := rfE_bad h fun x => hk x.1
    exact .inl ⟨hr, rfF_bad hr (by decide), .inl hk⟩

set_option maxHeartbeats 2000000 in
theorem readOrder_any (z : Int) (w : World) :
    Calls Try.prog 16 #[.int .i64 z] w fun e w' => (∃ k d p, e = .returned (.tuple #[.agg #[.int .i64 k, .int .i64 d, .int .i64 p], .int .i64 (roE z)]) ∧ roO z = (k, d, p)) ∧ Below w.heap.size w w' := by
  cases hw : betweenB 0 65535 z
  · have hr : roE z = 2 := roE_out (of_decide_eq_false hw)
    have HO : Hid (roO z = (0, 0, 0)) := roO_bad hr (by decide)
    rw [hr]
    clear hr
    go_enter Try.func16, Try.ntmps16
    go_wp2_with fail
    refine (oIsWord_any _ _).mono ?_
    rintro e w1 ⟨rfl, rfl⟩
    rw [hw]
    go_wp2
    refine bodyPost_ret (v := .tuple #[.agg #[.int .i64 0, .int .i64 0, .int .i64 0], .int .i64 2]) (by simp [results, Try.results16, go_sem]) rfl ⟨⟨_, _, _, rfl, HO.out⟩, ?_⟩
    exact bel_alloc (Below.refl _ _) _
  have hz := of_between hw
  have hway := ro_way hz
  obtain ⟨h0, h1⟩ := hz
  obtain ⟨eo, heo⟩ : ∃ eo, oE (z % 4) (z / 4 % 8) (z / 32 % 64) = eo := ⟨_, rfl⟩
  obtain ⟨xo, hxo⟩ : ∃ xo, oW (z % 4) (z / 4 % 8) (z / 32 % 64) = xo := ⟨_, rfl⟩
  rw [heo, hxo] at hway
  have HW : Hid _ := hway
  have HE : Hid _ := heo
  have HX : Hid _ := hxo
  clear hway heo hxo
  go_enter Try.func16, Try.ntmps16
  go_wp2_with fail
  refine (oIsWord_any _ _).mono ?_
  rintro e w1 ⟨rfl, rfl⟩
  rw [hw]
  go_wp2_with fail
  refine (putOrder_any _ _ _ _).mono ?_
  rintro e w1 ⟨rfl, b1⟩
  rw [HE.out, HX.out]
  have X0 := (Box.newAt (n := w.heap.size) (by simp) 23 #[.int .i64 0, .int .i64 0, .int .i64 0]).past (.cells #[.int .i64 (z % 4), .int .i64 (z / 4 % 8), .int .i64 (z / 32 % 64)] 23) |>.keep b1
  have X1 := (Box.newAt (w := w.alloc (.cells #[.int .i64 0, .int .i64 0, .int .i64 0] 23)) (n := w.heap.size + 1) (by simp) 23 #[.int .i64 (z % 4), .int .i64 (z / 4 % 8), .int .i64 (z / 32 % 64)]).keep b1
  have B1 : Hid (Below w.heap.size w w1) := bel_trans (bel_alloc (bel_alloc (Below.refl _ _) _) _) b1
  clear b1
  obtain ⟨u0, u1, u2, g0, g1, g2, s0⟩ := X0.three
  obtain ⟨q0, q1, q2, -, -, -, s1⟩ := X1.three
  clear X0 X1
  rcases HW.out with ⟨hr, ho, hk | ⟨hk, hx⟩⟩ | ⟨hr, ho, hk, hx⟩
  · have HR : Hid _ := hr
    have HO : Hid _ := ho
    have hq : (eo != 0) = true := by simpa using hk
    clear hr ho HW HE HX hk
    go_wp2
    refine bodyPost_ret (v := .tuple #[.agg #[.int .i64 0, .int .i64 0, .int .i64 0], .int .i64 3]) (by simp [results, Try.results16, go_sem, *]) rfl ⟨⟨_, _, _, by rw [HR.out], HO.out⟩, ?_⟩
    exact bel_set3 (by omega) B1.out _ _ _
  · have HR : Hid _ := hr
    have HO : Hid _ := ho
    have hq : (xo != z) = true := by simpa using hx
    clear hr ho HW HE HX hx
    subst hk
    go_wp2
    refine bodyPost_ret (v := .tuple #[.agg #[.int .i64 0, .int .i64 0, .int .i64 0], .int .i64 3]) (by simp [results, Try.results16, go_sem, *]) rfl ⟨⟨_, _, _, by rw [HR.out], HO.out⟩, ?_⟩
    exact bel_set3 (by omega) B1.out _ _ _
  · have HR : Hid _ := hr
    have HO : Hid _ := ho
    clear hr ho HW HE HX
    subst hk hx
    go_wp2
    refine bodyPost_ret (v := .tuple #[.agg #[.int .i64 (xo % 4), .int .i64 (xo / 4 % 8), .int .i64 (xo / 32 % 64)], .int .i64 0]) (by simp [results, Try.results16, go_sem, *]) rfl ⟨⟨_, _, _, by rw [HR.out], HO.out⟩, ?_⟩
    exact bel_set3 (by omega) B1.out _ _ _
end Go.Proofs.Ytefcdcneenjbgab
