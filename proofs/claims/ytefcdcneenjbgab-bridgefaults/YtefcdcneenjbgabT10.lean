/-
  Laid together: TellB, TellF, FaultL, FaultMath.
-/
import Derived.Test.YtefcdcneenjbgabT9
import Derived.Deep.RegionWith
/-
  Package bridge: Tell: what it answers, of anything; nothing that was there turns.
-/
namespace Go.Proofs.Ytefcdcneenjbgab
open Go.RowKit

theorem Sl.drew {w : World} {v : Value} {zs : List Int} (h : Sl w v zs) : Sl w.drew v zs := h
theorem Sl.drewN {w : World} {v : Value} {zs : List Int} (h : Sl w v zs) (n : Nat) : Sl (w.drewN n) v zs := h
theorem Sl.alloc {w : World} {v : Value} {zs : List Int} (h : Sl w v zs) (o : Obj) : Sl (w.alloc o) v zs := h.keep (bel_alloc (Below.refl _ _) _)
theorem Sl.put12 {w : World} {v : Value} {zs : List Int} (h : Sl w v zs) {n : Nat} (hn : v.ownBlock ≠ some n) (u0 u1 u2 u3 u4 u5 u6 u7 u8 u9 u10 u11 : Value) :
    Sl ((((((((((((w.setCell ⟨n, 0, none⟩ u0).setCell ⟨n, 1, none⟩ u1).setCell ⟨n, 2, none⟩ u2).setCell ⟨n, 3, none⟩ u3).setCell ⟨n, 4, none⟩ u4).setCell ⟨n, 5, none⟩ u5).setCell ⟨n, 6, none⟩ u6).setCell ⟨n, 7, none⟩ u7).setCell ⟨n, 8, none⟩ u8).setCell ⟨n, 9, none⟩ u9).setCell ⟨n, 10, none⟩ u10).setCell ⟨n, 11, none⟩ u11) v zs :=
  (((((((((((h.setOther (p := ⟨n, 0, none⟩) hn u0).setOther (p := ⟨n, 1, none⟩) hn u1).setOther (p := ⟨n, 2, none⟩) hn u2).setOther (p := ⟨n, 3, none⟩) hn u3).setOther (p := ⟨n, 4, none⟩) hn u4).setOther (p := ⟨n, 5, none⟩) hn u5).setOther (p := ⟨n, 6, none⟩) hn u6).setOther (p := ⟨n, 7, none⟩) hn u7).setOther (p := ⟨n, 8, none⟩) hn u8).setOther (p := ⟨n, 9, none⟩) hn u9).setOther (p := ⟨n, 10, none⟩) hn u10).setOther (p := ⟨n, 11, none⟩) hn u11

/-- A block of one cell holds no line. -/
theorem Ls.apart1 {w : World} {v : Value} {l : List Ln} (hl : Ls w v l) {n : Nat} {t : TypeId} {u : Value} (h : Box w n t #[u]) : Apart v l n := by
  obtain ⟨a, cap, rfl, _, _, hl⟩ := hl
  rcases hl with rfl | ⟨b, o, rfl, _, hc⟩
  · exact .inl rfl
  · by_cases h0 : l = []
    · exact .inl h0
    · refine .inr fun b' o' k c e => ?_
      simp only [Value.slice.injEq, Option.some.injEq, Addr.mk.injEq, and_true] at e
      obtain ⟨⟨rfl, rfl⟩, -⟩ := e
      rintro rfl
      obtain ⟨_, h1, _⟩ := hc 0 (List.length_pos_iff.2 h0)
      rw [h.cell, Array.getElem?_eq_none (by simp)] at h1
      simp at h1
theorem Fresh.neB {base n : Nat} {v : Value} (h : Fresh base v) (k : n < base) : v.ownBlock ≠ some n := h.ne k

/-- What comes out of Tell, as letters. -/
abbrev TlOut (zs : List Int) (b : Br) (c d p : Int) (x : Bool) (w : World) (e : Ending) (w' : World) : Prop :=
  ∃ ma1 mn1 mc1 mo1 ba1 op1 oh1 ot1 fe1 fp1 fh1 ft1 st1 lo1 va1 vk1 l1, e = .returned (.tuple #[.agg #[.slice ma1 mn1 mc1], .agg #[.int .i64 mo1, .int .i64 ba1, .slice va1 l1.length vk1, .int .i64 op1, .int .i64 oh1, .int .i64 ot1, .bool st1, .int .i64 fe1, .int .i64 fp1, .int .i64 fh1, .int .i64 ft1, .bool lo1], .int .i64 (tlE zs b c d p)]) ∧ tlB zs b c d p = ⟨mo1, ba1, l1, op1, oh1, ot1, st1, fe1, fp1, fh1, ft1, lo1⟩ ∧ Sl w' (.slice ma1 mn1 mc1) (tlM zs b c d p x) ∧ Ls w' (.slice va1 l1.length vk1) l1 ∧ Below w.heap.size w w'

/-- The same, and that the words and the lines lie in new memory. -/
abbrev TlOutF (zs : List Int) (b : Br) (c d p : Int) (x : Bool) (w : World) (e : Ending) (w' : World) : Prop :=
  ∃ ma1 mn1 mc1 mo1 ba1 op1 oh1 ot1 fe1 fp1 fh1 ft1 st1 lo1 va1 vk1 l1, e = .returned (.tuple #[.agg #[.slice ma1 mn1 mc1], .agg #[.int .i64 mo1, .int .i64 ba1, .slice va1 l1.length vk1, .int .i64 op1, .int .i64 oh1, .int .i64 ot1, .bool st1, .int .i64 fe1, .int .i64 fp1, .int .i64 fh1, .int .i64 ft1, .bool lo1], .int .i64 (tlE zs b c d p)]) ∧ tlB zs b c d p = ⟨mo1, ba1, l1, op1, oh1, ot1, st1, fe1, fp1, fh1, ft1, lo1⟩ ∧ Sl w' (.slice ma1 mn1 mc1) (tlM zs b c d p x) ∧ Ls w' (.slice va1 l1.length vk1) l1 ∧ Below w.heap.size w w' ∧ Fresh w.heap.size (.slice ma1 mn1 mc1) ∧ Fresh w.heap.size (.slice va1 l1.length vk1)

set_option maxHeartbeats 4000000 in
theorem tell_anyF (v : Value) (zs : List Int) (mo ba op oh ot fe fp fh ft : Int) (st lo : Bool) (vc : Value) (l : List Ln) (c d p : Int) (x : Bool) (w : World) (hs : Sl w v zs) (h : Ls w vc l) :
    Calls Try.prog 33 #[.agg #[v], .agg #[.int .i64 mo, .int .i64 ba, vc, .int .i64 op, .int .i64 oh, .int .i64 ot, .bool st, .int .i64 fe, .int .i64 fp, .int .i64 fh, .int .i64 ft, .bool lo], .agg #[.int .i64 c, .int .i64 d, .int .i64 p, .bool x]] w fun e w' => TlOutF zs ⟨mo, ba, l, op, oh, ot, st, fe, fp, fh, ft, lo⟩ c d p x w e w' := by
  have HS : Hid (Ls w vc l) := h
  obtain ⟨va, vk, rfl, -⟩ := h.shape
  have HM : Hid (Sl w v zs) := hs
  obtain ⟨ma, mc, rfl⟩ := hs.shape
  clear h hs
  go_enter Try.func33, Try.ntmps33
  go_wp2_with fail
  have B0 : Hid (Below w.heap.size w _) := bel_alloc (bel_alloc (bel_alloc (bel_alloc (bel_alloc (Below.refl w.heap.size w) (.cells #[.slice ma zs.length mc] 39)) (.cells #[.int .i64 mo, .int .i64 ba, .slice va l.length vk, .int .i64 op, .int .i64 oh, .int .i64 ot, .bool st, .int .i64 fe, .int .i64 fp, .int .i64 fh, .int .i64 ft, .bool lo] 44)) (.cells #[.int .i64 c, .int .i64 d, .int .i64 p, .bool x] 25)) (.cells #[.slice none 0 0] 39)) (.cells #[.int .i64 0, .int .i64 0, .slice none 0 0, .int .i64 0, .int .i64 0, .int .i64 0, .bool false, .int .i64 0, .int .i64 0, .int .i64 0, .int .i64 0, .bool false] 44)
  refine (checkBothB_any _ zs mo ba op oh ot fe fp fh ft st lo (.slice va l.length vk) l _ (HM.out.keep B0.out) (HS.out.keep B0.out)).mono ?_
  rintro e w1 ⟨rfl, b1⟩
  have X0 := (((((Box.newAt (n := w.heap.size) rfl 39 #[.slice ma zs.length mc]).past _).past _).past _).past _).keep b1
  have X1 := ((((Box.newAt (n := w.heap.size + 1) (by simp) 44 #[.int .i64 mo, .int .i64 ba, .slice va l.length vk, .int .i64 op, .int .i64 oh, .int .i64 ot, .bool st, .int .i64 fe, .int .i64 fp, .int .i64 fh, .int .i64 ft, .bool lo]).past _).past _).past _).keep b1
  have X2 := (((Box.newAt (n := w.heap.size + 1 + 1) (by simp) 25 #[.int .i64 c, .int .i64 d, .int .i64 p, .bool x]).past _).past _).keep b1
  have X3 := ((Box.newAt (n := w.heap.size + 1 + 1 + 1) (by simp) 39 #[.slice none 0 0]).past _).keep b1
  have X4 := (Box.newAt (n := w.heap.size + 1 + 1 + 1 + 1) (by simp) 44 #[.int .i64 0, .int .i64 0, .slice none 0 0, .int .i64 0, .int .i64 0, .int .i64 0, .bool false, .int .i64 0, .int .i64 0, .int .i64 0, .int .i64 0, .bool false]).keep b1
  have B1 : Hid (Below w.heap.size w w1) := bel_trans B0.out b1
  clear b1 B0
  obtain ⟨m0, -, s0⟩ := X0.one
  obtain ⟨⟨q0, q1, q2, q3, q4, q5, q6, q7, q8, q9, q10, q11⟩, s1⟩ := X1.twelve
  obtain ⟨f0, f1, f2, f3, -, -, -, -, s2⟩ := X2.four
  obtain ⟨r0, r1, s3⟩ := X3.one
  obtain ⟨⟨u0, u1, u2, u3, u4, u5, u6, u7, u8, u9, u10, u11⟩, s4⟩ := X4.twelve
  obtain ⟨y0, y1, y2, y3, y4, y5, y6, y7, y8, y9, y10, y11⟩ := X4.marks
  by_cases hk : bothB zs ⟨mo, ba, l, op, oh, ot, st, fe, fp, fh, ft, lo⟩ = 0
  rotate_left
  · have HE : Hid (tlE zs ⟨mo, ba, l, op, oh, ot, st, fe, fp, fh, ft, lo⟩ c d p = bothB zs ⟨mo, ba, l, op, oh, ot, st, fe, fp, fh, ft, lo⟩) := if_neg hk
    have HB : Hid (tlB zs ⟨mo, ba, l, op, oh, ot, st, fe, fp, fh, ft, lo⟩ c d p = B0) := if_neg (by rw [HE.out]; exact hk)
    have HT : Hid (tlM zs ⟨mo, ba, l, op, oh, ot, st, fe, fp, fh, ft, lo⟩ c d p x = []) := if_neg (by rw [HE.out]; exact hk)
    generalize bothB zs ⟨mo, ba, l, op, oh, ot, st, fe, fp, fh, ft, lo⟩ = E at *
    have hq : (E != 0) = true := by simpa using hk
    go_wp2
    refine bodyPost_ret (v := .tuple #[.agg #[.slice none 0 0], .agg #[.int .i64 0, .int .i64 0, .slice none 0 0, .int .i64 0, .int .i64 0, .int .i64 0, .bool false, .int .i64 0, .int .i64 0, .int .i64 0, .int .i64 0, .bool false], .int .i64 E]) (by simp [results, Try.results33, go_sem, *]) rfl ⟨_, _, _, _, _, _, _, _, _, _, _, _, _, _, _, _, [], by rw [HE.out]; rfl, HB.out, by rw [HT.out]; exact Sl.nil _ _ _, Ls.nothing _, ?_, Fresh.none _ _ _, Fresh.none _ _ _⟩
    (repeat (first | with_reducible exact B1.out | with_reducible refine bel_alloc ?_ _ | (with_reducible refine bel_set12 ?_ ?_ _ _ _ _ _ _ _ _ _ _ _ _; (focus omega)) | (with_reducible refine bel_set ?_ ?_ _; (focus (dsimp only; omega)))))
  rw [hk]
  go_wp2_with fail
  refine (putFault_any c d p x _).mono ?_
  rintro e w2 ⟨rfl, b2⟩
  clear q0 q1 q2 q3 q4 q5 q6 q7 q8 q9 q10 q11 u0 u1 u2 u3 u4 u5 u6 u7 u8 u9 u10 u11 y0 y1 y2 y3 y4 y5 y6 y7 y8 y9 y10 y11 m0 s0 s1 r0 r1 s3 s4 f0 f1 f2 f3 s2
  have X0 := X0.keep b2
  have X1 := X1.keep b2
  have X3 := X3.keep b2
  have X4 := X4.keep b2
  have B2 : Hid (Below w.heap.size w w2) := bel_trans B1.out b2
  clear b2 B1 X2
  obtain ⟨m0, -, s0⟩ := X0.one
  obtain ⟨⟨q0, q1, q2, q3, q4, q5, q6, q7, q8, q9, q10, q11⟩, s1⟩ := X1.twelve
  obtain ⟨r0, r1, s3⟩ := X3.one
  obtain ⟨⟨u0, u1, u2, u3, u4, u5, u6, u7, u8, u9, u10, u11⟩, s4⟩ := X4.twelve
  obtain ⟨y0, y1, y2, y3, y4, y5, y6, y7, y8, y9, y10, y11⟩ := X4.marks
  by_cases hf : fE c d p = 0
  rotate_left
  · have HE : Hid (tlE zs ⟨mo, ba, l, op, oh, ot, st, fe, fp, fh, ft, lo⟩ c d p = fE c d p) := if_pos hk
    have HB : Hid (tlB zs ⟨mo, ba, l, op, oh, ot, st, fe, fp, fh, ft, lo⟩ c d p = B0) := if_neg (by rw [HE.out]; exact hf)
    have HT : Hid (tlM zs ⟨mo, ba, l, op, oh, ot, st, fe, fp, fh, ft, lo⟩ c d p x = []) := if_neg (by rw [HE.out]; exact hf)
    generalize fE c d p = E at *
    have hq : (E != 0) = true := by simpa using hf
    go_wp2
    refine bodyPost_ret (v := .tuple #[.agg #[.slice none 0 0], .agg #[.int .i64 0, .int .i64 0, .slice none 0 0, .int .i64 0, .int .i64 0, .int .i64 0, .bool false, .int .i64 0, .int .i64 0, .int .i64 0, .int .i64 0, .bool false], .int .i64 E]) (by simp [results, Try.results33, go_sem, *]) rfl ⟨_, _, _, _, _, _, _, _, _, _, _, _, _, _, _, _, [], by rw [HE.out]; rfl, HB.out, by rw [HT.out]; exact Sl.nil _ _ _, Ls.nothing _, ?_, Fresh.none _ _ _, Fresh.none _ _ _⟩
    (repeat (first | with_reducible exact B2.out | with_reducible refine bel_alloc ?_ _ | (with_reducible refine bel_set12 ?_ ?_ _ _ _ _ _ _ _ _ _ _ _ _; (focus omega)) | (with_reducible refine bel_set ?_ ?_ _; (focus (dsimp only; omega)))))
  have hE : tlE zs ⟨mo, ba, l, op, oh, ot, st, fe, fp, fh, ft, lo⟩ c d p = 0 := by rw [tlE, if_pos hk, hf]
  have HE : Hid (_ = _) := hE
  have hl6 : l.length ≤ 6 := (chkC_zero.1 (chkB_ok (bothB_ok hk).2).2.2.2.1).1
  have HZ : Hid (chk zs = 0) := (bothB_ok hk).1
  have HF : Hid (chkR fp fh ft = 0) := (chkB_ok (bothB_ok hk).2).2.2.2.2.2
  have HN : Hid (zs.length = 512) := (chk_ok HZ.out).1
  have HW : Hid (wordB (fW c d p x) = true) := fW_word x hf
  obtain ⟨W0, hW0⟩ : ∃ z, fW c d p x = z := ⟨_, rfl⟩
  have HW0 : Hid (_ = _) := hW0
  rw [hf, hW0]
  clear hk hE hf hW0
  go_wp2_with fail
  refine (copyOf_anyN mo ba op oh ot fe fp fh ft st lo (.slice va l.length vk) l _ (HS.out.keep B2.out) hl6).mono ?_
  rintro e w3 ⟨gl, hgl, rfl, hS3, b3⟩
  have FL : Hid (w.heap.size ≤ gl) := Nat.le_trans B2.out.size hgl
  clear hgl
  clear q0 q1 q2 q3 q4 q5 q6 q7 q8 q9 q10 q11 u0 u1 u2 u3 u4 u5 u6 u7 u8 u9 u10 u11 y0 y1 y2 y3 y4 y5 y6 y7 y8 y9 y10 y11 m0 s0 s1 r0 r1 s3 s4
  have X0 := X0.keep b3
  have X3 := X3.keep b3
  have X4 := X4.keep b3
  have B3 : Hid (Below w.heap.size w w3) := bel_trans B2.out b3
  have AP : Hid (Apart _ _ _) := hS3.apart X4
  have H3 : Hid (Ls _ _ _) := hS3
  clear b3 B2 X1 hS3
  obtain ⟨m0, -, s0⟩ := X0.one
  obtain ⟨r0, r1, s3⟩ := X3.one
  obtain ⟨⟨u0, u1, u2, u3, u4, u5, u6, u7, u8, u9, u10, u11⟩, s4⟩ := X4.twelve
  obtain ⟨y0, y1, y2, y3, y4, y5, y6, y7, y8, y9, y10, y11⟩ := X4.marks
  cases lo
  · have XN := Box.newAt (w := w3) rfl 44 #[.int .i64 mo, .int .i64 ba, .slice (some ⟨gl, 0, none⟩) l.length l.length, .int .i64 op, .int .i64 oh, .int .i64 ot, .bool st, .int .i64 fe, .int .i64 fp, .int .i64 fh, .int .i64 ft, .bool false]
    have nN3 : ¬ w3.heap.size = w.heap.size + 1 + 1 + 1 := by omega
    have nN4 : ¬ w3.heap.size = w.heap.size + 1 + 1 + 1 + 1 := by omega
    have nN0 : ¬ w3.heap.size = w.heap.size := by omega
    have zN : w.heap.size ≤ w3.heap.size := by omega
    have ZN : Hid (w.heap.size + 1 + 1 + 1 + 1 < w3.heap.size) := s4
    by_cases hl : lenR fh ft = 7
    · have HB : Hid (tlB zs ⟨mo, ba, l, op, oh, ot, st, fe, fp, fh, ft, false⟩ c d p = ⟨mo, ba, l, op, oh, ot, st, fe, fp, fh, ft, true⟩) := by show _ = _; rw [tlB, if_pos HE.out, if_pos (by simp [fullB, hl])]
      have HT : Hid (tlM zs ⟨mo, ba, l, op, oh, ot, st, fe, fp, fh, ft, false⟩ c d p x = zs) := by show _ = _; rw [tlM, if_pos HE.out, if_pos (by simp [fullB, hl])]
      have HQ : Hid (lenR fh ft = 7) := hl
      clear hl
      go_wp2_with fail
      refine (push_full (HM.out.keep (bel_alloc B3.out _)) HZ.out HF.out (HW0.out ▸ HW.out) HQ.out).mono ?_
      rintro e w4 ⟨a4, c4, rfl, b4⟩
      clear m0 s0 r0 r1 s3 u0 u1 u2 u3 u4 u5 u6 u7 u8 u9 u10 u11 y0 y1 y2 y3 y4 y5 y6 y7 y8 y9 y10 y11 s4
      have X0 := (X0.past _).keep b4
      have X3 := (X3.past _).keep b4
      have X4 := (X4.past _).keep b4
      have XN := XN.keep b4
      have H4 := (H3.out.alloc _).keep b4
      have APN : Hid (Apart _ _ _) := H4.apart XN
      have B4 : Hid (Below w.heap.size w w4) := bel_trans (bel_alloc B3.out _) b4
      have HL4 : Hid (Ls _ _ _) := H4
      clear b4 H4
      generalize w3.heap.size = N at *
      obtain ⟨⟨v0, v1, v2, v3, v4, v5, v6, v7, v8, v9, v10, v11⟩, sN⟩ := XN.twelve
      obtain ⟨-, -, -, -, -, -, -, -, -, -, -, vm⟩ := XN.marks
      go_upto_region 13 with fail
      have X0 := (((X0.other (p := ⟨N, 11, none⟩) (by dsimp only; omega) (.bool true)).past (.cells #[.slice a4 0 c4] 39)).past (.cells #[.int .i64 0, .int .i64 0, .int .i64 0] 42))
      have X3 := (((X3.other (p := ⟨N, 11, none⟩) (by dsimp only; omega) (.bool true)).past (.cells #[.slice a4 0 c4] 39)).past (.cells #[.int .i64 0, .int .i64 0, .int .i64 0] 42))
      have X4 := (((X4.other (p := ⟨N, 11, none⟩) (by dsimp only; omega) (.bool true)).past (.cells #[.slice a4 0 c4] 39)).past (.cells #[.int .i64 0, .int .i64 0, .int .i64 0] 42))
      have XN : Box (((w4.setCell ⟨N, 11, none⟩ (.bool true)).alloc (.cells #[.slice a4 0 c4] 39)).alloc (.cells #[.int .i64 0, .int .i64 0, .int .i64 0] 42)) N 44 #[.int .i64 mo, .int .i64 ba, .slice (some ⟨gl, 0, none⟩) l.length l.length, .int .i64 op, .int .i64 oh, .int .i64 ot, .bool st, .int .i64 fe, .int .i64 fp, .int .i64 fh, .int .i64 ft, .bool true] := ((Box.set XN 11 (.bool true)).past (.cells #[.slice a4 0 c4] 39)).past (.cells #[.int .i64 0, .int .i64 0, .int .i64 0] 42)
      have BW : Hid (Below w.heap.size w (((w4.setCell ⟨N, 11, none⟩ (.bool true)).alloc (.cells #[.slice a4 0 c4] 39)).alloc (.cells #[.int .i64 0, .int .i64 0, .int .i64 0] 42))) := bel_alloc (bel_alloc (bel_set (by dsimp only; omega) B4.out _) _) _
      have HMW : Hid (Sl (((w4.setCell ⟨N, 11, none⟩ (.bool true)).alloc (.cells #[.slice a4 0 c4] 39)).alloc (.cells #[.int .i64 0, .int .i64 0, .int .i64 0] 42)) _ zs) := HM.out.keep BW.out
      have HLW : Hid (Ls (((w4.setCell ⟨N, 11, none⟩ (.bool true)).alloc (.cells #[.slice a4 0 c4] 39)).alloc (.cells #[.int .i64 0, .int .i64 0, .int .i64 0] 42)) _ l) := ((HL4.out.putAt APN.out _ _).alloc _).alloc _
      clear v0 v1 v2 v3 v4 v5 v6 v7 v8 v9 v10 v11 sN vm HL4 B4
      generalize (((w4.setCell ⟨N, 11, none⟩ (.bool true)).alloc (.cells #[.slice a4 0 c4] 39)).alloc (.cells #[.int .i64 0, .int .i64 0, .int .i64 0] 42)) = W at *
      obtain ⟨m0, -, s0⟩ := X0.one
      obtain ⟨r0, r1, s3⟩ := X3.one
      obtain ⟨⟨u0, u1, u2, u3, u4, u5, u6, u7, u8, u9, u10, u11⟩, s4⟩ := X4.twelve
      obtain ⟨y0, y1, y2, y3, y4, y5, y6, y7, y8, y9, y10, y11⟩ := X4.marks
      obtain ⟨⟨v0, v1, v2, v3, v4, v5, v6, v7, v8, v9, v10, v11⟩, sN⟩ := XN.twelve
      go_region_with (go_at_call 73; refine (copyOfMem_any _ zs _ ?_ HN.out).mono ?_; (focus (repeat (first | with_reducible exact HMW.out | with_reducible refine Sl.drew ?_ | with_reducible refine Sl.drewN ?_ _))); rintro e w5 ⟨gm, rfl, h5, hg5, b5⟩; have Y3 := (Box.keep (n := w.heap.size + 1 + 1 + 1) (t := 39) (cs := #[.slice none 0 0]) (by (repeat (first | with_reducible assumption | with_reducible refine Box.drew ?_ | with_reducible refine Box.drewN ?_ _ | with_reducible refine Box.past ?_ _))) b5); have Y4 := (Box.keep (n := w.heap.size + 1 + 1 + 1 + 1) (t := 44) (cs := #[.int .i64 0, .int .i64 0, .slice none 0 0, .int .i64 0, .int .i64 0, .int .i64 0, .bool false, .int .i64 0, .int .i64 0, .int .i64 0, .int .i64 0, .bool false]) (by (repeat (first | with_reducible assumption | with_reducible refine Box.drew ?_ | with_reducible refine Box.drewN ?_ _ | with_reducible refine Box.past ?_ _))) b5); have YN := (Box.keep (n := N) (t := 44) (cs := #[.int .i64 mo, .int .i64 ba, .slice (some ⟨gl, 0, none⟩) l.length l.length, .int .i64 op, .int .i64 oh, .int .i64 ot, .bool st, .int .i64 fe, .int .i64 fp, .int .i64 fh, .int .i64 ft, .bool true]) (by (repeat (first | with_reducible assumption | with_reducible refine Box.drew ?_ | with_reducible refine Box.drewN ?_ _ | with_reducible refine Box.past ?_ _))) b5); obtain ⟨k3, k3', j3⟩ := Y3.one; obtain ⟨⟨i0, i1, i2, i3, i4, i5, i6, i7, i8, i9, i10, i11⟩, j4⟩ := Y4.twelve; obtain ⟨x0, x1, x2, x3, x4, x5, x6, x7, x8, x9, x10, x11⟩ := Y4.marks; obtain ⟨⟨t0, t1, t2, t3, t4, t5, t6, t7, t8, t9, t10, t11⟩, j5⟩ := YN.twelve)
      all_goals
        go_wp2
        refine bodyPost_ret (v := .tuple #[.agg #[.slice (some ⟨gm, 0, none⟩) 512 512], .agg #[.int .i64 mo, .int .i64 ba, .slice (some ⟨gl, 0, none⟩) l.length l.length, .int .i64 op, .int .i64 oh, .int .i64 ot, .bool st, .int .i64 fe, .int .i64 fp, .int .i64 fh, .int .i64 ft, .bool true], .int .i64 0]) (by simp [results, Try.results33, go_sem, *]) rfl ⟨_, _, _, _, _, _, _, _, _, _, _, _, _, _, _, _, l, by rw [HE.out], HB.out, ?_, ?_, ?_, fresh_at (Nat.le_trans BW.out.size (by simpa using hg5)) _ _ _, fresh_at FL.out _ _ _⟩
        · rw [HT.out]
          have hg : W.heap.size ≤ gm := by simpa using hg5
          (repeat (first | with_reducible exact h5 | with_reducible refine Sl.drew ?_ | with_reducible refine Sl.drewN ?_ _ | (with_reducible refine Sl.put12 ?_ ?_ _ _ _ _ _ _ _ _ _ _ _ _; rotate_left; (focus (simp [Value.ownBlock]; omega))) | (with_reducible refine Sl.setOther ?_ ?_ _; rotate_left; (focus (simp [Value.ownBlock]; omega)))))
        · (repeat (first | with_reducible exact HLW.out.drew.keep b5 | with_reducible exact HLW.out.keep b5 | with_reducible refine Ls.drew ?_ | with_reducible refine Ls.drewN ?_ _ | with_reducible refine Ls.put12 ?_ AP.out _ _ _ _ _ _ _ _ _ _ _ _ | with_reducible refine Ls.setSlice ?_ k3 _))
        · (repeat (first | with_reducible exact BW.out | with_reducible refine Below.drew ?_ | with_reducible refine bel_drewN ?_ _ | with_reducible refine bel_alloc ?_ _ | (with_reducible refine bel_set12 ?_ ?_ _ _ _ _ _ _ _ _ _ _ _ _; (focus omega)) | (with_reducible refine bel_set ?_ ?_ _; (focus (dsimp only; omega))) | with_reducible refine bel_trans ?_ b5))
    · have HB : Hid (tlB zs ⟨mo, ba, l, op, oh, ot, st, fe, fp, fh, ft, false⟩ c d p = ⟨mo, ba, l, op, oh, ot, st, fe, fp, fh, (ft + 1) % 8, false⟩) := by show _ = _; rw [tlB, if_pos HE.out, if_neg (by simp [fullB, hl])]
      have HT : Hid (tlM zs ⟨mo, ba, l, op, oh, ot, st, fe, fp, fh, ft, false⟩ c d p x = zs.set (fp * 8 + ft).toNat W0) := by show _ = _; rw [tlM, if_pos HE.out, if_neg (by simp [fullB, hl]), HW0.out]
      have HQ : Hid (¬ lenR fh ft = 7) := hl
      clear hl
      go_wp2_with fail
      refine (push_ok (HM.out.keep (bel_alloc B3.out _)) HZ.out HF.out (HW0.out ▸ HW.out) HQ.out).mono ?_
      rintro e w4 ⟨v4, rfl, hS4, hF4, b4⟩
      clear m0 s0 r0 r1 s3 u0 u1 u2 u3 u4 u5 u6 u7 u8 u9 u10 u11 y0 y1 y2 y3 y4 y5 y6 y7 y8 y9 y10 y11 s4
      have X0 := (X0.past _).keep b4
      have X3 := (X3.past _).keep b4
      have X4 := (X4.past _).keep b4
      have XN := XN.keep b4
      have H4 := (H3.out.alloc _).keep b4
      have APN : Hid (Apart _ _ _) := H4.apart XN
      have AP3 : Hid (Apart _ _ _) := H4.apart1 X3
      have B4 : Hid (Below w.heap.size w w4) := bel_trans (bel_alloc B3.out _) b4
      have HL4 : Hid (Ls _ _ _) := H4
      have hF4 : Fresh (w3.heap.size + 1) v4 := by simpa using hF4
      have FV : Hid (Fresh w.heap.size v4) := hF4.mono (by omega)
      have FN : Hid (v4.ownBlock ≠ some w3.heap.size) := hF4.ne (by have := ZN.out; omega)
      have F3 : Hid (v4.ownBlock ≠ some (w.heap.size + 1 + 1 + 1)) := hF4.ne (by have := ZN.out; omega)
      have F4 : Hid (v4.ownBlock ≠ some (w.heap.size + 1 + 1 + 1 + 1)) := hF4.ne (by have := ZN.out; omega)
      obtain ⟨a4, n4, c4, rfl⟩ : ∃ a n c, v4 = .slice a n c := by obtain ⟨a, cap, e, _⟩ := hS4; exact ⟨_, _, _, e⟩
      have HS4 : Hid (Sl _ _ _) := hS4
      clear b4 H4 hF4 hS4
      have nM3 : ¬ w.heap.size + 1 + 1 + 1 = w3.heap.size := by omega
      have nM4 : ¬ w.heap.size + 1 + 1 + 1 + 1 = w3.heap.size := by omega
      have hzz : w3.heap.size < w4.heap.size := XN.lt
      generalize w3.heap.size = N at *
      generalize ((ft + 1) % 8) = nf at *
      obtain ⟨⟨v0, v1, v2, v3, v4, v5, v6, v7, v8, v9, v10, v11⟩, sN⟩ := XN.twelve
      obtain ⟨-, -, -, -, -, -, -, -, vm8, vm9, vm10, -⟩ := XN.marks
      obtain ⟨r0, r1, s3⟩ := X3.one
      obtain ⟨⟨u0, u1, u2, u3, u4, u5, u6, u7, u8, u9, u10, u11⟩, s4⟩ := X4.twelve
      obtain ⟨y0, y1, y2, y3, y4, y5, y6, y7, y8, y9, y10, y11⟩ := X4.marks
      have zz3 : w.heap.size + 1 + 1 + 1 < w4.heap.size + 1 := by omega
      have zz4 : w.heap.size + 1 + 1 + 1 + 1 < w4.heap.size + 1 := by omega
      have zzN : N < w4.heap.size + 1 := by omega
      go_wp2
      go_region
      go_wp2
      refine bodyPost_ret (v := .tuple #[.agg #[.slice a4 n4 c4], .agg #[.int .i64 mo, .int .i64 ba, .slice (some ⟨gl, 0, none⟩) l.length l.length, .int .i64 op, .int .i64 oh, .int .i64 ot, .bool st, .int .i64 fe, .int .i64 fp, .int .i64 fh, .int .i64 nf, .bool false], .int .i64 0]) (by simp [results, Try.results33, go_sem, *]) rfl ⟨_, _, _, _, _, _, _, _, _, _, _, _, _, _, _, _, l, by rw [HE.out], HB.out, ?_, ?_, ?_, FV.out, fresh_at FL.out _ _ _⟩
      · rw [HT.out]
        exact Sl.drew (Sl.alloc (Sl.alloc (Sl.put12 (n := w.heap.size + 1 + 1 + 1 + 1) (Sl.setOther (p := ⟨w.heap.size + 1 + 1 + 1, 0, none⟩) (Sl.setOther (p := ⟨N, 10, none⟩) (Sl.setOther (p := ⟨N, 9, none⟩) (Sl.setOther (p := ⟨N, 8, none⟩) HS4.out FN.out _) FN.out _) FN.out _) F3.out _) F4.out _ _ _ _ _ _ _ _ _ _ _ _) _) _)
      · exact Ls.drew (Ls.alloc (Ls.alloc (Ls.put12 (Ls.putAt (Ls.putAt (Ls.putAt (Ls.putAt HL4.out APN.out 8 _) APN.out 9 _) APN.out 10 _) AP3.out 0 _) AP.out _ _ _ _ _ _ _ _ _ _ _ _) _) _)
      · exact Below.drew (bel_alloc (bel_alloc (bel_set12 (by omega) (bel_set (p := ⟨w.heap.size + 1 + 1 + 1, 0, none⟩) (by dsimp only; omega) (bel_set (p := ⟨N, 10, none⟩) zN (bel_set (p := ⟨N, 9, none⟩) zN (bel_set (p := ⟨N, 8, none⟩) zN B4.out _) _) _) _) _ _ _ _ _ _ _ _ _ _ _ _) _) _)
  · have HB : Hid (tlB zs ⟨mo, ba, l, op, oh, ot, st, fe, fp, fh, ft, true⟩ c d p = ⟨mo, ba, l, op, oh, ot, st, fe, fp, fh, ft, true⟩) := by show _ = _; rw [tlB, if_pos HE.out]; rfl
    have HT : Hid (tlM zs ⟨mo, ba, l, op, oh, ot, st, fe, fp, fh, ft, true⟩ c d p x = zs) := by show _ = _; rw [tlM, if_pos HE.out]; rfl
    go_upto_region 9 with fail
    have X0 := X0.past (.cells #[.int .i64 mo, .int .i64 ba, .slice (some ⟨gl, 0, none⟩) l.length l.length, .int .i64 op, .int .i64 oh, .int .i64 ot, .bool st, .int .i64 fe, .int .i64 fp, .int .i64 fh, .int .i64 ft, .bool true] 44)
    have X3 := X3.past (.cells #[.int .i64 mo, .int .i64 ba, .slice (some ⟨gl, 0, none⟩) l.length l.length, .int .i64 op, .int .i64 oh, .int .i64 ot, .bool st, .int .i64 fe, .int .i64 fp, .int .i64 fh, .int .i64 ft, .bool true] 44)
    have X4 := X4.past (.cells #[.int .i64 mo, .int .i64 ba, .slice (some ⟨gl, 0, none⟩) l.length l.length, .int .i64 op, .int .i64 oh, .int .i64 ot, .bool st, .int .i64 fe, .int .i64 fp, .int .i64 fh, .int .i64 ft, .bool true] 44)
    have XN := Box.newAt (w := w3) rfl 44 #[.int .i64 mo, .int .i64 ba, .slice (some ⟨gl, 0, none⟩) l.length l.length, .int .i64 op, .int .i64 oh, .int .i64 ot, .bool st, .int .i64 fe, .int .i64 fp, .int .i64 fh, .int .i64 ft, .bool true]
    have BW : Hid (Below w.heap.size w (w3.alloc (.cells #[.int .i64 mo, .int .i64 ba, .slice (some ⟨gl, 0, none⟩) l.length l.length, .int .i64 op, .int .i64 oh, .int .i64 ot, .bool st, .int .i64 fe, .int .i64 fp, .int .i64 fh, .int .i64 ft, .bool true] 44))) := bel_alloc B3.out _
    have HMW : Hid (Sl (w3.alloc (.cells #[.int .i64 mo, .int .i64 ba, .slice (some ⟨gl, 0, none⟩) l.length l.length, .int .i64 op, .int .i64 oh, .int .i64 ot, .bool st, .int .i64 fe, .int .i64 fp, .int .i64 fh, .int .i64 ft, .bool true] 44)) _ zs) := HM.out.keep BW.out
    have HLW : Hid (Ls (w3.alloc (.cells #[.int .i64 mo, .int .i64 ba, .slice (some ⟨gl, 0, none⟩) l.length l.length, .int .i64 op, .int .i64 oh, .int .i64 ot, .bool st, .int .i64 fe, .int .i64 fp, .int .i64 fh, .int .i64 ft, .bool true] 44)) _ l) := H3.out.alloc _
    have nN3 : ¬ w3.heap.size = w.heap.size + 1 + 1 + 1 := by omega
    have nN4 : ¬ w3.heap.size = w.heap.size + 1 + 1 + 1 + 1 := by omega
    generalize w3.heap.size = N at *
    generalize (w3.alloc (.cells #[.int .i64 mo, .int .i64 ba, .slice (some ⟨gl, 0, none⟩) l.length l.length, .int .i64 op, .int .i64 oh, .int .i64 ot, .bool st, .int .i64 fe, .int .i64 fp, .int .i64 fh, .int .i64 ft, .bool true] 44)) = W at *
    clear m0 s0 r0 r1 s3 u0 u1 u2 u3 u4 u5 u6 u7 u8 u9 u10 u11 y0 y1 y2 y3 y4 y5 y6 y7 y8 y9 y10 y11 s4
    obtain ⟨m0, -, s0⟩ := X0.one
    obtain ⟨r0, r1, s3⟩ := X3.one
    obtain ⟨⟨u0, u1, u2, u3, u4, u5, u6, u7, u8, u9, u10, u11⟩, s4⟩ := X4.twelve
    obtain ⟨y0, y1, y2, y3, y4, y5, y6, y7, y8, y9, y10, y11⟩ := X4.marks
    obtain ⟨⟨v0, v1, v2, v3, v4, v5, v6, v7, v8, v9, v10, v11⟩, sN⟩ := XN.twelve
    go_region_with (go_at_call 73; refine (copyOfMem_any _ zs _ ?_ HN.out).mono ?_; (focus (repeat (first | with_reducible exact HMW.out | with_reducible refine Sl.drew ?_ | with_reducible refine Sl.drewN ?_ _))); rintro e w5 ⟨gm, rfl, h5, hg5, b5⟩; have Y3 := (Box.keep (n := w.heap.size + 1 + 1 + 1) (t := 39) (cs := #[.slice none 0 0]) (by (repeat (first | with_reducible assumption | with_reducible refine Box.drew ?_ | with_reducible refine Box.drewN ?_ _ | with_reducible refine Box.past ?_ _))) b5); have Y4 := (Box.keep (n := w.heap.size + 1 + 1 + 1 + 1) (t := 44) (cs := #[.int .i64 0, .int .i64 0, .slice none 0 0, .int .i64 0, .int .i64 0, .int .i64 0, .bool false, .int .i64 0, .int .i64 0, .int .i64 0, .int .i64 0, .bool false]) (by (repeat (first | with_reducible assumption | with_reducible refine Box.drew ?_ | with_reducible refine Box.drewN ?_ _ | with_reducible refine Box.past ?_ _))) b5); have YN := (Box.keep (n := N) (t := 44) (cs := #[.int .i64 mo, .int .i64 ba, .slice (some ⟨gl, 0, none⟩) l.length l.length, .int .i64 op, .int .i64 oh, .int .i64 ot, .bool st, .int .i64 fe, .int .i64 fp, .int .i64 fh, .int .i64 ft, .bool true]) (by (repeat (first | with_reducible assumption | with_reducible refine Box.drew ?_ | with_reducible refine Box.drewN ?_ _ | with_reducible refine Box.past ?_ _))) b5); obtain ⟨k3, k3', j3⟩ := Y3.one; obtain ⟨⟨i0, i1, i2, i3, i4, i5, i6, i7, i8, i9, i10, i11⟩, j4⟩ := Y4.twelve; obtain ⟨x0, x1, x2, x3, x4, x5, x6, x7, x8, x9, x10, x11⟩ := Y4.marks; obtain ⟨⟨t0, t1, t2, t3, t4, t5, t6, t7, t8, t9, t10, t11⟩, j5⟩ := YN.twelve)
    all_goals
      go_wp2
      refine bodyPost_ret (v := .tuple #[.agg #[.slice (some ⟨gm, 0, none⟩) 512 512], .agg #[.int .i64 mo, .int .i64 ba, .slice (some ⟨gl, 0, none⟩) l.length l.length, .int .i64 op, .int .i64 oh, .int .i64 ot, .bool st, .int .i64 fe, .int .i64 fp, .int .i64 fh, .int .i64 ft, .bool true], .int .i64 0]) (by simp [results, Try.results33, go_sem, *]) rfl ⟨_, _, _, _, _, _, _, _, _, _, _, _, _, _, _, _, l, by rw [HE.out], HB.out, ?_, ?_, ?_, fresh_at (Nat.le_trans BW.out.size (by simpa using hg5)) _ _ _, fresh_at FL.out _ _ _⟩
      · rw [HT.out]
        have hg : W.heap.size ≤ gm := by simpa using hg5
        (repeat (first | with_reducible exact h5 | with_reducible refine Sl.drew ?_ | with_reducible refine Sl.drewN ?_ _ | (with_reducible refine Sl.put12 ?_ ?_ _ _ _ _ _ _ _ _ _ _ _ _; rotate_left; (focus (simp [Value.ownBlock]; omega))) | (with_reducible refine Sl.setOther ?_ ?_ _; rotate_left; (focus (simp [Value.ownBlock]; omega)))))
      · (repeat (first | with_reducible exact HLW.out.drew.keep b5 | with_reducible exact HLW.out.keep b5 | with_reducible refine Ls.drew ?_ | with_reducible refine Ls.drewN ?_ _ | with_reducible refine Ls.put12 ?_ AP.out _ _ _ _ _ _ _ _ _ _ _ _ | with_reducible refine Ls.setSlice ?_ k3 _))
      · (repeat (first | with_reducible exact BW.out | with_reducible refine Below.drew ?_ | with_reducible refine bel_drewN ?_ _ | with_reducible refine bel_alloc ?_ _ | (with_reducible refine bel_set12 ?_ ?_ _ _ _ _ _ _ _ _ _ _ _ _; (focus omega)) | (with_reducible refine bel_set ?_ ?_ _; (focus (dsimp only; omega))) | with_reducible refine bel_trans ?_ b5))
theorem tell_any (v : Value) (zs : List Int) (mo ba op oh ot fe fp fh ft : Int) (st lo : Bool) (vc : Value) (l : List Ln) (c d p : Int) (x : Bool) (w : World) (hs : Sl w v zs) (h : Ls w vc l) :
    Calls Try.prog 33 #[.agg #[v], .agg #[.int .i64 mo, .int .i64 ba, vc, .int .i64 op, .int .i64 oh, .int .i64 ot, .bool st, .int .i64 fe, .int .i64 fp, .int .i64 fh, .int .i64 ft, .bool lo], .agg #[.int .i64 c, .int .i64 d, .int .i64 p, .bool x]] w fun e w' => TlOut zs ⟨mo, ba, l, op, oh, ot, st, fe, fp, fh, ft, lo⟩ c d p x w e w' := by
  refine (tell_anyF v zs mo ba op oh ot fe fp fh ft st lo vc l c d p x w hs h).mono ?_
  rintro e w' ⟨ma2, mn2, mc2, mo2, ba2, op2, oh2, ot2, fe2, fp2, fh2, ft2, st2, lo2, va2, vk2, l2, h1, h2, h3, h4, h5, _, _⟩
  exact ⟨ma2, mn2, mc2, mo2, ba2, op2, oh2, ot2, fe2, fp2, fh2, ft2, st2, lo2, va2, vk2, l2, h1, h2, h3, h4, h5⟩
end Go.Proofs.Ytefcdcneenjbgab
/-
  Through and Tell where what they answer is known, with what lies in new memory.
-/
namespace Go.Proofs.Ytefcdcneenjbgab
open Go.RowKit

theorem tell_atF {v : Value} {zs : List Int} {mo ba op oh ot fe fp fh ft : Int} {st lo : Bool} {vc : Value} {l : List Ln} {c d p : Int} {x : Bool} {w : World} {mo1 ba1 op1 oh1 ot1 fe1 fp1 fh1 ft1 : Int} {st1 lo1 : Bool} {l1 : List Ln} {ms : List Int} {e0 : Int} (hs : Sl w v zs) (h : Ls w vc l) (hE : tlE zs ⟨mo, ba, l, op, oh, ot, st, fe, fp, fh, ft, lo⟩ c d p = e0) (hB : tlB zs ⟨mo, ba, l, op, oh, ot, st, fe, fp, fh, ft, lo⟩ c d p = ⟨mo1, ba1, l1, op1, oh1, ot1, st1, fe1, fp1, fh1, ft1, lo1⟩) (hM : tlM zs ⟨mo, ba, l, op, oh, ot, st, fe, fp, fh, ft, lo⟩ c d p x = ms) :
    Calls Try.prog 33 #[.agg #[v], .agg #[.int .i64 mo, .int .i64 ba, vc, .int .i64 op, .int .i64 oh, .int .i64 ot, .bool st, .int .i64 fe, .int .i64 fp, .int .i64 fh, .int .i64 ft, .bool lo], .agg #[.int .i64 c, .int .i64 d, .int .i64 p, .bool x]] w fun e w' =>
      ∃ ma1 mc1 va1 vk1, e = .returned (.tuple #[.agg #[.slice ma1 ms.length mc1], .agg #[.int .i64 mo1, .int .i64 ba1, .slice va1 l1.length vk1, .int .i64 op1, .int .i64 oh1, .int .i64 ot1, .bool st1, .int .i64 fe1, .int .i64 fp1, .int .i64 fh1, .int .i64 ft1, .bool lo1], .int .i64 e0]) ∧ Sl w' (.slice ma1 ms.length mc1) ms ∧ Ls w' (.slice va1 l1.length vk1) l1 ∧ Below w.heap.size w w' ∧ Fresh w.heap.size (.slice ma1 ms.length mc1) ∧ Fresh w.heap.size (.slice va1 l1.length vk1) := by
  refine (tell_anyF v zs mo ba op oh ot fe fp fh ft st lo vc l c d p x w hs h).mono ?_
  rintro e w' ⟨ma2, mn2, mc2, mo2, ba2, op2, oh2, ot2, fe2, fp2, fh2, ft2, st2, lo2, va2, vk2, l2, rfl, hB2, hS, hL, hb, g1, g2⟩
  rw [hB] at hB2
  simp only [Br.mk.injEq] at hB2
  obtain ⟨rfl, rfl, rfl, rfl, rfl, rfl, rfl, rfl, rfl, rfl, rfl, rfl⟩ := hB2
  rw [hM] at hS
  rw [hE]
  obtain ⟨a, cap, he, _⟩ := id hS
  simp only [Value.slice.injEq] at he
  obtain ⟨rfl, rfl, rfl⟩ := he
  exact ⟨ma2, mc2, va2, vk2, rfl, hS, hL, hb, g1, g2⟩
theorem through_atF {v : Value} {zs : List Int} {mo ba op oh ot fe fp fh ft : Int} {st lo : Bool} {vc : Value} {l : List Ln} {d p : Int} {wr : Bool} {w : World} {mo1 ba1 op1 oh1 ot1 fe1 fp1 fh1 ft1 : Int} {st1 lo1 : Bool} {l1 : List Ln} {k f e0 : Int} (hs : Sl w v zs) (h : Ls w vc l) (hE : thE zs ⟨mo, ba, l, op, oh, ot, st, fe, fp, fh, ft, lo⟩ d p = e0) (hR : thR zs ⟨mo, ba, l, op, oh, ot, st, fe, fp, fh, ft, lo⟩ d p wr = (⟨mo1, ba1, l1, op1, oh1, ot1, st1, fe1, fp1, fh1, ft1, lo1⟩, k, f)) :
    Calls Try.prog 24 #[.agg #[v], .agg #[.int .i64 mo, .int .i64 ba, vc, .int .i64 op, .int .i64 oh, .int .i64 ot, .bool st, .int .i64 fe, .int .i64 fp, .int .i64 fh, .int .i64 ft, .bool lo], .int .i64 d, .int .i64 p, .bool wr] w fun e w' =>
      ∃ va1 vk1, e = .returned (.tuple #[.agg #[.int .i64 mo1, .int .i64 ba1, .slice va1 l1.length vk1, .int .i64 op1, .int .i64 oh1, .int .i64 ot1, .bool st1, .int .i64 fe1, .int .i64 fp1, .int .i64 fh1, .int .i64 ft1, .bool lo1], .int .i64 k, .int .i64 f, .int .i64 e0]) ∧ Ls w' (.slice va1 l1.length vk1) l1 ∧ Below w.heap.size w w' ∧ Fresh w.heap.size (.slice va1 l1.length vk1) := by
  refine (through_anyF v zs mo ba op oh ot fe fp fh ft st lo vc l d p wr w hs h).mono ?_
  rintro e w' ⟨mo2, ba2, op2, oh2, ot2, fe2, fp2, fh2, ft2, st2, lo2, va2, vk2, l2, k2, f2, rfl, hR2, hl, hb, hn⟩
  rw [hR] at hR2
  simp only [Prod.mk.injEq, Br.mk.injEq] at hR2
  obtain ⟨⟨rfl, rfl, rfl, rfl, rfl, rfl, rfl, rfl, rfl, rfl, rfl, rfl⟩, rfl, rfl⟩ := hR2
  rw [hE]
  exact ⟨va2, vk2, rfl, hl, hb, hn⟩
end Go.Proofs.Ytefcdcneenjbgab
/-
  A slice of faults reads as a list of faults in a world (Fs); append of faults to a row of its own (OwnF).
-/
namespace Go.Proofs.Ytefcdcneenjbgab
open Go.RowKit

/-- A fault: cause, device, page, to write. -/
abbrev Fl := Int × Int × Int × Bool
/-- The fault at a place. -/
def fth (l : List Fl) (i : Nat) : Fl := l.getD i (0, 0, 0, false)
theorem fth_get {l : List Fl} {i : Nat} (h : i < l.length) : fth l i = l[i] := by simp [fth, h]

/-- The four cells of a fault. -/
def cellsF (x : Fl) : List Value := [.int .i64 x.1, .int .i64 x.2.1, .int .i64 x.2.2.1, .bool x.2.2.2]
/-- At this place of memory lies this line. -/
def AtF (w : World) (b o : Nat) (x : Fl) : Prop :=
  w.cell? ⟨b, o, none⟩ = some (.int .i64 x.1) ∧ w.cell? ⟨b, o + 1, none⟩ = some (.int .i64 x.2.1) ∧ w.cell? ⟨b, o + 2, none⟩ = some (.int .i64 x.2.2.1) ∧ w.cell? ⟨b, o + 3, none⟩ = some (.bool x.2.2.2)

/-- A slice reads as a list of lines in a world. -/
def Fs (w : World) (v : Value) (l : List Fl) : Prop :=
  ∃ a cap, v = .slice a l.length cap ∧ l.length ≤ cap ∧ cap ≤ maxLen ∧
    (l = [] ∨ ∃ b o, a = some ⟨b, o, none⟩ ∧ b < w.heap.size ∧ ∀ i, i < l.length → AtF w b (o + i * 4) (fth l i))

theorem AtF.keep {w w' : World} {b o : Nat} {x : Fl} (h : AtF w b o x) (hb : Below w.heap.size w w') (hl : b < w.heap.size) : AtF w' b o x := by
  obtain ⟨c, _⟩ := bcell hb
  unfold AtF
  rw [c _ _ hl, c _ _ hl, c _ _ hl, c _ _ hl]
  exact h
theorem Fs.keep {w w' : World} {v : Value} {l : List Fl} (h : Fs w v l) (hb : Below w.heap.size w w') : Fs w' v l := by
  obtain ⟨a, cap, rfl, hl, hm, h⟩ := h
  refine ⟨a, cap, rfl, hl, hm, ?_⟩
  rcases h with h | ⟨b, o, rfl, hlt, hc⟩
  · exact .inl h
  · exact .inr ⟨b, o, rfl, Nat.lt_of_lt_of_le hlt hb.size, fun i hi => (hc i hi).keep hb hlt⟩
theorem Fs.alloc {w : World} {v : Value} {l : List Fl} (h : Fs w v l) (o : Obj) : Fs (w.alloc o) v l := h.keep (bel_alloc (Below.refl _ _) _)
theorem Fs.nil (w : World) (a : Option Addr) (cap : Nat) (h : cap ≤ maxLen) : Fs w (.slice a 0 cap) [] := ⟨a, cap, rfl, Nat.zero_le _, h, .inl rfl⟩
theorem Fs.nothing (w : World) : Fs w (.slice none 0 0) [] := Fs.nil w _ _ (Nat.zero_le _)

theorem infoFault : ∃ i, Try.prog.info? 25 = some i ∧ i.zero = some (.agg #[.int .i64 0, .int .i64 0, .int .i64 0, .bool false]) ∧ i.size = 4 ∧ i.bytes = 32 := by
  have h : (Try.prog.info? 25).map (fun i => (i.zero, i.size, i.bytes)) = some (some (.agg #[.int .i64 0, .int .i64 0, .int .i64 0, .bool false]), 4, 32) := by kernel_rfl
  cases hi : Try.prog.info? 25 with
  | none => rw [hi] at h; simp at h
  | some i => rw [hi] at h; simp at h; exact ⟨i, rfl, h.1, h.2.1, h.2.2⟩

theorem cellsF_len (x : Fl) : (cellsF x).length = 4 := rfl
theorem flatF_len (l : List Fl) : (l.flatMap cellsF).length = l.length * 4 := by
  induction l with
  | nil => rfl
  | cons x t ih => rw [List.flatMap_cons, List.length_append, ih, cellsF_len, List.length_cons]; omega
theorem fth_succ (x : Fl) (t : List Fl) (i : Nat) : fth (x :: t) (i + 1) = fth t i := by simp [fth]
theorem flatF_at (l : List Fl) : ∀ (i r : Nat), i < l.length → r < 4 → (l.flatMap cellsF)[i * 4 + r]? = (cellsF (fth l i))[r]? := by
  induction l with
  | nil => intro i r hi _; exact absurd hi (Nat.not_lt_zero _)
  | cons x t ih =>
    intro i r hi hr
    rw [List.flatMap_cons]
    cases i with
    | zero =>
      rw [Nat.zero_mul, Nat.zero_add, List.getElem?_append_left (by rw [cellsF_len]; exact hr)]
      rfl
    | succ i =>
      rw [List.getElem?_append_right (by rw [cellsF_len]; omega), cellsF_len, fth_succ, ← ih i r (by simpa using hi) hr]
      congr 1; omega
theorem flatF_of {l : List Fl} {j : Nat} {u : Value} (h : (l.flatMap cellsF)[j]? = some u) : ∃ i r, i < l.length ∧ r < 4 ∧ j = i * 4 + r ∧ (cellsF (fth l i))[r]? = some u := by
  have hj : j < l.length * 4 := by
    rw [← flatF_len]
    rcases Nat.lt_or_ge j (l.flatMap cellsF).length with k | k
    · exact k
    · rw [List.getElem?_eq_none k] at h; cases h
  refine ⟨j / 4, j % 4, by omega, by omega, by omega, ?_⟩
  rw [← flatF_at l (j / 4) (j % 4) (by omega) (by omega), ← h]
  congr 1; omega
theorem flatF_one (l : List Fl) : ∀ u ∈ l.flatMap cellsF, u.oneCell' = true := by
  intro u hu
  obtain ⟨x, _, hx⟩ := List.mem_flatMap.1 hu
  simp only [cellsF, List.mem_cons, List.not_mem_nil, or_false] at hx
  rcases hx with rfl | rfl | rfl | rfl <;> rfl
theorem atF_cell {w : World} {b o : Nat} {x : Fl} (h : AtF w b o x) {r : Nat} {u : Value} (hr : r < 4) (hu : (cellsF x)[r]? = some u) : w.cell? ⟨b, o + r, none⟩ = some u := by
  obtain ⟨h0, h1, h2, h3⟩ := h
  match r, hr with
  | 0, _ => simp [cellsF] at hu; subst hu; exact h0
  | 1, _ => simp [cellsF] at hu; subst hu; exact h1
  | 2, _ => simp [cellsF] at hu; subst hu; exact h2
  | 3, _ => simp [cellsF] at hu; subst hu; exact h3

/-- A row of its own that holds these lines. -/
def OwnF (w : World) (base : Nat) (v : Value) (l : List Fl) : Prop := w.ownsRow base 25 4 v l.length (l.flatMap cellsF)

theorem OwnF.lit (w : World) (base : Nat) (h : base ≤ w.heap.size) : OwnF (w.alloc (.cells #[] 25)) base (.slice (some ⟨w.heap.size, 0, none⟩) 0 0) [] :=
  World.ownsRow_lit (base := base) (e := 25) (size := 4) w #[] 0 h (by simp [maxLen]) rfl
theorem OwnF.litAt {w : World} {n : Nat} (e : n = w.heap.size) (base : Nat) (h : base ≤ w.heap.size) : OwnF (w.alloc (.cells #[] 25)) base (.slice (some ⟨n, 0, none⟩) 0 0) [] := by
  subst e; exact OwnF.lit w base h
theorem OwnF.nothing (w : World) (base : Nat) : OwnF w base (.slice none 0 0) [] := World.ownsRow_nil w base _ _
theorem OwnF.alloc {w : World} {base : Nat} {v : Value} {l : List Fl} (h : OwnF w base v l) (o : Obj) : OwnF (w.alloc o) base v l := World.ownsRow.alloc h o
theorem OwnF.drew {w : World} {base : Nat} {v : Value} {l : List Fl} (h : OwnF w base v l) : OwnF w.drew base v l := h
theorem OwnF.ls {w : World} {base : Nat} {v : Value} {l : List Fl} (h : OwnF w base v l) : Fs w v l := by
  have h' := h
  rcases h.2 with ⟨rfl, h0⟩ | ⟨g, cap, cur, rfl, hb, hg, hnc, hcm, hcs, htake⟩
  · obtain rfl : l = [] := List.eq_nil_of_length_eq_zero h0
    exact Fs.nothing w
  · refine ⟨_, cap, rfl, hnc, hcm, .inr ⟨g, 0, rfl, ?_, fun i hi => ?_⟩⟩
    · exact (h.lt g rfl).2
    · have hc : ∀ r, r < 4 → w.cell? ⟨g, 0 + i * 4 + r, none⟩ = (cellsF (fth l i))[r]? := fun r hr => by
        rw [Nat.zero_add]
        have := h.cellAt (i * 4 + r) (by omega)
        rw [this, flatF_at l i r hi hr]
      exact ⟨hc 0 (by omega), hc 1 (by omega), hc 2 (by omega), hc 3 (by omega)⟩
/-- A row's block lies where the base is, or behind. -/
theorem OwnF.base {w : World} {base : Nat} {v : Value} {l : List Fl} (h : OwnF w base v l) : ∀ k, v.ownBlock = some k → base ≤ k := fun k hk => (World.ownsRow.lt h k hk).1

theorem run_append_F (w : World) (ty : TypeId) (base : Nat) (v x : Value) (l1 l2 : List Fl) (hown : OwnF w base v l1) (hx : Fs w x l2) (hn : l1.length + l2.length ≤ 1000) (hbase : base ≤ w.heap.size) (hne : (∃ c m n, v = .slice (some c) m n) ∨ l2 ≠ []) :
    ∃ g cap w', (Builtin.append_ #[70, 70] ty #[v, x]).run Try.prog w = .ok (.slice (some ⟨g, 0, none⟩) (l1 ++ l2).length cap) w' ∧ OwnF w' base (.slice (some ⟨g, 0, none⟩) (l1 ++ l2).length cap) (l1 ++ l2) ∧ w.grownBy w' v.ownBlock ∧ (v.ownBlock = some g ∨ g = w.heap.size) := by
  obtain ⟨i, hi, hz, hsz, hby⟩ := infoFault
  obtain ⟨a, cap, rfl, hl, hm, h⟩ := hx
  rcases h with rfl | ⟨b, o, rfl, hb, hc⟩
  · rcases hown.2 with ⟨rfl, h0⟩ | ⟨g, c, cur, rfl, hbg, hg, hnc, hcm, hcs, htake⟩
    · rcases hne with ⟨_, _, _, hne⟩ | hne
      · simp at hne
      · exact absurd rfl hne
    · refine ⟨g, c, w, ?_, ?_, ⟨rfl, rfl, rfl, Nat.le_refl _, fun _ _ _ => rfl⟩, .inl rfl⟩
      · cases a <;>
        simp [Builtin.append_, run_underlying Try.underlying70, sizeOf, typeInfo, hi, Builtin.lenOf, Builtin.firstCells, loadCells, loadCellsFrom, hnc, storeCells]
      · simpa using hown
  · by_cases h0 : l2 = []
    · subst h0
      rcases hown.2 with ⟨rfl, h0⟩ | ⟨g, c, cur, rfl, hbg, hg, hnc, hcm, hcs, htake⟩
      · rcases hne with ⟨_, _, _, hne⟩ | hne
        · simp at hne
        · exact absurd rfl hne
      · refine ⟨g, c, w, ?_, ?_, ⟨rfl, rfl, rfl, Nat.le_refl _, fun _ _ _ => rfl⟩, .inl rfl⟩
        · simp [Builtin.append_, run_underlying Try.underlying70, sizeOf, typeInfo, hi, Builtin.lenOf, Builtin.firstCells, loadCells, loadCellsFrom, hnc, storeCells]
        · simpa using hown
    · have hpos : 0 < l2.length := List.length_pos_iff.2 h0
      obtain ⟨g, c, w', hr, ho, hgr, hat, _⟩ := run_append_lies (P := Try.prog) w 70 ty base 25 i _ 4 32 Try.underlying70 hi hz hsz hby rfl (by omega) v l1.length (l1.flatMap cellsF) hown ⟨b, o, none⟩ l2.length cap (l2.flatMap cellsF) (flatF_len l2)
        (fun j u hu => by
          obtain ⟨i', r, h1, h2, rfl, h4⟩ := flatF_of hu
          rw [add_off, ← Nat.add_assoc]
          exact atF_cell (hc i' h1) h2 h4)
        (flatF_one l2) hpos (by unfold maxLen; omega) (by omega) hbase w.heap.size rfl
      refine ⟨g, c, w', ?_, ?_, hgr, hat⟩
      · rw [List.length_append]; exact hr
      · unfold OwnF; rw [List.length_append, List.flatMap_append]; exact ho

theorem wp_append_F {w : World} {o : Oper} {a : Act} {K : Act → World → Prop} {Q : Exit → Act → World → Prop} (s x : Operand)
    (ho : o.op = .call { callee := .builtin .append, args := #[s, x], argTypes := #[70, 70] })
    (base : Nat) (v u : Value) (l1 l2 : List Fl) (hs : a.eval s = v) (hu : a.eval x = u) (hown : OwnF w base v l1) (hx : Fs w u l2) (hn : l1.length + l2.length ≤ 1000) (hbase : base ≤ w.heap.size) (hne : (∃ c m n, v = .slice (some c) m n) ∨ l2 ≠ [])
    (h : ∀ g cap w', OwnF w' base (.slice (some ⟨g, 0, none⟩) (l1 ++ l2).length cap) (l1 ++ l2) → w.grownBy w' v.ownBlock → Below base w w' → (v.ownBlock = some g ∨ g = w.heap.size) → K (a.put o.dst (.slice (some ⟨g, 0, none⟩) (l1 ++ l2).length cap)) w') : o.wp Try.prog a w K Q := by
  obtain ⟨g, cap, w', hr, h2, h3, h4⟩ := run_append_F w o.type base v u l1 l2 hown hx hn hbase hne
  unfold Oper.wp execOp
  simp only [ho, resolve, invoke, builtin, Sem.run_bind, Sem.run_pure, Result.andThen_ok, List.map_toArray, List.map_cons, List.map_nil, hs, hu, hr]
  exact h g cap w' h2 h3 ((Below.refl base w).grown h3 hbase hown.base) h4

theorem wpList_append_F {w : World} {ops : Array Oper} {rest : List Oper} {o : Oper} {a : Act} {Q : Exit → Act → World → Prop} (hgd : o.guard = none) (s x : Operand)
    (ho : o.op = .call { callee := .builtin .append, args := #[s, x], argTypes := #[70, 70] })
    (base : Nat) (v u : Value) (l1 l2 : List Fl) (hs : a.eval s = v) (hu : a.eval x = u) (hown : OwnF w base v l1) (hx : Fs w u l2) (hn : l1.length + l2.length ≤ 1000) (hbase : base ≤ w.heap.size) (hne : (∃ c m n, v = .slice (some c) m n) ∨ l2 ≠ [])
    (h : ∀ g cap w', OwnF w' base (.slice (some ⟨g, 0, none⟩) (l1 ++ l2).length cap) (l1 ++ l2) → w.grownBy w' v.ownBlock → Below base w w' → (v.ownBlock = some g ∨ g = w.heap.size) → wpList Try.prog ops Q rest (a.put o.dst (.slice (some ⟨g, 0, none⟩) (l1 ++ l2).length cap)) w') :
    wpList Try.prog ops Q (o :: rest) a w :=
  wpList_plain hgd fun _ hK => wp_append_F s x ho base v u l1 l2 hs hu hown hx hn hbase hne fun g cap w' h2 h3 hb h4 => hK _ _ (h g cap w' h2 h3 hb h4)

theorem step_append_F {w : World} {ops : Array Oper} {o : Oper} {a : Act} {K : Act → World → Prop} {Q : Exit → Act → World → Prop} {E : Prop} (hgd : o.guard = none) (s x : Operand)
    (ho : o.op = .call { callee := .builtin .append, args := #[s, x], argTypes := #[70, 70] })
    (base : Nat) (v u : Value) (l1 l2 : List Fl) (hs : a.eval s = v) (hu : a.eval x = u) (hown : OwnF w base v l1) (hx : Fs w u l2) (hn : l1.length + l2.length ≤ 1000) (hbase : base ≤ w.heap.size) (hne : (∃ c m n, v = .slice (some c) m n) ∨ l2 ≠ [])
    (h : ∀ g cap w', OwnF w' base (.slice (some ⟨g, 0, none⟩) (l1 ++ l2).length cap) (l1 ++ l2) → w.grownBy w' v.ownBlock → Below base w w' → (v.ownBlock = some g ∨ g = w.heap.size) → K (a.put o.dst (.slice (some ⟨g, 0, none⟩) (l1 ++ l2).length cap)) w') :
    if Region.wanted o (yielded ops a.tmps) = true then Oper.wp Try.prog o a w K Q else E := by
  have hw : Region.wanted o (yielded ops a.tmps) = true := by simp [Region.wanted, hgd]
  rw [if_pos hw]
  exact wp_append_F s x ho base v u l1 l2 hs hu hown hx hn hbase hne h


/-- A fault in a block of its own, as a slice. -/
theorem fs_oneAt {w : World} {n : Nat} (h : n = w.heap.size) (d p a : Int) (r : Bool) (fr : Nat × Nat) : Fs (w.alloc (.cells #[.int .i64 d, .int .i64 p, .int .i64 a, .bool r] 25 fr)) (.slice (some ⟨n, 0, none⟩) 1 1) [(d, p, a, r)] := by
  subst h
  have k := Blk.new w #[.int .i64 d, .int .i64 p, .int .i64 a, .bool r] 25 fr
  refine ⟨_, 1, rfl, Nat.le_refl _, by simp [maxLen], .inr ⟨w.heap.size, 0, rfl, by simp, fun i hi => ?_⟩⟩
  obtain rfl : i = 0 := by simpa using hi
  exact ⟨k.cell 0, k.cell 1, k.cell 2, k.cell 3⟩
/-- A row's block lies where it did. -/
theorem OwnF.lt {w : World} {base : Nat} {v : Value} {l : List Fl} (h : OwnF w base v l) : ∀ k, v.ownBlock = some k → k < w.heap.size := fun k hk => (World.ownsRow.lt h k hk).2
theorem OwnF.keep {w w' : World} {base : Nat} {v : Value} {l : List Fl} (h : OwnF w base v l) (hb : ∀ k, v.ownBlock = some k → w'.heap[k]? = w.heap[k]?) : OwnF w' base v l := by
  obtain ⟨h1, h2⟩ := h
  refine ⟨h1, ?_⟩
  rcases h2 with h2 | ⟨g, cap, cur, rfl, hb0, hg, r⟩
  · exact .inl h2
  · exact .inr ⟨g, cap, cur, rfl, hb0, by rw [hb g (by simp [Value.ownBlock])]; exact hg, r⟩
theorem OwnF.shape {w : World} {base : Nat} {v : Value} {l : List Fl} (h : OwnF w base v l) : ∃ a c, v = .slice a l.length c := by
  rcases h.2 with ⟨rfl, h0⟩ | ⟨g, cap, cur, rfl, hb, hg, hnc, hcm, hcs, htake⟩
  · obtain rfl : l = [] := List.eq_nil_of_length_eq_zero h0
    exact ⟨_, _, rfl⟩
  · exact ⟨_, _, rfl⟩
theorem OwnF.below {w w' : World} {base : Nat} {v : Value} {l : List Fl} (h : OwnF w base v l) (hb : Below w.heap.size w w') : OwnF w' base v l := h.keep fun k hk => hb.block k (h.lt k hk)
theorem OwnF.set {w : World} {base n : Nat} {v : Value} {l : List Fl} (h : OwnF w base v l) {p : Addr} (hp : p.block = n) (hn : n < base) (u : Value) : OwnF (w.setCell p u) base v l :=
  h.keep fun k hk => heap_setCell_other w p k u (by have := h.base k hk; omega)
end Go.Proofs.Ytefcdcneenjbgab
/-
  Faults in their ring, told one behind the other: numbers alone; and what a store, an append leave of faults, lines.
-/
namespace Go.Proofs.Ytefcdcneenjbgab
open Go.RowKit

def fw (f : Fl) : Int := fW f.1 f.2.1 f.2.2.1 f.2.2.2
/-- What waits: the words that were there, then those of the faults. -/
def wts (zs : List Int) (fp fh : Int) (n0 : Nat) (wt : List Fl) : List Int := wl zs fp fh n0 ++ wt.map fw
theorem wts_len (zs : List Int) (fp fh : Int) (n0 : Nat) (wt : List Fl) : (wts zs fp fh n0 wt).length = n0 + wt.length := by simp [wts, wl_len]
theorem wts_push (zs : List Int) (fp fh : Int) (n0 : Nat) (wt : List Fl) (f : Fl) : wts zs fp fh n0 (wt ++ [f]) = wts zs fp fh n0 wt ++ [fw f] := by simp [wts]
theorem wts_at {zs : List Int} {fp fh : Int} {n0 : Nat} {wt : List Fl} {j : Nat} (h : j < wt.length) : nth (wts zs fp fh n0 wt) (n0 + j) = fw (fth wt j) := by
  unfold wts nth
  rw [List.getD_eq_getElem?_getD, List.getElem?_append_right (by rw [wl_len]; omega), wl_len]
  simp [fth, h]
/-- The state of the ring behind some faults. -/
def FState (zs : List Int) (fp fh : Int) (n0 : Nat) (wt : List Fl) (zj : List Int) : Prop :=
  chk zj = 0 ∧ Lies zj fp fh (wts zs fp fh n0 wt) ∧ n0 + wt.length ≤ 7 ∧ ∀ f ∈ wt, fE f.1 f.2.1 f.2.2.1 = 0
def tlj (fh : Int) (n : Nat) : Int := (fh + (n : Int)) % 8

/-- One more fault is told, or it is lost. -/
theorem tell_step {zs zj : List Int} {mo ba op oh ot fe fp fh : Int} {st lo : Bool} {l : List Ln} {n0 : Nat} {wt : List Fl} {c d p : Int} {x : Bool}
    (hF : FState zs fp fh n0 wt zj) (hE : tlE zj ⟨mo, ba, l, op, oh, ot, st, fe, fp, fh, tlj fh (n0 + wt.length), lo⟩ c d p = 0) :
    (lenR fh (tlj fh (n0 + wt.length)) = n0 + wt.length) ∧
    (((lo = true ∨ n0 + wt.length = 7) ∧ tlM zj ⟨mo, ba, l, op, oh, ot, st, fe, fp, fh, tlj fh (n0 + wt.length), lo⟩ c d p x = zj ∧ tlB zj ⟨mo, ba, l, op, oh, ot, st, fe, fp, fh, tlj fh (n0 + wt.length), lo⟩ c d p = ⟨mo, ba, l, op, oh, ot, st, fe, fp, fh, tlj fh (n0 + wt.length), true⟩) ∨
     (lo = false ∧ n0 + wt.length < 7 ∧ ∃ zn, tlM zj ⟨mo, ba, l, op, oh, ot, st, fe, fp, fh, tlj fh (n0 + wt.length), lo⟩ c d p x = zn ∧ FState zs fp fh n0 (wt ++ [(c, d, p, x)]) zn ∧ tlB zj ⟨mo, ba, l, op, oh, ot, st, fe, fp, fh, tlj fh (n0 + wt.length), lo⟩ c d p = ⟨mo, ba, l, op, oh, ot, st, fe, fp, fh, tlj fh (n0 + (wt ++ [((c, d, p, x) : Fl)]).length), false⟩)) := by
  obtain ⟨f1, f2, f3, f4⟩ := hF
  have hl : lenR fh (tlj fh (n0 + wt.length)) = ((n0 + wt.length : Nat) : Int) := len_steps (by omega)
  have hl' : lenR fh (tlj fh (n0 + wt.length)) = n0 + wt.length := by rw [hl]; simp
  refine ⟨hl', ?_⟩
  obtain ⟨_, h2, h3⟩ := tlE_ok hE
  have hp : 0 ≤ fp ∧ fp < 64 := pageR_in (chkR_ok (chkB_ok h2).2.2.2.2.2).1
  by_cases hfu : lo = true ∨ n0 + wt.length = 7
  · have hf : fullB ⟨mo, ba, l, op, oh, ot, st, fe, fp, fh, tlj fh (n0 + wt.length), lo⟩ = true := by
      rcases hfu with h | h
      · simp [fullB, h]
      · simp only [fullB, Bool.or_eq_true, decide_eq_true_eq]; right; rw [hl']; omega
    refine .inl ⟨hfu, ?_, ?_⟩
    · rw [tlM, if_pos hE, if_pos hf]
    · rw [tlB, if_pos hE, if_pos hf]
  · have hlo : lo = false := by
      cases lo
      · rfl
      · exact absurd (.inl rfl) hfu
    have h7 : n0 + wt.length < 7 := by
      have : ¬ n0 + wt.length = 7 := fun h => hfu (.inr h)
      omega
    have hf : ¬ fullB ⟨mo, ba, l, op, oh, ot, st, fe, fp, fh, tlj fh (n0 + wt.length), lo⟩ = true := by
      simp only [fullB, Bool.or_eq_true, decide_eq_true_eq, not_or]
      refine ⟨by rw [hlo]; decide, ?_⟩
      rw [hl']; omega
    refine .inr ⟨hlo, h7, _, rfl, ⟨(tl_good x hE).1, ?_, by simp; omega, ?_⟩, ?_⟩
    · rw [tlM, if_pos hE, if_neg hf, wts_push]
      have := lies_push (x := fW c d p x) (chk_ok f1).1 hp (by rw [wts_len]; omega) f2
      rw [wts_len] at this
      exact this
    · intro f hf'
      rcases List.mem_append.1 hf' with h | h
      · exact f4 f h
      · obtain rfl := List.mem_singleton.1 h; exact h3
    · rw [tlB, if_pos hE, if_neg hf, hlo]
      simp only [Br.mk.injEq, true_and, and_true]
      have := step_next fh (n0 + wt.length)
      simp only [tlj, List.length_append, List.length_cons, List.length_nil]
      exact this
/-- What an append leaves of lines, of words. -/
theorem Ls.grownA {w w' : World} {v : Value} {l : List Ln} {row : Option Nat} (h : Ls w v l) (hg : w.grownBy w' row) (ha : ∀ g, row = some g → Apart v l g) : Ls w' v l := by
  obtain ⟨a, cap, rfl, hl, hm, h⟩ := h
  rcases h with h | ⟨b, o, rfl, hb, hc⟩
  · exact ⟨a, cap, rfl, hl, hm, .inl h⟩
  · by_cases h0 : l = []
    · exact ⟨_, cap, rfl, hl, hm, .inl h0⟩
    · have hne : some b ≠ row := fun e => by
        rcases ha b e.symm with h | h
        · exact h0 h
        · exact h b o _ _ rfl rfl
      have hblk := hg.block b hb hne
      refine ⟨_, cap, rfl, hl, hm, .inr ⟨b, o, rfl, Nat.lt_of_lt_of_le hb hg.size, fun i hi => ?_⟩⟩
      have hcell : ∀ j, w'.cell? ⟨b, j, none⟩ = w.cell? ⟨b, j, none⟩ := fun j => World.cell?_of_block (a := ⟨b, j, none⟩) hblk
      unfold AtL
      rw [hcell, hcell, hcell, hcell, hcell]
      exact hc i hi
theorem Fs.setOther {w : World} {v : Value} {l : List Fl} (h : Fs w v l) {p : Addr} (hp : v.ownBlock ≠ some p.block) (u : Value) : Fs (w.setCell p u) v l := by
  obtain ⟨a, cap, rfl, hl, hm, h⟩ := h
  refine ⟨a, cap, rfl, hl, hm, ?_⟩
  rcases h with h | ⟨b, o, rfl, hlt, hc⟩
  · exact .inl h
  · refine .inr ⟨b, o, rfl, by simpa [World.setCell] using hlt, fun i hi => ?_⟩
    have hne : ∀ j, p ≠ ⟨b, j, none⟩ := fun j e => hp (by rw [e]; simp [Value.ownBlock])
    obtain ⟨h0, h1, h2, h3⟩ := hc i hi
    unfold AtF
    rw [World.cell?_setCell_other (h := hne _), World.cell?_setCell_other (h := hne _), World.cell?_setCell_other (h := hne _), World.cell?_setCell_other (h := hne _)]
    exact ⟨h0, h1, h2, h3⟩
theorem Fs.at {w : World} {v : Value} {l : List Fl} (h : Fs w v l) {k : Nat} (hk : k < l.length) : ∃ b o cap, v = .slice (some ⟨b, o, none⟩) l.length cap ∧ b < w.heap.size ∧ AtF w b (o + k * 4) (fth l k) := by
  obtain ⟨a, cap, rfl, _, _, h⟩ := h
  rcases h with rfl | ⟨b, o, rfl, hb, hc⟩
  · exact absurd hk (Nat.not_lt_zero _)
  · exact ⟨b, o, cap, rfl, hb, hc k hk⟩
theorem Fs.drewN {w : World} {v : Value} {l : List Fl} (h : Fs w v l) (n : Nat) : Fs (w.drewN n) v l := h
theorem szC (w : World) (p : Addr) (u : Value) : (w.setCell p u).heap.size = w.heap.size := by simp [World.setCell]
theorem szD (w : World) : w.drew.heap.size = w.heap.size := rfl
theorem OwnF.set12 {w : World} {base n : Nat} {v : Value} {l : List Fl} (h : OwnF w base v l) (hn : n < base) (u0 u1 u2 u3 u4 u5 u6 u7 u8 u9 u10 u11 : Value) : OwnF ((((((((((((w.setCell ⟨n, 0, none⟩ u0).setCell ⟨n, 1, none⟩ u1).setCell ⟨n, 2, none⟩ u2).setCell ⟨n, 3, none⟩ u3).setCell ⟨n, 4, none⟩ u4).setCell ⟨n, 5, none⟩ u5).setCell ⟨n, 6, none⟩ u6).setCell ⟨n, 7, none⟩ u7).setCell ⟨n, 8, none⟩ u8).setCell ⟨n, 9, none⟩ u9).setCell ⟨n, 10, none⟩ u10).setCell ⟨n, 11, none⟩ u11) base v l :=
  ((((((((((((h.set (p := ⟨n, 0, none⟩) rfl hn u0).set (p := ⟨n, 1, none⟩) rfl hn u1).set (p := ⟨n, 2, none⟩) rfl hn u2).set (p := ⟨n, 3, none⟩) rfl hn u3).set (p := ⟨n, 4, none⟩) rfl hn u4).set (p := ⟨n, 5, none⟩) rfl hn u5).set (p := ⟨n, 6, none⟩) rfl hn u6).set (p := ⟨n, 7, none⟩) rfl hn u7).set (p := ⟨n, 8, none⟩) rfl hn u8).set (p := ⟨n, 9, none⟩) rfl hn u9).set (p := ⟨n, 10, none⟩) rfl hn u10).set (p := ⟨n, 11, none⟩) rfl hn u11)
end Go.Proofs.Ytefcdcneenjbgab
