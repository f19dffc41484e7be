/-
  Laid together: TellB, ObeyB, TellAt, ContainsL.
-/
import Derived.Test.YtemnklppplgcoabT9
import Derived.Deep.RegionWith
/-
  Package bridge: Tell: what it answers, of anything; nothing that was there turns.
-/
namespace Go.Proofs.Ytemnklppplgcoab
open Go.RowKit

theorem Sl.drew {w : World} {v : Value} {zs : List Int} (h : Sl w v zs) : Sl w.drew v zs := h
theorem Sl.drewN {w : World} {v : Value} {zs : List Int} (h : Sl w v zs) (n : Nat) : Sl (w.drewN n) v zs := h
theorem Sl.alloc {w : World} {v : Value} {zs : List Int} (h : Sl w v zs) (o : Obj) : Sl (w.alloc o) v zs := h.keep (bel_alloc (Below.refl _ _) _)
theorem Sl.put12 {w : World} {v : Value} {zs : List Int} (h : Sl w v zs) {n : Nat} (hn : v.ownBlock ≠ some n) (u0 u1 u2 u3 u4 u5 u6 u7 u8 u9 u10 u11 : Value) :
    Sl ((((((((((((w.setCell ⟨n, 0, none⟩ u0).setCell ⟨n, 1, none⟩ u1).setCell ⟨n, 2, none⟩ u2).setCell ⟨n, 3, none⟩ u3).setCell ⟨n, 4, none⟩ u4).setCell ⟨n, 5, none⟩ u5).setCell ⟨n, 6, none⟩ u6).setCell ⟨n, 7, none⟩ u7).setCell ⟨n, 8, none⟩ u8).setCell ⟨n, 9, none⟩ u9).setCell ⟨n, 10, none⟩ u10).setCell ⟨n, 11, none⟩ u11) v zs :=
  (((((((((((h.setOther (p := ⟨n, 0, none⟩) hn u0).setOther (p := ⟨n, 1, none⟩) hn u1).setOther (p := ⟨n, 2, none⟩) hn u2).setOther (p := ⟨n, 3, none⟩) hn u3).setOther (p := ⟨n, 4, none⟩) hn u4).setOther (p := ⟨n, 5, none⟩) hn u5).setOther (p := ⟨n, 6, none⟩) hn u6).setOther (p := ⟨n, 7, none⟩) hn u7).setOther (p := ⟨n, 8, none⟩) hn u8).setOther (p := ⟨n, 9, none⟩) hn u9).setOther (p := ⟨n, 10, none⟩) hn u10).setOther (p := ⟨n, 11, none⟩) hn u11

/-- A block of one cell holds no line. -/
theorem Ls.apart1 {w : World} {v : Value} {l : List Ln} (hl : Ls w v l) {n : Nat} {t : TypeId} {u : Value} (h : Box w n t #[u]) : Apart v l n := by
  obtain ⟨a, cap, rfl, _, _, hl⟩ := hl
  rcases hl with rfl | ⟨b, o, rfl, _, hc⟩
  · exact .inl rfl
  · by_cases h0 : l = []
    · exact .inl h0
    · refine .inr fun b' o' k c e => ?_
      simp only [Value.slice.injEq, Option.some.injEq, Addr.mk.injEq, and_true] at e
      obtain ⟨⟨rfl, rfl⟩, -⟩ := e
      rintro rfl
      obtain ⟨_, h1, _⟩ := hc 0 (List.length_pos_iff.2 h0)
      rw [h.cell, Array.getElem?_eq_none (by simp)] at h1
      simp at h1
theorem Fresh.neB {base n : Nat} {v : Value} (h : Fresh base v) (k : n < base) : v.ownBlock ≠ some n := h.ne k

/-- What comes out of Tell, as letters. -/
abbrev TlOut (zs : List Int) (b : Br) (c d p : Int) (x : Bool) (w : World) (e : Ending) (w' : World) : Prop :=
  ∃ ma1 mn1 mc1 mo1 ba1 op1 oh1 ot1 fe1 fp1 fh1 ft1 st1 lo1 va1 vk1 l1, e = .returned (.tuple #[.agg #[.slice ma1 mn1 mc1], .agg #[.int .i64 mo1, .int .i64 ba1, .slice va1 l1.length vk1, .int .i64 op1, .int .i64 oh1, .int .i64 ot1, .bool st1, .int .i64 fe1, .int .i64 fp1, .int .i64 fh1, .int .i64 ft1, .bool lo1], .int .i64 (tlE zs b c d p)]) ∧ tlB zs b c d p = ⟨mo1, ba1, l1, op1, oh1, ot1, st1, fe1, fp1, fh1, ft1, lo1⟩ ∧ Sl w' (.slice ma1 mn1 mc1) (tlM zs b c d p x) ∧ Ls w' (.slice va1 l1.length vk1) l1 ∧ Below w.heap.size w w'

/-- The same, and that the words and the lines lie in new memory. -/
abbrev TlOutF (zs : List Int) (b : Br) (c d p : Int) (x : Bool) (w : World) (e : Ending) (w' : World) : Prop :=
  ∃ ma1 mn1 mc1 mo1 ba1 op1 oh1 ot1 fe1 fp1 fh1 ft1 st1 lo1 va1 vk1 l1, e = .returned (.tuple #[.agg #[.slice ma1 mn1 mc1], .agg #[.int .i64 mo1, .int .i64 ba1, .slice va1 l1.length vk1, .int .i64 op1, .int .i64 oh1, .int .i64 ot1, .bool st1, .int .i64 fe1, .int .i64 fp1, .int .i64 fh1, .int .i64 ft1, .bool lo1], .int .i64 (tlE zs b c d p)]) ∧ tlB zs b c d p = ⟨mo1, ba1, l1, op1, oh1, ot1, st1, fe1, fp1, fh1, ft1, lo1⟩ ∧ Sl w' (.slice ma1 mn1 mc1) (tlM zs b c d p x) ∧ Ls w' (.slice va1 l1.length vk1) l1 ∧ Below w.heap.size w w' ∧ Fresh w.heap.size (.slice ma1 mn1 mc1) ∧ Fresh w.heap.size (.slice va1 l1.length vk1)
theorem fresh_at {base g : Nat} (h : base ≤ g) (o n c : Nat) : Fresh base (.slice (some ⟨g, o, none⟩) n c) := fun k hk => by simp [Value.ownBlock] at hk; omega

set_option maxHeartbeats 4000000 in
theorem tell_anyF (v : Value) (zs : List Int) (mo ba op oh ot fe fp fh ft : Int) (st lo : Bool) (vc : Value) (l : List Ln) (c d p : Int) (x : Bool) (w : World) (hs : Sl w v zs) (h : Ls w vc l) :
    Calls Try.prog 29 #[.agg #[v], .agg #[.int .i64 mo, .int .i64 ba, vc, .int .i64 op, .int .i64 oh, .int .i64 ot, .bool st, .int .i64 fe, .int .i64 fp, .int .i64 fh, .int .i64 ft, .bool lo], .agg #[.int .i64 c, .int .i64 d, .int .i64 p, .bool x]] w fun e w' => TlOutF zs ⟨mo, ba, l, op, oh, ot, st, fe, fp, fh, ft, lo⟩ c d p x w e w' := by
  have HS : Hid (Ls w vc l) := h
  obtain ⟨va, vk, rfl, -⟩ := h.shape
  have HM : Hid (Sl w v zs) := hs
  obtain ⟨ma, mc, rfl⟩ := hs.shape
  clear h hs
  go_enter Try.func29, Try.ntmps29
  go_wp2_with fail
  have B0 : Hid (Below w.heap.size w _) := bel_alloc (bel_alloc (bel_alloc (bel_alloc (bel_alloc (Below.refl w.heap.size w) (.cells #[.slice ma zs.length mc] 39)) (.cells #[.int .i64 mo, .int .i64 ba, .slice va l.length vk, .int .i64 op, .int .i64 oh, .int .i64 ot, .bool st, .int .i64 fe, .int .i64 fp, .int .i64 fh, .int .i64 ft, .bool lo] 44)) (.cells #[.int .i64 c, .int .i64 d, .int .i64 p, .bool x] 25)) (.cells #[.slice none 0 0] 39)) (.cells #[.int .i64 0, .int .i64 0, .slice none 0 0, .int .i64 0, .int .i64 0, .int .i64 0, .bool false, .int .i64 0, .int .i64 0, .int .i64 0, .int .i64 0, .bool false] 44)
  refine (checkBothB_any _ zs mo ba op oh ot fe fp fh ft st lo (.slice va l.length vk) l _ (HM.out.keep B0.out) (HS.out.keep B0.out)).mono ?_
  rintro e w1 ⟨rfl, b1⟩
  have X0 := (((((Box.newAt (n := w.heap.size) rfl 39 #[.slice ma zs.length mc]).past _).past _).past _).past _).keep b1
  have X1 := ((((Box.newAt (n := w.heap.size + 1) (by simp) 44 #[.int .i64 mo, .int .i64 ba, .slice va l.length vk, .int .i64 op, .int .i64 oh, .int .i64 ot, .bool st, .int .i64 fe, .int .i64 fp, .int .i64 fh, .int .i64 ft, .bool lo]).past _).past _).past _).keep b1
  have X2 := (((Box.newAt (n := w.heap.size + 1 + 1) (by simp) 25 #[.int .i64 c, .int .i64 d, .int .i64 p, .bool x]).past _).past _).keep b1
  have X3 := ((Box.newAt (n := w.heap.size + 1 + 1 + 1) (by simp) 39 #[.slice none 0 0]).past _).keep b1
  have X4 := (Box.newAt (n := w.heap.size + 1 + 1 + 1 + 1) (by simp) 44 #[.int .i64 0, .int .i64 0, .slice none 0 0, .int .i64 0, .int .i64 0, .int .i64 0, .bool false, .int .i64 0, .int .i64 0, .int .i64 0, .int .i64 0, .bool false]).keep b1
  have B1 : Hid (Below w.heap.size w w1) := bel_trans B0.out b1
  clear b1 B0
  obtain ⟨m0, -, s0⟩ := X0.one
  obtain ⟨⟨q0, q1, q2, q3, q4, q5, q6, q7, q8, q9, q10, q11⟩, s1⟩ := X1.twelve
  obtain ⟨f0, f1, f2, f3, -, -, -, -, s2⟩ := X2.four
  obtain ⟨r0, r1, s3⟩ := X3.one
  obtain ⟨⟨u0, u1, u2, u3, u4, u5, u6, u7, u8, u9, u10, u11⟩, s4⟩ := X4.twelve
  obtain ⟨y0, y1, y2, y3, y4, y5, y6, y7, y8, y9, y10, y11⟩ := X4.marks
  by_cases hk : bothB zs ⟨mo, ba, l, op, oh, ot, st, fe, fp, fh, ft, lo⟩ = 0
  rotate_left
  · have HE : Hid (tlE zs ⟨mo, ba, l, op, oh, ot, st, fe, fp, fh, ft, lo⟩ c d p = bothB zs ⟨mo, ba, l, op, oh, ot, st, fe, fp, fh, ft, lo⟩) := if_neg hk
    have HB : Hid (tlB zs ⟨mo, ba, l, op, oh, ot, st, fe, fp, fh, ft, lo⟩ c d p = B0) := if_neg (by rw [HE.out]; exact hk)
    have HT : Hid (tlM zs ⟨mo, ba, l, op, oh, ot, st, fe, fp, fh, ft, lo⟩ c d p x = []) := if_neg (by rw [HE.out]; exact hk)
    generalize bothB zs ⟨mo, ba, l, op, oh, ot, st, fe, fp, fh, ft, lo⟩ = E at *
    have hq : (E != 0) = true := by simpa using hk
    go_wp2
    refine bodyPost_ret (v := .tuple #[.agg #[.slice none 0 0], .agg #[.int .i64 0, .int .i64 0, .slice none 0 0, .int .i64 0, .int .i64 0, .int .i64 0, .bool false, .int .i64 0, .int .i64 0, .int .i64 0, .int .i64 0, .bool false], .int .i64 E]) (by simp [results, Try.results29, go_sem, *]) rfl ⟨_, _, _, _, _, _, _, _, _, _, _, _, _, _, _, _, [], by rw [HE.out]; rfl, HB.out, by rw [HT.out]; exact Sl.nil _ _ _, Ls.nothing _, ?_, Fresh.none _ _ _, Fresh.none _ _ _⟩
    (repeat (first | with_reducible exact B1.out | with_reducible refine bel_alloc ?_ _ | (with_reducible refine bel_set12 ?_ ?_ _ _ _ _ _ _ _ _ _ _ _ _; (focus omega)) | (with_reducible refine bel_set ?_ ?_ _; (focus (dsimp only; omega)))))
  rw [hk]
  go_wp2_with fail
  refine (putFault_any c d p x _).mono ?_
  rintro e w2 ⟨rfl, b2⟩
  clear q0 q1 q2 q3 q4 q5 q6 q7 q8 q9 q10 q11 u0 u1 u2 u3 u4 u5 u6 u7 u8 u9 u10 u11 y0 y1 y2 y3 y4 y5 y6 y7 y8 y9 y10 y11 m0 s0 s1 r0 r1 s3 s4 f0 f1 f2 f3 s2
  have X0 := X0.keep b2
  have X1 := X1.keep b2
  have X3 := X3.keep b2
  have X4 := X4.keep b2
  have B2 : Hid (Below w.heap.size w w2) := bel_trans B1.out b2
  clear b2 B1 X2
  obtain ⟨m0, -, s0⟩ := X0.one
  obtain ⟨⟨q0, q1, q2, q3, q4, q5, q6, q7, q8, q9, q10, q11⟩, s1⟩ := X1.twelve
  obtain ⟨r0, r1, s3⟩ := X3.one
  obtain ⟨⟨u0, u1, u2, u3, u4, u5, u6, u7, u8, u9, u10, u11⟩, s4⟩ := X4.twelve
  obtain ⟨y0, y1, y2, y3, y4, y5, y6, y7, y8, y9, y10, y11⟩ := X4.marks
  by_cases hf : fE c d p = 0
  rotate_left
  · have HE : Hid (tlE zs ⟨mo, ba, l, op, oh, ot, st, fe, fp, fh, ft, lo⟩ c d p = fE c d p) := if_pos hk
    have HB : Hid (tlB zs ⟨mo, ba, l, op, oh, ot, st, fe, fp, fh, ft, lo⟩ c d p = B0) := if_neg (by rw [HE.out]; exact hf)
    have HT : Hid (tlM zs ⟨mo, ba, l, op, oh, ot, st, fe, fp, fh, ft, lo⟩ c d p x = []) := if_neg (by rw [HE.out]; exact hf)
    generalize fE c d p = E at *
    have hq : (E != 0) = true := by simpa using hf
    go_wp2
    refine bodyPost_ret (v := .tuple #[.agg #[.slice none 0 0], .agg #[.int .i64 0, .int .i64 0, .slice none 0 0, .int .i64 0, .int .i64 0, .int .i64 0, .bool false, .int .i64 0, .int .i64 0, .int .i64 0, .int .i64 0, .bool false], .int .i64 E]) (by simp [results, Try.results29, go_sem, *]) rfl ⟨_, _, _, _, _, _, _, _, _, _, _, _, _, _, _, _, [], by rw [HE.out]; rfl, HB.out, by rw [HT.out]; exact Sl.nil _ _ _, Ls.nothing _, ?_, Fresh.none _ _ _, Fresh.none _ _ _⟩
    (repeat (first | with_reducible exact B2.out | with_reducible refine bel_alloc ?_ _ | (with_reducible refine bel_set12 ?_ ?_ _ _ _ _ _ _ _ _ _ _ _ _; (focus omega)) | (with_reducible refine bel_set ?_ ?_ _; (focus (dsimp only; omega)))))
  have hE : tlE zs ⟨mo, ba, l, op, oh, ot, st, fe, fp, fh, ft, lo⟩ c d p = 0 := by rw [tlE, if_pos hk, hf]
  have HE : Hid (_ = _) := hE
  have hl6 : l.length ≤ 6 := (chkC_zero.1 (chkB_ok (bothB_ok hk).2).2.2.2.1).1
  have HZ : Hid (chk zs = 0) := (bothB_ok hk).1
  have HF : Hid (chkR fp fh ft = 0) := (chkB_ok (bothB_ok hk).2).2.2.2.2.2
  have HN : Hid (zs.length = 512) := (chk_ok HZ.out).1
  have HW : Hid (wordB (fW c d p x) = true) := fW_word x hf
  obtain ⟨W0, hW0⟩ : ∃ z, fW c d p x = z := ⟨_, rfl⟩
  have HW0 : Hid (_ = _) := hW0
  rw [hf, hW0]
  clear hk hE hf hW0
  go_wp2_with fail
  refine (copyOf_anyN mo ba op oh ot fe fp fh ft st lo (.slice va l.length vk) l _ (HS.out.keep B2.out) hl6).mono ?_
  rintro e w3 ⟨gl, hgl, rfl, hS3, b3⟩
  have FL : Hid (w.heap.size ≤ gl) := Nat.le_trans B2.out.size hgl
  clear hgl
  clear q0 q1 q2 q3 q4 q5 q6 q7 q8 q9 q10 q11 u0 u1 u2 u3 u4 u5 u6 u7 u8 u9 u10 u11 y0 y1 y2 y3 y4 y5 y6 y7 y8 y9 y10 y11 m0 s0 s1 r0 r1 s3 s4
  have X0 := X0.keep b3
  have X3 := X3.keep b3
  have X4 := X4.keep b3
  have B3 : Hid (Below w.heap.size w w3) := bel_trans B2.out b3
  have AP : Hid (Apart _ _ _) := hS3.apart X4
  have H3 : Hid (Ls _ _ _) := hS3
  clear b3 B2 X1 hS3
  obtain ⟨m0, -, s0⟩ := X0.one
  obtain ⟨r0, r1, s3⟩ := X3.one
  obtain ⟨⟨u0, u1, u2, u3, u4, u5, u6, u7, u8, u9, u10, u11⟩, s4⟩ := X4.twelve
  obtain ⟨y0, y1, y2, y3, y4, y5, y6, y7, y8, y9, y10, y11⟩ := X4.marks
  cases lo
  · have XN := Box.newAt (w := w3) rfl 44 #[.int .i64 mo, .int .i64 ba, .slice (some ⟨gl, 0, none⟩) l.length l.length, .int .i64 op, .int .i64 oh, .int .i64 ot, .bool st, .int .i64 fe, .int .i64 fp, .int .i64 fh, .int .i64 ft, .bool false]
    have nN3 : ¬ w3.heap.size = w.heap.size + 1 + 1 + 1 := by omega
    have nN4 : ¬ w3.heap.size = w.heap.size + 1 + 1 + 1 + 1 := by omega
    have nN0 : ¬ w3.heap.size = w.heap.size := by omega
    have zN : w.heap.size ≤ w3.heap.size := by omega
    have ZN : Hid (w.heap.size + 1 + 1 + 1 + 1 < w3.heap.size) := s4
    by_cases hl : lenR fh ft = 7
    · have HB : Hid (tlB zs ⟨mo, ba, l, op, oh, ot, st, fe, fp, fh, ft, false⟩ c d p = ⟨mo, ba, l, op, oh, ot, st, fe, fp, fh, ft, true⟩) := by show _ = _; rw [tlB, if_pos HE.out, if_pos (by simp [fullB, hl])]
      have HT : Hid (tlM zs ⟨mo, ba, l, op, oh, ot, st, fe, fp, fh, ft, false⟩ c d p x = zs) := by show _ = _; rw [tlM, if_pos HE.out, if_pos (by simp [fullB, hl])]
      have HQ : Hid (lenR fh ft = 7) := hl
      clear hl
      go_wp2_with fail
      refine (push_full (HM.out.keep (bel_alloc B3.out _)) HZ.out HF.out (HW0.out ▸ HW.out) HQ.out).mono ?_
      rintro e w4 ⟨a4, c4, rfl, b4⟩
      clear m0 s0 r0 r1 s3 u0 u1 u2 u3 u4 u5 u6 u7 u8 u9 u10 u11 y0 y1 y2 y3 y4 y5 y6 y7 y8 y9 y10 y11 s4
      have X0 := (X0.past _).keep b4
      have X3 := (X3.past _).keep b4
      have X4 := (X4.past _).keep b4
      have XN := XN.keep b4
      have H4 := (H3.out.alloc _).keep b4
      have APN : Hid (Apart _ _ _) := H4.apart XN
      have B4 : Hid (Below w.heap.size w w4) := bel_trans (bel_alloc B3.out _) b4
      have HL4 : Hid (Ls _ _ _) := H4
      clear b4 H4
      generalize w3.heap.size = N at *
      obtain ⟨⟨v0, v1, v2, v3, v4, v5, v6, v7, v8, v9, v10, v11⟩, sN⟩ := XN.twelve
      obtain ⟨-, -, -, -, -, -, -, -, -, -, -, vm⟩ := XN.marks
      go_upto_region 13 with fail
      have X0 := (((X0.other (p := ⟨N, 11, none⟩) (by dsimp only; omega) (.bool true)).past (.cells #[.slice a4 0 c4] 39)).past (.cells #[.int .i64 0, .int .i64 0, .int .i64 0] 42))
      have X3 := (((X3.other (p := ⟨N, 11, none⟩) (by dsimp only; omega) (.bool true)).past (.cells #[.slice a4 0 c4] 39)).past (.cells #[.int .i64 0, .int .i64 0, .int .i64 0] 42))
      have X4 := (((X4.other (p := ⟨N, 11, none⟩) (by dsimp only; omega) (.bool true)).past (.cells #[.slice a4 0 c4] 39)).past (.cells #[.int .i64 0, .int .i64 0, .int .i64 0] 42))
      have XN : Box (((w4.setCell ⟨N, 11, none⟩ (.bool true)).alloc (.cells #[.slice a4 0 c4] 39)).alloc (.cells #[.int .i64 0, .int .i64 0, .int .i64 0] 42)) N 44 #[.int .i64 mo, .int .i64 ba, .slice (some ⟨gl, 0, none⟩) l.length l.length, .int .i64 op, .int .i64 oh, .int .i64 ot, .bool st, .int .i64 fe, .int .i64 fp, .int .i64 fh, .int .i64 ft, .bool true] := ((Box.set XN 11 (.bool true)).past (.cells #[.slice a4 0 c4] 39)).past (.cells #[.int .i64 0, .int .i64 0, .int .i64 0] 42)
      have BW : Hid (Below w.heap.size w (((w4.setCell ⟨N, 11, none⟩ (.bool true)).alloc (.cells #[.slice a4 0 c4] 39)).alloc (.cells #[.int .i64 0, .int .i64 0, .int .i64 0] 42))) := bel_alloc (bel_alloc (bel_set (by dsimp only; omega) B4.out _) _) _
      have HMW : Hid (Sl (((w4.setCell ⟨N, 11, none⟩ (.bool true)).alloc (.cells #[.slice a4 0 c4] 39)).alloc (.cells #[.int .i64 0, .int .i64 0, .int .i64 0] 42)) _ zs) := HM.out.keep BW.out
      have HLW : Hid (Ls (((w4.setCell ⟨N, 11, none⟩ (.bool true)).alloc (.cells #[.slice a4 0 c4] 39)).alloc (.cells #[.int .i64 0, .int .i64 0, .int .i64 0] 42)) _ l) := ((HL4.out.putAt APN.out _ _).alloc _).alloc _
      clear v0 v1 v2 v3 v4 v5 v6 v7 v8 v9 v10 v11 sN vm HL4 B4
      generalize (((w4.setCell ⟨N, 11, none⟩ (.bool true)).alloc (.cells #[.slice a4 0 c4] 39)).alloc (.cells #[.int .i64 0, .int .i64 0, .int .i64 0] 42)) = W at *
      obtain ⟨m0, -, s0⟩ := X0.one
      obtain ⟨r0, r1, s3⟩ := X3.one
      obtain ⟨⟨u0, u1, u2, u3, u4, u5, u6, u7, u8, u9, u10, u11⟩, s4⟩ := X4.twelve
      obtain ⟨y0, y1, y2, y3, y4, y5, y6, y7, y8, y9, y10, y11⟩ := X4.marks
      obtain ⟨⟨v0, v1, v2, v3, v4, v5, v6, v7, v8, v9, v10, v11⟩, sN⟩ := XN.twelve
      go_region_with (go_at_call 62; refine (copyOfMem_any _ zs _ ?_ HN.out).mono ?_; (focus (repeat (first | with_reducible exact HMW.out | with_reducible refine Sl.drew ?_ | with_reducible refine Sl.drewN ?_ _))); rintro e w5 ⟨gm, rfl, h5, hg5, b5⟩; have Y3 := (Box.keep (n := w.heap.size + 1 + 1 + 1) (t := 39) (cs := #[.slice none 0 0]) (by (repeat (first | with_reducible assumption | with_reducible refine Box.drew ?_ | with_reducible refine Box.drewN ?_ _ | with_reducible refine Box.past ?_ _))) b5); have Y4 := (Box.keep (n := w.heap.size + 1 + 1 + 1 + 1) (t := 44) (cs := #[.int .i64 0, .int .i64 0, .slice none 0 0, .int .i64 0, .int .i64 0, .int .i64 0, .bool false, .int .i64 0, .int .i64 0, .int .i64 0, .int .i64 0, .bool false]) (by (repeat (first | with_reducible assumption | with_reducible refine Box.drew ?_ | with_reducible refine Box.drewN ?_ _ | with_reducible refine Box.past ?_ _))) b5); have YN := (Box.keep (n := N) (t := 44) (cs := #[.int .i64 mo, .int .i64 ba, .slice (some ⟨gl, 0, none⟩) l.length l.length, .int .i64 op, .int .i64 oh, .int .i64 ot, .bool st, .int .i64 fe, .int .i64 fp, .int .i64 fh, .int .i64 ft, .bool true]) (by (repeat (first | with_reducible assumption | with_reducible refine Box.drew ?_ | with_reducible refine Box.drewN ?_ _ | with_reducible refine Box.past ?_ _))) b5); obtain ⟨k3, k3', j3⟩ := Y3.one; obtain ⟨⟨i0, i1, i2, i3, i4, i5, i6, i7, i8, i9, i10, i11⟩, j4⟩ := Y4.twelve; obtain ⟨x0, x1, x2, x3, x4, x5, x6, x7, x8, x9, x10, x11⟩ := Y4.marks; obtain ⟨⟨t0, t1, t2, t3, t4, t5, t6, t7, t8, t9, t10, t11⟩, j5⟩ := YN.twelve)
      all_goals
        go_wp2
        refine bodyPost_ret (v := .tuple #[.agg #[.slice (some ⟨gm, 0, none⟩) 512 512], .agg #[.int .i64 mo, .int .i64 ba, .slice (some ⟨gl, 0, none⟩) l.length l.length, .int .i64 op, .int .i64 oh, .int .i64 ot, .bool st, .int .i64 fe, .int .i64 fp, .int .i64 fh, .int .i64 ft, .bool true], .int .i64 0]) (by simp [results, Try.results29, go_sem, *]) rfl ⟨_, _, _, _, _, _, _, _, _, _, _, _, _, _, _, _, l, by rw [HE.out], HB.out, ?_, ?_, ?_, fresh_at (Nat.le_trans BW.out.size (by simpa using hg5)) _ _ _, fresh_at FL.out _ _ _⟩
        · rw [HT.out]
          have hg : W.heap.size ≤ gm := by simpa using hg5
          (repeat (first | with_reducible exact h5 | with_reducible refine Sl.drew ?_ | with_reducible refine Sl.drewN ?_ _ | (with_reducible refine Sl.put12 ?_ ?_ _ _ _ _ _ _ _ _ _ _ _ _; rotate_left; (focus (simp [Value.ownBlock]; omega))) | (with_reducible refine Sl.setOther ?_ ?_ _; rotate_left; (focus (simp [Value.ownBlock]; omega)))))
        · (repeat (first | with_reducible exact HLW.out.drew.keep b5 | with_reducible exact HLW.out.keep b5 | with_reducible refine Ls.drew ?_ | with_reducible refine Ls.drewN ?_ _ | with_reducible refine Ls.put12 ?_ AP.out _ _ _ _ _ _ _ _ _ _ _ _ | with_reducible refine Ls.setSlice ?_ k3 _))
        · (repeat (first | with_reducible exact BW.out | with_reducible refine Below.drew ?_ | with_reducible refine bel_drewN ?_ _ | with_reducible refine bel_alloc ?_ _ | (with_reducible refine bel_set12 ?_ ?_ _ _ _ _ _ _ _ _ _ _ _ _; (focus omega)) | (with_reducible refine bel_set ?_ ?_ _; (focus (dsimp only; omega))) | with_reducible refine bel_trans ?_ b5))
    · have HB : Hid (tlB zs ⟨mo, ba, l, op, oh, ot, st, fe, fp, fh, ft, false⟩ c d p = ⟨mo, ba, l, op, oh, ot, st, fe, fp, fh, (ft + 1) % 8, false⟩) := by show _ = _; rw [tlB, if_pos HE.out, if_neg (by simp [fullB, hl])]
      have HT : Hid (tlM zs ⟨mo, ba, l, op, oh, ot, st, fe, fp, fh, ft, false⟩ c d p x = zs.set (fp * 8 + ft).toNat W0) := by show _ = _; rw [tlM, if_pos HE.out, if_neg (by simp [fullB, hl]), HW0.out]
      have HQ : Hid (¬ lenR fh ft = 7) := hl
      clear hl
      go_wp2_with fail
      refine (push_ok (HM.out.keep (bel_alloc B3.out _)) HZ.out HF.out (HW0.out ▸ HW.out) HQ.out).mono ?_
      rintro e w4 ⟨v4, rfl, hS4, hF4, b4⟩
      clear m0 s0 r0 r1 s3 u0 u1 u2 u3 u4 u5 u6 u7 u8 u9 u10 u11 y0 y1 y2 y3 y4 y5 y6 y7 y8 y9 y10 y11 s4
      have X0 := (X0.past _).keep b4
      have X3 := (X3.past _).keep b4
      have X4 := (X4.past _).keep b4
      have XN := XN.keep b4
      have H4 := (H3.out.alloc _).keep b4
      have APN : Hid (Apart _ _ _) := H4.apart XN
      have AP3 : Hid (Apart _ _ _) := H4.apart1 X3
      have B4 : Hid (Below w.heap.size w w4) := bel_trans (bel_alloc B3.out _) b4
      have HL4 : Hid (Ls _ _ _) := H4
      have hF4 : Fresh (w3.heap.size + 1) v4 := by simpa using hF4
      have FV : Hid (Fresh w.heap.size v4) := hF4.mono (by omega)
      have FN : Hid (v4.ownBlock ≠ some w3.heap.size) := hF4.ne (by have := ZN.out; omega)
      have F3 : Hid (v4.ownBlock ≠ some (w.heap.size + 1 + 1 + 1)) := hF4.ne (by have := ZN.out; omega)
      have F4 : Hid (v4.ownBlock ≠ some (w.heap.size + 1 + 1 + 1 + 1)) := hF4.ne (by have := ZN.out; omega)
      obtain ⟨a4, n4, c4, rfl⟩ : ∃ a n c, v4 = .slice a n c := by obtain ⟨a, cap, e, _⟩ := hS4; exact ⟨_, _, _, e⟩
      have HS4 : Hid (Sl _ _ _) := hS4
      clear b4 H4 hF4 hS4
      have nM3 : ¬ w.heap.size + 1 + 1 + 1 = w3.heap.size := by omega
      have nM4 : ¬ w.heap.size + 1 + 1 + 1 + 1 = w3.heap.size := by omega
      have hzz : w3.heap.size < w4.heap.size := XN.lt
      generalize w3.heap.size = N at *
      generalize ((ft + 1) % 8) = nf at *
      obtain ⟨⟨v0, v1, v2, v3, v4, v5, v6, v7, v8, v9, v10, v11⟩, sN⟩ := XN.twelve
      obtain ⟨-, -, -, -, -, -, -, -, vm8, vm9, vm10, -⟩ := XN.marks
      obtain ⟨r0, r1, s3⟩ := X3.one
      obtain ⟨⟨u0, u1, u2, u3, u4, u5, u6, u7, u8, u9, u10, u11⟩, s4⟩ := X4.twelve
      obtain ⟨y0, y1, y2, y3, y4, y5, y6, y7, y8, y9, y10, y11⟩ := X4.marks
      have zz3 : w.heap.size + 1 + 1 + 1 < w4.heap.size + 1 := by omega
      have zz4 : w.heap.size + 1 + 1 + 1 + 1 < w4.heap.size + 1 := by omega
      have zzN : N < w4.heap.size + 1 := by omega
      go_wp2
      go_region
      go_wp2
      refine bodyPost_ret (v := .tuple #[.agg #[.slice a4 n4 c4], .agg #[.int .i64 mo, .int .i64 ba, .slice (some ⟨gl, 0, none⟩) l.length l.length, .int .i64 op, .int .i64 oh, .int .i64 ot, .bool st, .int .i64 fe, .int .i64 fp, .int .i64 fh, .int .i64 nf, .bool false], .int .i64 0]) (by simp [results, Try.results29, go_sem, *]) rfl ⟨_, _, _, _, _, _, _, _, _, _, _, _, _, _, _, _, l, by rw [HE.out], HB.out, ?_, ?_, ?_, FV.out, fresh_at FL.out _ _ _⟩
      · rw [HT.out]
        exact Sl.drew (Sl.alloc (Sl.alloc (Sl.put12 (n := w.heap.size + 1 + 1 + 1 + 1) (Sl.setOther (p := ⟨w.heap.size + 1 + 1 + 1, 0, none⟩) (Sl.setOther (p := ⟨N, 10, none⟩) (Sl.setOther (p := ⟨N, 9, none⟩) (Sl.setOther (p := ⟨N, 8, none⟩) HS4.out FN.out _) FN.out _) FN.out _) F3.out _) F4.out _ _ _ _ _ _ _ _ _ _ _ _) _) _)
      · exact Ls.drew (Ls.alloc (Ls.alloc (Ls.put12 (Ls.putAt (Ls.putAt (Ls.putAt (Ls.putAt HL4.out APN.out 8 _) APN.out 9 _) APN.out 10 _) AP3.out 0 _) AP.out _ _ _ _ _ _ _ _ _ _ _ _) _) _)
      · exact Below.drew (bel_alloc (bel_alloc (bel_set12 (by omega) (bel_set (p := ⟨w.heap.size + 1 + 1 + 1, 0, none⟩) (by dsimp only; omega) (bel_set (p := ⟨N, 10, none⟩) zN (bel_set (p := ⟨N, 9, none⟩) zN (bel_set (p := ⟨N, 8, none⟩) zN B4.out _) _) _) _) _ _ _ _ _ _ _ _ _ _ _ _) _) _)
  · have HB : Hid (tlB zs ⟨mo, ba, l, op, oh, ot, st, fe, fp, fh, ft, true⟩ c d p = ⟨mo, ba, l, op, oh, ot, st, fe, fp, fh, ft, true⟩) := by show _ = _; rw [tlB, if_pos HE.out]; rfl
    have HT : Hid (tlM zs ⟨mo, ba, l, op, oh, ot, st, fe, fp, fh, ft, true⟩ c d p x = zs) := by show _ = _; rw [tlM, if_pos HE.out]; rfl
    go_upto_region 9 with fail
    have X0 := X0.past (.cells #[.int .i64 mo, .int .i64 ba, .slice (some ⟨gl, 0, none⟩) l.length l.length, .int .i64 op, .int .i64 oh, .int .i64 ot, .bool st, .int .i64 fe, .int .i64 fp, .int .i64 fh, .int .i64 ft, .bool true] 44)
    have X3 := X3.past (.cells #[.int .i64 mo, .int .i64 ba, .slice (some ⟨gl, 0, none⟩) l.length l.length, .int .i64 op, .int .i64 oh, .int .i64 ot, .bool st, .int .i64 fe, .int .i64 fp, .int .i64 fh, .int .i64 ft, .bool true] 44)
    have X4 := X4.past (.cells #[.int .i64 mo, .int .i64 ba, .slice (some ⟨gl, 0, none⟩) l.length l.length, .int .i64 op, .int .i64 oh, .int .i64 ot, .bool st, .int .i64 fe, .int .i64 fp, .int .i64 fh, .int .i64 ft, .bool true] 44)
    have XN := Box.newAt (w := w3) rfl 44 #[.int .i64 mo, .int .i64 ba, .slice (some ⟨gl, 0, none⟩) l.length l.length, .int .i64 op, .int .i64 oh, .int .i64 ot, .bool st, .int .i64 fe, .int .i64 fp, .int .i64 fh, .int .i64 ft, .bool true]
    have BW : Hid (Below w.heap.size w (w3.alloc (.cells #[.int .i64 mo, .int .i64 ba, .slice (some ⟨gl, 0, none⟩) l.length l.length, .int .i64 op, .int .i64 oh, .int .i64 ot, .bool st, .int .i64 fe, .int .i64 fp, .int .i64 fh, .int .i64 ft, .bool true] 44))) := bel_alloc B3.out _
    have HMW : Hid (Sl (w3.alloc (.cells #[.int .i64 mo, .int .i64 ba, .slice (some ⟨gl, 0, none⟩) l.length l.length, .int .i64 op, .int .i64 oh, .int .i64 ot, .bool st, .int .i64 fe, .int .i64 fp, .int .i64 fh, .int .i64 ft, .bool true] 44)) _ zs) := HM.out.keep BW.out
    have HLW : Hid (Ls (w3.alloc (.cells #[.int .i64 mo, .int .i64 ba, .slice (some ⟨gl, 0, none⟩) l.length l.length, .int .i64 op, .int .i64 oh, .int .i64 ot, .bool st, .int .i64 fe, .int .i64 fp, .int .i64 fh, .int .i64 ft, .bool true] 44)) _ l) := H3.out.alloc _
    have nN3 : ¬ w3.heap.size = w.heap.size + 1 + 1 + 1 := by omega
    have nN4 : ¬ w3.heap.size = w.heap.size + 1 + 1 + 1 + 1 := by omega
    generalize w3.heap.size = N at *
    generalize (w3.alloc (.cells #[.int .i64 mo, .int .i64 ba, .slice (some ⟨gl, 0, none⟩) l.length l.length, .int .i64 op, .int .i64 oh, .int .i64 ot, .bool st, .int .i64 fe, .int .i64 fp, .int .i64 fh, .int .i64 ft, .bool true] 44)) = W at *
    clear m0 s0 r0 r1 s3 u0 u1 u2 u3 u4 u5 u6 u7 u8 u9 u10 u11 y0 y1 y2 y3 y4 y5 y6 y7 y8 y9 y10 y11 s4
    obtain ⟨m0, -, s0⟩ := X0.one
    obtain ⟨r0, r1, s3⟩ := X3.one
    obtain ⟨⟨u0, u1, u2, u3, u4, u5, u6, u7, u8, u9, u10, u11⟩, s4⟩ := X4.twelve
    obtain ⟨y0, y1, y2, y3, y4, y5, y6, y7, y8, y9, y10, y11⟩ := X4.marks
    obtain ⟨⟨v0, v1, v2, v3, v4, v5, v6, v7, v8, v9, v10, v11⟩, sN⟩ := XN.twelve
    go_region_with (go_at_call 62; refine (copyOfMem_any _ zs _ ?_ HN.out).mono ?_; (focus (repeat (first | with_reducible exact HMW.out | with_reducible refine Sl.drew ?_ | with_reducible refine Sl.drewN ?_ _))); rintro e w5 ⟨gm, rfl, h5, hg5, b5⟩; have Y3 := (Box.keep (n := w.heap.size + 1 + 1 + 1) (t := 39) (cs := #[.slice none 0 0]) (by (repeat (first | with_reducible assumption | with_reducible refine Box.drew ?_ | with_reducible refine Box.drewN ?_ _ | with_reducible refine Box.past ?_ _))) b5); have Y4 := (Box.keep (n := w.heap.size + 1 + 1 + 1 + 1) (t := 44) (cs := #[.int .i64 0, .int .i64 0, .slice none 0 0, .int .i64 0, .int .i64 0, .int .i64 0, .bool false, .int .i64 0, .int .i64 0, .int .i64 0, .int .i64 0, .bool false]) (by (repeat (first | with_reducible assumption | with_reducible refine Box.drew ?_ | with_reducible refine Box.drewN ?_ _ | with_reducible refine Box.past ?_ _))) b5); have YN := (Box.keep (n := N) (t := 44) (cs := #[.int .i64 mo, .int .i64 ba, .slice (some ⟨gl, 0, none⟩) l.length l.length, .int .i64 op, .int .i64 oh, .int .i64 ot, .bool st, .int .i64 fe, .int .i64 fp, .int .i64 fh, .int .i64 ft, .bool true]) (by (repeat (first | with_reducible assumption | with_reducible refine Box.drew ?_ | with_reducible refine Box.drewN ?_ _ | with_reducible refine Box.past ?_ _))) b5); obtain ⟨k3, k3', j3⟩ := Y3.one; obtain ⟨⟨i0, i1, i2, i3, i4, i5, i6, i7, i8, i9, i10, i11⟩, j4⟩ := Y4.twelve; obtain ⟨x0, x1, x2, x3, x4, x5, x6, x7, x8, x9, x10, x11⟩ := Y4.marks; obtain ⟨⟨t0, t1, t2, t3, t4, t5, t6, t7, t8, t9, t10, t11⟩, j5⟩ := YN.twelve)
    all_goals
      go_wp2
      refine bodyPost_ret (v := .tuple #[.agg #[.slice (some ⟨gm, 0, none⟩) 512 512], .agg #[.int .i64 mo, .int .i64 ba, .slice (some ⟨gl, 0, none⟩) l.length l.length, .int .i64 op, .int .i64 oh, .int .i64 ot, .bool st, .int .i64 fe, .int .i64 fp, .int .i64 fh, .int .i64 ft, .bool true], .int .i64 0]) (by simp [results, Try.results29, go_sem, *]) rfl ⟨_, _, _, _, _, _, _, _, _, _, _, _, _, _, _, _, l, by rw [HE.out], HB.out, ?_, ?_, ?_, fresh_at (Nat.le_trans BW.out.size (by simpa using hg5)) _ _ _, fresh_at FL.out _ _ _⟩
      · rw [HT.out]
        have hg : W.heap.size ≤ gm := by simpa using hg5
        (repeat (first | with_reducible exact h5 | with_reducible refine Sl.drew ?_ | with_reducible refine Sl.drewN ?_ _ | (with_reducible refine Sl.put12 ?_ ?_ _ _ _ _ _ _ _ _ _ _ _ _; rotate_left; (focus (simp [Value.ownBlock]; omega))) | (with_reducible refine Sl.setOther ?_ ?_ _; rotate_left; (focus (simp [Value.ownBlock]; omega)))))
      · (repeat (first | with_reducible exact HLW.out.drew.keep b5 | with_reducible exact HLW.out.keep b5 | with_reducible refine Ls.drew ?_ | with_reducible refine Ls.drewN ?_ _ | with_reducible refine Ls.put12 ?_ AP.out _ _ _ _ _ _ _ _ _ _ _ _ | with_reducible refine Ls.setSlice ?_ k3 _))
      · (repeat (first | with_reducible exact BW.out | with_reducible refine Below.drew ?_ | with_reducible refine bel_drewN ?_ _ | with_reducible refine bel_alloc ?_ _ | (with_reducible refine bel_set12 ?_ ?_ _ _ _ _ _ _ _ _ _ _ _ _; (focus omega)) | (with_reducible refine bel_set ?_ ?_ _; (focus (dsimp only; omega))) | with_reducible refine bel_trans ?_ b5))
theorem tell_any (v : Value) (zs : List Int) (mo ba op oh ot fe fp fh ft : Int) (st lo : Bool) (vc : Value) (l : List Ln) (c d p : Int) (x : Bool) (w : World) (hs : Sl w v zs) (h : Ls w vc l) :
    Calls Try.prog 29 #[.agg #[v], .agg #[.int .i64 mo, .int .i64 ba, vc, .int .i64 op, .int .i64 oh, .int .i64 ot, .bool st, .int .i64 fe, .int .i64 fp, .int .i64 fh, .int .i64 ft, .bool lo], .agg #[.int .i64 c, .int .i64 d, .int .i64 p, .bool x]] w fun e w' => TlOut zs ⟨mo, ba, l, op, oh, ot, st, fe, fp, fh, ft, lo⟩ c d p x w e w' := by
  refine (tell_anyF v zs mo ba op oh ot fe fp fh ft st lo vc l c d p x w hs h).mono ?_
  rintro e w' ⟨ma2, mn2, mc2, mo2, ba2, op2, oh2, ot2, fe2, fp2, fh2, ft2, st2, lo2, va2, vk2, l2, h1, h2, h3, h4, h5, _, _⟩
  exact ⟨ma2, mn2, mc2, mo2, ba2, op2, oh2, ot2, fe2, fp2, fh2, ft2, st2, lo2, va2, vk2, l2, h1, h2, h3, h4, h5⟩
end Go.Proofs.Ytemnklppplgcoab
/-
  Package bridge: Obey: what it answers, of anything; nothing that was there turns.
-/
namespace Go.Proofs.Ytemnklppplgcoab
open Go.RowKit

/-- What comes out of Obey, as letters. -/
abbrev ObOut (zs : List Int) (b : Br) (w : World) (e : Ending) (w' : World) : Prop :=
  ∃ mo1 ba1 op1 oh1 ot1 fe1 fp1 fh1 ft1 st1 lo1 va1 vk1 l1, e = .returned (.tuple #[.agg #[.int .i64 mo1, .int .i64 ba1, .slice va1 l1.length vk1, .int .i64 op1, .int .i64 oh1, .int .i64 ot1, .bool st1, .int .i64 fe1, .int .i64 fp1, .int .i64 fh1, .int .i64 ft1, .bool lo1], .int .i64 (obE zs b)]) ∧ obB zs b = ⟨mo1, ba1, l1, op1, oh1, ot1, st1, fe1, fp1, fh1, ft1, lo1⟩ ∧ Ls w' (.slice va1 l1.length vk1) l1 ∧ Below w.heap.size w w'

set_option maxHeartbeats 4000000 in
theorem obey_any (v : Value) (zs : List Int) (mo ba op oh ot fe fp fh ft : Int) (st lo : Bool) (vc : Value) (l : List Ln) (w : World) (hs : Sl w v zs) (h : Ls w vc l) :
    Calls Try.prog 30 #[.agg #[v], .agg #[.int .i64 mo, .int .i64 ba, vc, .int .i64 op, .int .i64 oh, .int .i64 ot, .bool st, .int .i64 fe, .int .i64 fp, .int .i64 fh, .int .i64 ft, .bool lo]] w fun e w' => ObOut zs ⟨mo, ba, l, op, oh, ot, st, fe, fp, fh, ft, lo⟩ w e w' := by
  have HS : Hid (Ls w vc l) := h
  obtain ⟨va, vk, rfl, -⟩ := h.shape
  have HM : Hid (Sl w v zs) := hs
  obtain ⟨ma, mc, rfl⟩ := hs.shape
  clear h hs
  go_enter Try.func30, Try.ntmps30
  go_wp2_with fail
  have B0 : Hid (Below w.heap.size w _) := bel_alloc (bel_alloc (bel_alloc (Below.refl w.heap.size w) (.cells #[.slice ma zs.length mc] 39)) (.cells #[.int .i64 mo, .int .i64 ba, .slice va l.length vk, .int .i64 op, .int .i64 oh, .int .i64 ot, .bool st, .int .i64 fe, .int .i64 fp, .int .i64 fh, .int .i64 ft, .bool lo] 44)) (.cells #[.int .i64 0, .int .i64 0, .slice none 0 0, .int .i64 0, .int .i64 0, .int .i64 0, .bool false, .int .i64 0, .int .i64 0, .int .i64 0, .int .i64 0, .bool false] 44)
  refine (checkBothB_any _ zs mo ba op oh ot fe fp fh ft st lo (.slice va l.length vk) l _ (HM.out.keep B0.out) (HS.out.keep B0.out)).mono ?_
  rintro e w1 ⟨rfl, b1⟩
  have X0 := (((Box.newAt (n := w.heap.size) rfl 39 #[.slice ma zs.length mc]).past _).past _).keep b1
  have X1 := ((Box.newAt (n := w.heap.size + 1) (by simp) 44 #[.int .i64 mo, .int .i64 ba, .slice va l.length vk, .int .i64 op, .int .i64 oh, .int .i64 ot, .bool st, .int .i64 fe, .int .i64 fp, .int .i64 fh, .int .i64 ft, .bool lo]).past _).keep b1
  have X2 := (Box.newAt (n := w.heap.size + 1 + 1) (by simp) 44 #[.int .i64 0, .int .i64 0, .slice none 0 0, .int .i64 0, .int .i64 0, .int .i64 0, .bool false, .int .i64 0, .int .i64 0, .int .i64 0, .int .i64 0, .bool false]).keep b1
  have B1 : Hid (Below w.heap.size w w1) := bel_trans B0.out b1
  clear b1 B0
  obtain ⟨m0, -, s0⟩ := X0.one
  obtain ⟨⟨q0, q1, q2, q3, q4, q5, q6, q7, q8, q9, q10, q11⟩, s1⟩ := X1.twelve
  obtain ⟨⟨u0, u1, u2, u3, u4, u5, u6, u7, u8, u9, u10, u11⟩, s2⟩ := X2.twelve
  obtain ⟨y0, y1, y2, y3, y4, y5, y6, y7, y8, y9, y10, y11⟩ := X2.marks
  by_cases hk : bothB zs ⟨mo, ba, l, op, oh, ot, st, fe, fp, fh, ft, lo⟩ = 0
  rotate_left
  · have HE : Hid (obE zs ⟨mo, ba, l, op, oh, ot, st, fe, fp, fh, ft, lo⟩ = bothB zs ⟨mo, ba, l, op, oh, ot, st, fe, fp, fh, ft, lo⟩) := if_neg hk
    have HB : Hid (obB zs ⟨mo, ba, l, op, oh, ot, st, fe, fp, fh, ft, lo⟩ = B0) := if_neg (by rw [HE.out]; exact hk)
    generalize bothB zs ⟨mo, ba, l, op, oh, ot, st, fe, fp, fh, ft, lo⟩ = E at *
    have hq : (E != 0) = true := by simpa using hk
    go_wp2
    refine bodyPost_ret (v := .tuple #[.agg #[.int .i64 0, .int .i64 0, .slice none 0 0, .int .i64 0, .int .i64 0, .int .i64 0, .bool false, .int .i64 0, .int .i64 0, .int .i64 0, .int .i64 0, .bool false], .int .i64 E]) (by simp [results, Try.results30, go_sem, *]) rfl ⟨_, _, _, _, _, _, _, _, _, _, _, _, _, [], by rw [HE.out]; rfl, HB.out, Ls.nothing _, ?_⟩
    (repeat (first | with_reducible exact B1.out | with_reducible refine bel_alloc ?_ _ | (with_reducible refine bel_set12 ?_ ?_ _ _ _ _ _ _ _ _ _ _ _ _; (focus omega)) | (with_reducible refine bel_set ?_ ?_ _; (focus (dsimp only; omega)))))
  have HK : Hid (_ = _) := hk
  rw [hk]
  clear hk
  cases st
  rotate_left
  · have HE : Hid (obE zs ⟨mo, ba, l, op, oh, ot, true, fe, fp, fh, ft, lo⟩ = 6) := by show _ = _; rw [obE, if_pos HK.out]; rfl
    have HB : Hid (obB zs ⟨mo, ba, l, op, oh, ot, true, fe, fp, fh, ft, lo⟩ = B0) := if_neg (by rw [HE.out]; decide)
    go_wp2
    refine bodyPost_ret (v := .tuple #[.agg #[.int .i64 0, .int .i64 0, .slice none 0 0, .int .i64 0, .int .i64 0, .int .i64 0, .bool false, .int .i64 0, .int .i64 0, .int .i64 0, .int .i64 0, .bool false], .int .i64 6]) (by simp [results, Try.results30, go_sem, *]) rfl ⟨_, _, _, _, _, _, _, _, _, _, _, _, _, [], by rw [HE.out]; rfl, HB.out, Ls.nothing _, ?_⟩
    (repeat (first | with_reducible exact B1.out | with_reducible refine bel_alloc ?_ _ | (with_reducible refine bel_set12 ?_ ?_ _ _ _ _ _ _ _ _ _ _ _ _; (focus omega)) | (with_reducible refine bel_set ?_ ?_ _; (focus (dsimp only; omega)))))
  have HZ : Hid (chk zs = 0) := (bothB_ok HK.out).1
  have HR : Hid (chkR op oh ot = 0) := (chkB_ok (bothB_ok HK.out).2).2.2.2.2.1
  have hl6 : l.length ≤ 6 := (chkC_zero.1 (chkB_ok (bothB_ok HK.out).2).2.2.2.1).1
  by_cases ho : oh = ot
  · subst ho
    have HE : Hid (obE zs ⟨mo, ba, l, op, oh, oh, false, fe, fp, fh, ft, lo⟩ = 6) := by show _ = _; rw [obE, if_pos HK.out]; simp
    have HB : Hid (obB zs ⟨mo, ba, l, op, oh, oh, false, fe, fp, fh, ft, lo⟩ = B0) := if_neg (by rw [HE.out]; decide)
    go_wp2_with fail
    refine (pop_none (HM.out.keep B1.out) HZ.out HR.out).mono ?_
    rintro e w2 ⟨rfl, b2⟩
    clear m0 s0 q0 q1 q2 q3 q4 q5 q6 q7 q8 q9 q10 q11 s1 u0 u1 u2 u3 u4 u5 u6 u7 u8 u9 u10 u11 y0 y1 y2 y3 y4 y5 y6 y7 y8 y9 y10 y11 s2
    have X2 := X2.keep b2
    have B2 : Hid (Below w.heap.size w w2) := bel_trans B1.out b2
    clear b2 B1
    obtain ⟨⟨u0, u1, u2, u3, u4, u5, u6, u7, u8, u9, u10, u11⟩, s2⟩ := X2.twelve
    obtain ⟨y0, y1, y2, y3, y4, y5, y6, y7, y8, y9, y10, y11⟩ := X2.marks
    go_wp2
    refine bodyPost_ret (v := .tuple #[.agg #[.int .i64 0, .int .i64 0, .slice none 0 0, .int .i64 0, .int .i64 0, .int .i64 0, .bool false, .int .i64 0, .int .i64 0, .int .i64 0, .int .i64 0, .bool false], .int .i64 6]) (by simp [results, Try.results30, go_sem, *]) rfl ⟨_, _, _, _, _, _, _, _, _, _, _, _, _, [], by rw [HE.out]; rfl, HB.out, Ls.nothing _, ?_⟩
    (repeat (first | with_reducible exact B2.out | with_reducible refine bel_alloc ?_ _ | (with_reducible refine bel_set12 ?_ ?_ _ _ _ _ _ _ _ _ _ _ _ _; (focus omega)) | (with_reducible refine bel_set ?_ ?_ _; (focus (dsimp only; omega)))))
  have hE : obE zs ⟨mo, ba, l, op, oh, ot, false, fe, fp, fh, ft, lo⟩ = 0 := by rw [obE, if_pos HK.out]; exact if_neg ho
  have HE : Hid (_ = _) := hE
  have HO : Hid (¬ oh = ot) := ho
  have hfe : 0 ≤ fe ∧ fe ≤ 999 := (chkB_ok (bothB_ok HK.out).2).2.2.1
  clear ho hE
  go_wp2_with fail
  refine (pop_ok (HM.out.keep B1.out) HZ.out HR.out HO.out).mono ?_
  rintro e w2 ⟨rfl, b2⟩
  obtain ⟨z, hz⟩ : ∃ z, nth zs (op * 8 + oh).toNat = z := ⟨_, rfl⟩
  have HW : Hid (ordW zs ⟨mo, ba, l, op, oh, ot, false, fe, fp, fh, ft, lo⟩ = z) := hz
  rw [hz]
  clear hz
  clear m0 s0 q0 q1 q2 q3 q4 q5 q6 q7 q8 q9 q10 q11 s1 u0 u1 u2 u3 u4 u5 u6 u7 u8 u9 u10 u11 y0 y1 y2 y3 y4 y5 y6 y7 y8 y9 y10 y11 s2
  have X1 := X1.keep b2
  have X2 := X2.keep b2
  have B2 : Hid (Below w.heap.size w w2) := bel_trans B1.out b2
  clear b2 B1 X0
  obtain ⟨⟨q0, q1, q2, q3, q4, q5, q6, q7, q8, q9, q10, q11⟩, s1⟩ := X1.twelve
  obtain ⟨⟨u0, u1, u2, u3, u4, u5, u6, u7, u8, u9, u10, u11⟩, s2⟩ := X2.twelve
  obtain ⟨y0, y1, y2, y3, y4, y5, y6, y7, y8, y9, y10, y11⟩ := X2.marks
  obtain ⟨nh, hnh⟩ : ∃ z, (oh + 1) % 8 = z := ⟨_, rfl⟩
  have HNH : Hid (_ = _) := hnh
  rw [hnh]
  clear hnh
  go_wp2_with fail
  refine (copyOf_any mo ba op oh ot fe fp fh ft false lo (.slice va l.length vk) l _ (HS.out.keep (bel_alloc B2.out _)) hl6).mono ?_
  rintro e w3 ⟨gl, rfl, hS3, b3⟩
  have XR := (Box.newAt (w := w2) rfl 42 #[.int .i64 op, .int .i64 nh, .int .i64 ot]).keep b3
  have zR : w.heap.size + 1 + 1 < w2.heap.size := s2
  clear q0 q1 q2 q3 q4 q5 q6 q7 q8 q9 q10 q11 s1
  clear u0 u1 u2 u3 u4 u5 u6 u7 u8 u9 u10 u11 y0 y1 y2 y3 y4 y5 y6 y7 y8 y9 y10 y11 s2
  have X2 := (X2.past _).keep b3
  have B3 : Hid (Below w.heap.size w w3) := bel_trans (bel_alloc B2.out _) b3
  have H3 : Hid (Ls _ _ _) := hS3
  have AP2 : Hid (Apart _ _ _) := hS3.apart X2
  have zN : w2.heap.size < w3.heap.size := XR.lt
  clear b3 B2 X1 hS3
  obtain ⟨c, e1, hro⟩ : ∃ c e1, (roO z = c ∧ roE z = e1) := ⟨_, _, rfl, rfl⟩
  obtain ⟨k, d, p⟩ := c
  obtain ⟨hO, hEE⟩ := hro
  have HRO : Hid (roO z = (k, d, p)) := hO
  have HRE : Hid (roE z = e1) := hEE
  clear hO hEE
  go_wp2_with fail
  refine (readOrder_at HRE.out HRO.out).mono ?_
  rintro e w4 ⟨rfl, b4⟩
  have X2 := (X2.past _).keep b4
  have XR := (XR.past _).keep b4
  have XN := (Box.newAt (w := w3) rfl 44 #[.int .i64 mo, .int .i64 ba, .slice (some ⟨gl, 0, none⟩) l.length l.length, .int .i64 op, .int .i64 oh, .int .i64 ot, .bool false, .int .i64 fe, .int .i64 fp, .int .i64 fh, .int .i64 ft, .bool lo]).keep b4
  have H4 : Hid (Ls _ _ _) := (H3.out.alloc _).keep b4
  have APN : Hid (Apart _ _ _) := H4.out.apart XN
  have B4 : Hid (Below w.heap.size w w4) := bel_trans (bel_alloc B3.out _) b4
  have zO : w3.heap.size < w4.heap.size := XN.lt
  clear b4 B3 H3
  generalize w3.heap.size = N at *
  generalize w2.heap.size = R at *
  obtain ⟨⟨n0, n1, n2, n3, n4, n5, n6, n7, n8, n9, n10, n11⟩, sN⟩ := XN.twelve
  obtain ⟨i0, i1, i2, i3, i4, i5, i6, i7, i8, i9, i10, i11⟩ := XN.marks
  obtain ⟨r0, r1, r2, -, -, -, sR⟩ := XR.three
  obtain ⟨⟨u0, u1, u2, u3, u4, u5, u6, u7, u8, u9, u10, u11⟩, s2⟩ := X2.twelve
  obtain ⟨y0, y1, y2, y3, y4, y5, y6, y7, y8, y9, y10, y11⟩ := X2.marks
  have nN2 : ¬ N = w.heap.size + 1 + 1 := by omega
  have nM2 : ¬ w.heap.size + 1 + 1 = N := by omega
  have nR2 : ¬ R = w.heap.size + 1 + 1 := by omega
  have nRN : ¬ R = N := by omega
  have nNR : ¬ N = R := by omega
  have zN0 : w.heap.size ≤ N := by omega
  by_cases he : e1 = 0
  rotate_left
  · have HB : Hid (obB zs ⟨mo, ba, l, op, oh, ot, false, fe, fp, fh, ft, lo⟩ = ⟨mo, ba, l, op, oh, ot, true, fe, fp, fh, ft, lo⟩) := (ob_bad HE.out (by rw [HW.out, HRE.out]; exact he)).1
    have hq : (e1 != 0) = true := by simpa using he
    go_wp2
    refine bodyPost_ret (v := .tuple #[.agg #[.int .i64 mo, .int .i64 ba, .slice (some ⟨gl, 0, none⟩) l.length l.length, .int .i64 op, .int .i64 oh, .int .i64 ot, .bool true, .int .i64 fe, .int .i64 fp, .int .i64 fh, .int .i64 ft, .bool lo], .int .i64 0]) (by simp [results, Try.results30, go_sem, *]) rfl ⟨_, _, _, _, _, _, _, _, _, _, _, _, _, l, by rw [HE.out], HB.out, ?_, ?_⟩
    · exact Ls.alloc (Ls.put12 (Ls.putAt H4.out APN.out 6 _) AP2.out _ _ _ _ _ _ _ _ _ _ _ _) _
    · exact bel_alloc (bel_set12 (by omega) (bel_set (p := ⟨N, 6, none⟩) zN0 B4.out _) _ _ _ _ _ _ _ _ _ _ _ _) _
  subst he
  obtain ⟨eB, -, eD, hk3, -⟩ := ob_right (k := k) (d := d) (p := p) HE.out (by rw [HW.out]; exact HRE.out) (by rw [HW.out]; exact HRO.out)
  have HB : Hid (obB zs ⟨mo, ba, l, op, oh, ot, false, fe, fp, fh, ft, lo⟩ = ⟨mo, ba, drC l k d p, op, (oh + 1) % 8, ot, false, if k = 0 then (fe + 1) % 1000 else fe, fp, fh, ft, lo⟩) := eB
  have HD : Hid (drE l k = 0) := eD
  clear eB eD
  obtain ⟨c, hc⟩ : ∃ c, drC l k d p = c := ⟨_, rfl⟩
  have HC : Hid (_ = _) := hc
  clear hc
  go_wp2_with fail
  have X2 := (((X2.other (p := ⟨N, 3, none⟩) nM2 (.int .i64 op)).other (p := ⟨N, 4, none⟩) nM2 (.int .i64 nh)).other (p := ⟨N, 5, none⟩) nM2 (.int .i64 ot)).past (.cells #[.int .i64 k, .int .i64 d, .int .i64 p] 23)
  have XN : Box ((((w4.setCell ⟨N, 3, none⟩ (.int .i64 op)).setCell ⟨N, 4, none⟩ (.int .i64 nh)).setCell ⟨N, 5, none⟩ (.int .i64 ot)).alloc (.cells #[.int .i64 k, .int .i64 d, .int .i64 p] 23)) N 44 #[.int .i64 mo, .int .i64 ba, .slice (some ⟨gl, 0, none⟩) l.length l.length, .int .i64 op, .int .i64 nh, .int .i64 ot, .bool false, .int .i64 fe, .int .i64 fp, .int .i64 fh, .int .i64 ft, .bool lo] := (((XN.set 3 (.int .i64 op)).set 4 (.int .i64 nh)).set 5 (.int .i64 ot)).past _
  have XO : Box ((((w4.setCell ⟨N, 3, none⟩ (.int .i64 op)).setCell ⟨N, 4, none⟩ (.int .i64 nh)).setCell ⟨N, 5, none⟩ (.int .i64 ot)).alloc (.cells #[.int .i64 k, .int .i64 d, .int .i64 p] 23)) w4.heap.size 23 #[.int .i64 k, .int .i64 d, .int .i64 p] := Box.newAt (by simp) _ _
  have H5 : Hid (Ls ((((w4.setCell ⟨N, 3, none⟩ (.int .i64 op)).setCell ⟨N, 4, none⟩ (.int .i64 nh)).setCell ⟨N, 5, none⟩ (.int .i64 ot)).alloc (.cells #[.int .i64 k, .int .i64 d, .int .i64 p] 23)) _ l) := (((H4.out.putAt APN.out 3 _).putAt APN.out 4 _).putAt APN.out 5 _).alloc _
  have B5 : Hid (Below w.heap.size w ((((w4.setCell ⟨N, 3, none⟩ (.int .i64 op)).setCell ⟨N, 4, none⟩ (.int .i64 nh)).setCell ⟨N, 5, none⟩ (.int .i64 ot)).alloc (.cells #[.int .i64 k, .int .i64 d, .int .i64 p] 23))) := bel_alloc (bel_set (p := ⟨N, 5, none⟩) zN0 (bel_set (p := ⟨N, 4, none⟩) zN0 (bel_set (p := ⟨N, 3, none⟩) zN0 B4.out _) _) _) _
  clear n0 n1 n2 n3 n4 n5 n6 n7 n8 n9 n10 n11 sN i0 i1 i2 i3 i4 i5 i6 i7 i8 i9 i10 i11 r0 r1 r2 sR u0 u1 u2 u3 u4 u5 u6 u7 u8 u9 u10 u11 y0 y1 y2 y3 y4 y5 y6 y7 y8 y9 y10 y11 s2 H4 B4 XR
  have nO2 : ¬ w4.heap.size = w.heap.size + 1 + 1 := by omega
  have nON : ¬ w4.heap.size = N := by omega
  generalize ((((w4.setCell ⟨N, 3, none⟩ (.int .i64 op)).setCell ⟨N, 4, none⟩ (.int .i64 nh)).setCell ⟨N, 5, none⟩ (.int .i64 ot)).alloc (.cells #[.int .i64 k, .int .i64 d, .int .i64 p] 23)) = W5 at *
  generalize w4.heap.size = O at *
  refine (drop_at' H5.out (by omega) (by omega) HD.out HC.out).mono ?_
  rintro e w6 ⟨b6, cap6, rfl, hS6, bb⟩
  have X2 := X2.keep bb
  have XN := XN.keep bb
  have XO := XO.keep bb
  have AP2 : Hid (Apart _ _ _) := hS6.apart X2
  have APN : Hid (Apart _ _ _) := hS6.apart XN
  have H6 : Hid (Ls _ _ _) := hS6
  have B6 : Hid (Below w.heap.size w w6) := bel_trans B5.out bb
  clear bb B5 H5 hS6
  obtain ⟨⟨n0, n1, n2, n3, n4, n5, n6, n7, n8, n9, n10, n11⟩, sN⟩ := XN.twelve
  obtain ⟨-, -, i2, -, -, -, -, i7, -, -, -, -⟩ := XN.marks
  obtain ⟨o0, o1, o2, -, -, -, sO⟩ := XO.three
  obtain ⟨⟨u0, u1, u2, u3, u4, u5, u6, u7, u8, u9, u10, u11⟩, s2⟩ := X2.twelve
  obtain ⟨y0, y1, y2, y3, y4, y5, y6, y7, y8, y9, y10, y11⟩ := X2.marks
  by_cases hk0 : k = 0
  · subst hk0
    have f0 : 0 ≤ fe := hfe.1
    have f1 : fe ≤ 999 := hfe.2
    go_wp2
    refine bodyPost_ret (v := .tuple #[.agg #[.int .i64 mo, .int .i64 ba, .slice b6 c.length cap6, .int .i64 op, .int .i64 nh, .int .i64 ot, .bool false, .int .i64 ((fe + 1) % 1000), .int .i64 fp, .int .i64 fh, .int .i64 ft, .bool lo], .int .i64 0]) (by simp [results, Try.results30, go_sem, *]) rfl ⟨_, _, _, _, _, _, _, _, _, _, _, _, _, c, by rw [HE.out], HB.out.trans (by rw [HC.out, HNH.out]; rfl), ?_, ?_⟩
    · exact Ls.put12 (Ls.putAt (Ls.putAt H6.out APN.out 2 _) APN.out 7 _) AP2.out _ _ _ _ _ _ _ _ _ _ _ _
    · exact bel_set12 (by omega) (bel_set (p := ⟨N, 7, none⟩) zN0 (bel_set (p := ⟨N, 2, none⟩) zN0 B6.out _) _) _ _ _ _ _ _ _ _ _ _ _ _
  · have hq : (k == 0) = false := by simpa using hk0
    have HK0 : Hid (¬ k = 0) := hk0
    clear hk0
    go_wp2
    refine bodyPost_ret (v := .tuple #[.agg #[.int .i64 mo, .int .i64 ba, .slice b6 c.length cap6, .int .i64 op, .int .i64 nh, .int .i64 ot, .bool false, .int .i64 fe, .int .i64 fp, .int .i64 fh, .int .i64 ft, .bool lo], .int .i64 0]) (by simp [results, Try.results30, go_sem, *]) rfl ⟨_, _, _, _, _, _, _, _, _, _, _, _, _, c, by rw [HE.out], HB.out.trans (by rw [HC.out, HNH.out, if_neg HK0.out]), ?_, ?_⟩
    · exact Ls.put12 (Ls.putAt H6.out APN.out 2 _) AP2.out _ _ _ _ _ _ _ _ _ _ _ _
    · exact bel_set12 (by omega) (bel_set (p := ⟨N, 2, none⟩) zN0 B6.out _) _ _ _ _ _ _ _ _ _ _ _ _
end Go.Proofs.Ytemnklppplgcoab
/-
  Tell and Obey, where what they answer is known.
-/
namespace Go.Proofs.Ytemnklppplgcoab
open Go.RowKit

theorem tell_at {v : Value} {zs : List Int} {mo ba op oh ot fe fp fh ft : Int} {st lo : Bool} {vc : Value} {l : List Ln} {c d p : Int} {x : Bool} {w : World} {mo1 ba1 op1 oh1 ot1 fe1 fp1 fh1 ft1 : Int} {st1 lo1 : Bool} {l1 : List Ln} {ms : List Int} {e0 : Int} (hs : Sl w v zs) (h : Ls w vc l) (hE : tlE zs ⟨mo, ba, l, op, oh, ot, st, fe, fp, fh, ft, lo⟩ c d p = e0) (hB : tlB zs ⟨mo, ba, l, op, oh, ot, st, fe, fp, fh, ft, lo⟩ c d p = ⟨mo1, ba1, l1, op1, oh1, ot1, st1, fe1, fp1, fh1, ft1, lo1⟩) (hM : tlM zs ⟨mo, ba, l, op, oh, ot, st, fe, fp, fh, ft, lo⟩ c d p x = ms) :
    Calls Try.prog 29 #[.agg #[v], .agg #[.int .i64 mo, .int .i64 ba, vc, .int .i64 op, .int .i64 oh, .int .i64 ot, .bool st, .int .i64 fe, .int .i64 fp, .int .i64 fh, .int .i64 ft, .bool lo], .agg #[.int .i64 c, .int .i64 d, .int .i64 p, .bool x]] w fun e w' =>
      ∃ ma1 mc1 va1 vk1, e = .returned (.tuple #[.agg #[.slice ma1 ms.length mc1], .agg #[.int .i64 mo1, .int .i64 ba1, .slice va1 l1.length vk1, .int .i64 op1, .int .i64 oh1, .int .i64 ot1, .bool st1, .int .i64 fe1, .int .i64 fp1, .int .i64 fh1, .int .i64 ft1, .bool lo1], .int .i64 e0]) ∧ Sl w' (.slice ma1 ms.length mc1) ms ∧ Ls w' (.slice va1 l1.length vk1) l1 ∧ Below w.heap.size w w' := by
  refine (tell_any v zs mo ba op oh ot fe fp fh ft st lo vc l c d p x w hs h).mono ?_
  rintro e w' ⟨ma2, mn2, mc2, mo2, ba2, op2, oh2, ot2, fe2, fp2, fh2, ft2, st2, lo2, va2, vk2, l2, rfl, hB2, hS, hL, hb⟩
  rw [hB] at hB2
  simp only [Br.mk.injEq] at hB2
  obtain ⟨rfl, rfl, rfl, rfl, rfl, rfl, rfl, rfl, rfl, rfl, rfl, rfl⟩ := hB2
  rw [hM] at hS
  rw [hE]
  obtain ⟨a, cap, he, _⟩ := id hS
  simp only [Value.slice.injEq] at he
  obtain ⟨rfl, rfl, rfl⟩ := he
  exact ⟨ma2, mc2, va2, vk2, rfl, hS, hL, hb⟩

theorem obey_at {v : Value} {zs : List Int} {mo ba op oh ot fe fp fh ft : Int} {st lo : Bool} {vc : Value} {l : List Ln} {w : World} {mo1 ba1 op1 oh1 ot1 fe1 fp1 fh1 ft1 : Int} {st1 lo1 : Bool} {l1 : List Ln} {e0 : Int} (hs : Sl w v zs) (h : Ls w vc l) (hE : obE zs ⟨mo, ba, l, op, oh, ot, st, fe, fp, fh, ft, lo⟩ = e0) (hB : obB zs ⟨mo, ba, l, op, oh, ot, st, fe, fp, fh, ft, lo⟩ = ⟨mo1, ba1, l1, op1, oh1, ot1, st1, fe1, fp1, fh1, ft1, lo1⟩) :
    Calls Try.prog 30 #[.agg #[v], .agg #[.int .i64 mo, .int .i64 ba, vc, .int .i64 op, .int .i64 oh, .int .i64 ot, .bool st, .int .i64 fe, .int .i64 fp, .int .i64 fh, .int .i64 ft, .bool lo]] w fun e w' =>
      ∃ va1 vk1, e = .returned (.tuple #[.agg #[.int .i64 mo1, .int .i64 ba1, .slice va1 l1.length vk1, .int .i64 op1, .int .i64 oh1, .int .i64 ot1, .bool st1, .int .i64 fe1, .int .i64 fp1, .int .i64 fh1, .int .i64 ft1, .bool lo1], .int .i64 e0]) ∧ Ls w' (.slice va1 l1.length vk1) l1 ∧ Below w.heap.size w w' := by
  refine (obey_any v zs mo ba op oh ot fe fp fh ft st lo vc l w hs h).mono ?_
  rintro e w' ⟨mo2, ba2, op2, oh2, ot2, fe2, fp2, fh2, ft2, st2, lo2, va2, vk2, l2, rfl, hB2, hL, hb⟩
  rw [hB] at hB2
  simp only [Br.mk.injEq] at hB2
  obtain ⟨rfl, rfl, rfl, rfl, rfl, rfl, rfl, rfl, rfl, rfl, rfl, rfl⟩ := hB2
  rw [hE]
  exact ⟨va2, vk2, rfl, hL, hb⟩
end Go.Proofs.Ytemnklppplgcoab
/-
  slices.Contains on a slice of lines: a line that is among them is found; nothing that was there turns.
-/
namespace Go.Proofs.Ytemnklppplgcoab
open Go.RowKit

abbrev lineB (d p a : Int) (r x : Bool) : Obj := .cells #[.int .i64 d, .int .i64 p, .int .i64 a, .bool r, .bool x] 68

set_option maxHeartbeats 2000000 in
theorem indexL_in (v : Value) (l : List Ln) (d p a : Int) (r x : Bool) (w : World) (h : Ls w v l) (hx : (d, p, a, r, x) ∈ l) :
    Calls Try.prog 74 #[v, .agg #[.int .i64 d, .int .i64 p, .int .i64 a, .bool r, .bool x]] w fun e w' => ∃ k : Nat, e = .returned (.int .i64 k) ∧ Below w.heap.size w w' := by
  obtain ⟨va, cap, rfl, hl, hm, h⟩ := h
  unfold maxLen at hm
  rcases h with rfl | ⟨b, o, rfl, hb, hc⟩
  · simp at hx
  have HC : Hid _ := hc
  have HX : Hid ((d, p, a, r, x) ∈ l) := hx
  clear hc hx
  have W5 := (Box.newAt (w := w) rfl 68 #[.int .i64 d, .int .i64 p, .int .i64 a, .bool r, .bool x]).blk.five
  have hb1 : b < w.heap.size + 1 := by omega
  have HB : Hid (Below w.heap.size w (w.alloc (lineB d p a r x))) := bel_alloc (Below.refl _ _) _
  obtain ⟨t0, t1, t2, t3, t4⟩ := W5
  go_enter Try.func74, Try.ntmps74
  go_wp2
  go_loopw [5, 8] (fun _ i w' => ∃ k : Nat, k ≤ l.length ∧ i = .int .i64 k ∧ (∀ j, j < k → ¬ lth l j = (d, p, a, r, x)) ∧ ∃ n, w' = (w.alloc (lineB d p a r x)).drewN n) (fun _ i _ => l.length - (intOf i).toNat)
  case atStart => exact ⟨0, Nat.zero_le _, rfl, fun j hj => absurd hj (Nat.not_lt_zero _), 0, rfl⟩
  case round =>
    obtain ⟨k, hk, rfl, hpre, n, rfl⟩ := hrel
    have HP : Hid (∀ j, j < k → ¬ lth l j = (d, p, a, r, x)) := hpre
    clear hpre
    by_cases hlt : k < l.length
    · obtain ⟨g0, g1, g2, g3, g4⟩ := (HC.out k hlt).keep HB.out hb
      have hlt1 : (k : Int) < l.length := by omega
      obtain ⟨y, hy⟩ : ∃ y, y = lth l k := ⟨_, rfl⟩
      have HY : Hid (y = lth l k) := hy
      rw [← hy] at g0 g1 g2 g3 g4
      clear hy
      obtain ⟨d1, p1, a1, r1, x1⟩ := y
      simp only at g0 g1 g2 g3 g4
      by_cases hq : (d, p, a, r, x) = ((d1, p1, a1, r1, x1) : Ln)
      · simp only [Prod.mk.injEq] at hq
        obtain ⟨rfl, rfl, rfl, rfl, rfl⟩ := hq
        go_wp2
        go_quiet (fail)
        go_wp2
        go_ret
        exact ⟨k, rfl, bel_drewN (bel_drewN HB.out _) _⟩
      · have HN : Hid (¬ lth l k = (d, p, a, r, x)) := fun e => hq (by rw [← e]; exact HY.out.symm)
        rcases line_diff hq with e1 | ⟨rfl, e1⟩ | ⟨rfl, rfl, e1⟩ | ⟨rfl, rfl, rfl, e1⟩ | ⟨rfl, rfl, rfl, rfl, e1⟩
        all_goals
          clear hq
          go_wp2
          go_quiet (fail)
          go_wp2
          exact ⟨⟨k + 1, by omega, by go_num, upto_next HP.out HN.out, _, rfl⟩, by simp [intOf]; omega⟩
    · exfalso
      obtain ⟨i, hi, he⟩ := List.mem_iff_getElem.1 HX.out
      exact HP.out i (by omega) (by rw [lth_get hi]; exact he)
theorem containsL_in (v : Value) (l : List Ln) (d p a : Int) (r x : Bool) (w : World) (h : Ls w v l) (hx : (d, p, a, r, x) ∈ l) :
    Calls Try.prog 42 #[v, .agg #[.int .i64 d, .int .i64 p, .int .i64 a, .bool r, .bool x]] w fun e w' => e = .returned (.bool true) ∧ Below w.heap.size w w' := by
  have HL : Hid (Ls w v l) := h
  obtain ⟨va, cap, rfl, -⟩ := h
  go_enter Try.func42, Try.ntmps42
  go_wp2_with fail
  refine (indexL_in _ l d p a r x _ (HL.out.alloc _) hx).mono ?_
  rintro e w1 ⟨k, rfl, b1⟩
  have B1 : Hid (Below w.heap.size w w1) := bel_trans (bel_alloc (Below.refl _ _) _) b1
  have hk : (0 : Int) ≤ k := by omega
  clear b1
  go_wp2
  go_ret
  exact ⟨rfl, B1.out⟩
end Go.Proofs.Ytemnklppplgcoab
