/-
  Package bridge: Through and Plain: what they answer, of anything; nothing that was there turns.
-/
import Derived.Test.YtemnklppplgcoabWhileT
namespace Go.Proofs.Ytemnklppplgcoab
open Go.RowKit

theorem chkC_len {l : List Ln} (h : chkC l = 0) : l.length ≤ 6 := (chkC_zero.1 h).1

theorem whileOn_any (v : Value) (zs : List Int) (mo ba op oh ot fe fp fh ft : Int) (st lo : Bool) (vc : Value) (l : List Ln) (d p : Int) (wr : Bool) (w : World) (hs : Sl w v zs) (h : Ls w vc l) (hE : thE zs ⟨mo, ba, l, op, oh, ot, st, fe, fp, fh, ft, lo⟩ d p = 0) (hm : mo = 2) :
    Calls Try.prog 52 #[.agg #[v], .agg #[.int .i64 mo, .int .i64 ba, vc, .int .i64 op, .int .i64 oh, .int .i64 ot, .bool st, .int .i64 fe, .int .i64 fp, .int .i64 fh, .int .i64 ft, .bool lo], .int .i64 d, .int .i64 p, .bool wr] w fun e w' =>
      ∃ vc1 l1 k f, e = .returned (.tuple #[.agg #[.int .i64 mo, .int .i64 ba, vc1, .int .i64 op, .int .i64 oh, .int .i64 ot, .bool st, .int .i64 fe, .int .i64 fp, .int .i64 fh, .int .i64 ft, .bool lo], .int .i64 k, .int .i64 f]) ∧ goT zs ⟨mo, ba, l, op, oh, ot, st, fe, fp, fh, ft, lo⟩ d p wr = (⟨mo, ba, l1, op, oh, ot, st, fe, fp, fh, ft, lo⟩, k, f) ∧ Ls w' vc1 l1 ∧ Below w.heap.size w w' := by
  obtain ⟨hk, hb, hd, hp⟩ := thE_ok hE
  obtain ⟨_, g2, _, g4, _, _⟩ := chkB_ok hb
  have hg : ∀ X, goT zs ⟨mo, ba, l, op, oh, ot, st, fe, fp, fh, ft, lo⟩ d p wr = X ↔ (if 0 ≤ fndC l d p then (if (wr && !(lineC l d p).2.2.2.2) = true then (⟨mo, ba, l, op, oh, ot, st, fe, fp, fh, ft, lo⟩, 0, 5) else (⟨mo, ba, l, op, oh, ot, st, fe, fp, fh, ft, lo⟩, (lineC l d p).2.2.1, 0)) else byT zs ⟨mo, ba, l, op, oh, ot, st, fe, fp, fh, ft, lo⟩ d p wr) = X := fun X => by
    rw [goT, if_neg (by show ¬ mo = 0; omega), if_neg (by show ¬ mo = 1; omega)]
  by_cases hf : 0 ≤ fndC l d p
  · refine (whileOn_found v zs mo ba op oh ot fe fp fh ft st lo vc l d p wr w hs h hf).mono ?_
    rintro e w' ⟨rfl, hl, hb⟩
    refine ⟨_, l, _, _, rfl, (hg _).2 ?_, hl, hb⟩
    rw [if_pos hf]
    cases hq : (wr && !(lineC l d p).2.2.2.2) <;> rfl
  · refine (whileOn_table v zs mo ba op oh ot fe fp fh ft st lo vc l d p wr w hs h hk g4 g2 hd hp hf).mono ?_
    rintro e w' ⟨vc1, l1, k, f, rfl, hT, hl, hb⟩
    exact ⟨vc1, l1, k, f, rfl, (hg _).2 (by rw [if_neg hf]; exact hT), hl, hb⟩

theorem whoB_ways (d p : Int) : (whoB d p = true ∧ stepR d = true ∧ pageR p = true) ∨ (whoB d p = false ∧ (stepR d = false ∨ (stepR d = true ∧ pageR p = false))) := by
  simp only [whoB, stepR, pageR]
  by_cases h1 : 0 ≤ d ∧ d < 8
  · by_cases h2 : 0 ≤ p ∧ p < 64
    · exact .inl ⟨by simp; omega, by simp [h1], by simp [h2]⟩
    · exact .inr ⟨by simp; omega, .inr ⟨by simp [h1], by simpa using h2⟩⟩
  · exact .inr ⟨by simp; omega, .inl (by simpa using h1)⟩

/-- What comes out of Through, as letters. -/
abbrev ThOut (zs : List Int) (b : Br) (d p : Int) (wr : Bool) (w : World) (e : Ending) (w' : World) : Prop :=
  ∃ mo1 ba1 op1 oh1 ot1 fe1 fp1 fh1 ft1 st1 lo1 va1 vk1 l1 k f, e = .returned (.tuple #[.agg #[.int .i64 mo1, .int .i64 ba1, .slice va1 l1.length vk1, .int .i64 op1, .int .i64 oh1, .int .i64 ot1, .bool st1, .int .i64 fe1, .int .i64 fp1, .int .i64 fh1, .int .i64 ft1, .bool lo1], .int .i64 k, .int .i64 f, .int .i64 (thE zs b d p)]) ∧ thR zs b d p wr = (⟨mo1, ba1, l1, op1, oh1, ot1, st1, fe1, fp1, fh1, ft1, lo1⟩, k, f) ∧ Ls w' (.slice va1 l1.length vk1) l1 ∧ Below w.heap.size w w'

set_option maxHeartbeats 4000000 in
theorem through_any (v : Value) (zs : List Int) (mo ba op oh ot fe fp fh ft : Int) (st lo : Bool) (vc : Value) (l : List Ln) (d p : Int) (wr : Bool) (w : World) (hs : Sl w v zs) (h : Ls w vc l) :
    Calls Try.prog 20 #[.agg #[v], .agg #[.int .i64 mo, .int .i64 ba, vc, .int .i64 op, .int .i64 oh, .int .i64 ot, .bool st, .int .i64 fe, .int .i64 fp, .int .i64 fh, .int .i64 ft, .bool lo], .int .i64 d, .int .i64 p, .bool wr] w fun e w' => ThOut zs ⟨mo, ba, l, op, oh, ot, st, fe, fp, fh, ft, lo⟩ d p wr w e w' := by
  have HS : Hid (Ls w vc l) := h
  obtain ⟨va, vk, rfl, -⟩ := h.shape
  have HM : Hid (Sl w v zs) := hs
  obtain ⟨ma, mc, rfl⟩ := hs.shape
  clear h hs
  go_enter Try.func20, Try.ntmps20
  go_wp2_with fail
  refine (checkBothB_any _ zs mo ba op oh ot fe fp fh ft st lo (.slice va l.length vk) l _ (HM.out.keep (bel_alloc (bel_alloc (bel_alloc (Below.refl _ _) _) _) _)) (HS.out.keep (bel_alloc (bel_alloc (bel_alloc (Below.refl _ _) _) _) _))).mono ?_
  rintro e w1 ⟨rfl, b1⟩
  have X0 := (((Box.newAt (n := w.heap.size) rfl 39 #[.slice ma zs.length mc]).past _).past _).keep b1
  have X1 := ((Box.newAt (n := w.heap.size + 1) (by simp) 44 #[.int .i64 mo, .int .i64 ba, .slice va l.length vk, .int .i64 op, .int .i64 oh, .int .i64 ot, .bool st, .int .i64 fe, .int .i64 fp, .int .i64 fh, .int .i64 ft, .bool lo]).past _).keep b1
  have X2 := (Box.newAt (n := w.heap.size + 1 + 1) (by simp) 44 #[.int .i64 0, .int .i64 0, .slice none 0 0, .int .i64 0, .int .i64 0, .int .i64 0, .bool false, .int .i64 0, .int .i64 0, .int .i64 0, .int .i64 0, .bool false]).keep b1
  have B1 : Hid (Below w.heap.size w w1) := bel_trans (bel_alloc (bel_alloc (bel_alloc (Below.refl _ _) _) _) _) b1
  clear b1
  obtain ⟨qm, -, s0⟩ := X0.one
  obtain ⟨⟨q0, q1, q2, q3, q4, q5, q6, q7, q8, q9, q10, q11⟩, s1⟩ := X1.twelve
  obtain ⟨⟨u0, u1, u2, u3, u4, u5, u6, u7, u8, u9, u10, u11⟩, s2⟩ := X2.twelve
  obtain ⟨y0, y1, y2, y3, y4, y5, y6, y7, y8, y9, y10, y11⟩ := X2.marks
  by_cases hk : bothB zs ⟨mo, ba, l, op, oh, ot, st, fe, fp, fh, ft, lo⟩ = 0
  rotate_left
  · have HE : Hid (thE zs ⟨mo, ba, l, op, oh, ot, st, fe, fp, fh, ft, lo⟩ d p = bothB zs ⟨mo, ba, l, op, oh, ot, st, fe, fp, fh, ft, lo⟩) := if_neg hk
    have HR : Hid (thR zs ⟨mo, ba, l, op, oh, ot, st, fe, fp, fh, ft, lo⟩ d p wr = (B0, 0, 0)) := if_neg (by rw [HE.out]; exact hk)
    generalize bothB zs ⟨mo, ba, l, op, oh, ot, st, fe, fp, fh, ft, lo⟩ = E at *
    have hq : (E != 0) = true := by simpa using hk
    go_wp2
    refine bodyPost_ret (v := .tuple #[.agg #[.int .i64 0, .int .i64 0, .slice none 0 0, .int .i64 0, .int .i64 0, .int .i64 0, .bool false, .int .i64 0, .int .i64 0, .int .i64 0, .int .i64 0, .bool false], .int .i64 0, .int .i64 0, .int .i64 E]) (by simp [results, Try.results20, go_sem, *]) rfl ⟨_, _, _, _, _, _, _, _, _, _, _, _, _, [], _, _, by rw [HE.out]; rfl, HR.out, Ls.nothing _, ?_⟩
    (repeat (first | with_reducible exact B1.out | with_reducible refine bel_alloc ?_ _ | (with_reducible refine bel_set12 ?_ ?_ _ _ _ _ _ _ _ _ _ _ _ _; (focus omega))))
  rcases whoB_ways d p with ⟨hw, hw1, hw2⟩ | ⟨hw, hww⟩
  rotate_left
  · have HE : Hid (thE zs ⟨mo, ba, l, op, oh, ot, st, fe, fp, fh, ft, lo⟩ d p = 4) := by show _ = _; rw [thE, if_pos hk, hw]; rfl
    have HR : Hid (thR zs ⟨mo, ba, l, op, oh, ot, st, fe, fp, fh, ft, lo⟩ d p wr = (B0, 0, 0)) := if_neg (by rw [HE.out]; decide)
    rw [hk]
    clear hw hk
    rcases hww with hw1 | ⟨hw1, hw2⟩
    all_goals
      go_wp2_with (first | (go_at_call 50; refine (isPageB_any _ _).mono ?_; rintro e w' ⟨rfl, rfl⟩) | (go_at_call 49; refine (isDevB_any _ _).mono ?_; rintro e w' ⟨rfl, rfl⟩))
      refine bodyPost_ret (v := .tuple #[.agg #[.int .i64 0, .int .i64 0, .slice none 0 0, .int .i64 0, .int .i64 0, .int .i64 0, .bool false, .int .i64 0, .int .i64 0, .int .i64 0, .int .i64 0, .bool false], .int .i64 0, .int .i64 0, .int .i64 4]) (by simp [results, Try.results20, go_sem, *]) rfl ⟨_, _, _, _, _, _, _, _, _, _, _, _, _, [], _, _, by rw [HE.out]; rfl, HR.out, Ls.nothing _, ?_⟩
      (repeat (first | with_reducible exact B1.out | with_reducible refine bel_alloc ?_ _ | (with_reducible refine bel_set12 ?_ ?_ _ _ _ _ _ _ _ _ _ _ _ _; (focus omega))))
  have HE : Hid (thE zs ⟨mo, ba, l, op, oh, ot, st, fe, fp, fh, ft, lo⟩ d p = 0) := by show _ = _; rw [thE, if_pos hk, if_pos hw]
  have HR : Hid (thR zs ⟨mo, ba, l, op, oh, ot, st, fe, fp, fh, ft, lo⟩ d p wr = goT zs ⟨mo, ba, l, op, oh, ot, st, fe, fp, fh, ft, lo⟩ d p wr) := if_pos HE.out
  have hmo : 0 ≤ mo ∧ mo ≤ 2 := (chkB_ok (bothB_ok hk).2).1
  have hl6 : l.length ≤ 6 := chkC_len (chkB_ok (bothB_ok hk).2).2.2.2.1
  rw [hk]
  clear hk hw
  go_wp2_with (first | (go_at_call 50; refine (isPageB_any _ _).mono ?_; rintro e w' ⟨rfl, rfl⟩) | (go_at_call 49; refine (isDevB_any _ _).mono ?_; rintro e w' ⟨rfl, rfl⟩))
  refine (copyOf_any mo ba op oh ot fe fp fh ft st lo (.slice va l.length vk) l _ (HS.out.keep B1.out) hl6).mono ?_
  rintro e w2 ⟨g, rfl, hS2, b2⟩
  clear q0 q1 q2 q3 q4 q5 q6 q7 q8 q9 q10 q11 u0 u1 u2 u3 u4 u5 u6 u7 u8 u9 u10 u11 y0 y1 y2 y3 y4 y5 y6 y7 y8 y9 y10 y11 s0 s1 s2 qm X1
  have X0 := X0.keep b2
  have X2 := X2.keep b2
  have B2 : Hid (Below w.heap.size w w2) := bel_trans B1.out b2
  have AP : Hid (Apart _ _ _) := hS2.apart X2
  have H2 : Hid (Ls _ _ _) := hS2
  clear b2 B1 hS2
  obtain ⟨qm, -, s0⟩ := X0.one
  obtain ⟨⟨u0, u1, u2, u3, u4, u5, u6, u7, u8, u9, u10, u11⟩, s2⟩ := X2.twelve
  obtain ⟨y0, y1, y2, y3, y4, y5, y6, y7, y8, y9, y10, y11⟩ := X2.marks
  have z1 : w.heap.size < w2.heap.size := by omega
  obtain hm | hm | hm : mo = 0 ∨ mo = 1 ∨ mo = 2 := by omega
  · subst hm
    have HG : Hid (goT zs ⟨0, ba, l, op, oh, ot, st, fe, fp, fh, ft, lo⟩ d p wr = (⟨0, ba, l, op, oh, ot, st, fe, fp, fh, ft, lo⟩, 0, 1)) := rfl
    go_wp2
    refine bodyPost_ret (v := .tuple #[.agg #[.int .i64 0, .int .i64 ba, .slice (some ⟨g, 0, none⟩) l.length l.length, .int .i64 op, .int .i64 oh, .int .i64 ot, .bool st, .int .i64 fe, .int .i64 fp, .int .i64 fh, .int .i64 ft, .bool lo], .int .i64 0, .int .i64 1, .int .i64 0]) (by simp [results, Try.results20, go_sem, *]) rfl ⟨_, _, _, _, _, _, _, _, _, _, _, _, _, l, _, _, by rw [HE.out], HR.out.trans HG.out, ?_, ?_⟩
    · (repeat (first | with_reducible exact H2.out | with_reducible refine Ls.alloc ?_ _ | with_reducible refine Ls.put12 ?_ AP.out _ _ _ _ _ _ _ _ _ _ _ _))
    · (repeat (first | with_reducible exact B2.out | with_reducible refine bel_alloc ?_ _ | (with_reducible refine bel_set12 ?_ ?_ _ _ _ _ _ _ _ _ _ _ _ _; (focus omega))))
  · subst hm
    have HG : Hid (goT zs ⟨1, ba, l, op, oh, ot, st, fe, fp, fh, ft, lo⟩ d p wr = (⟨1, ba, l, op, oh, ot, st, fe, fp, fh, ft, lo⟩, p, 0)) := rfl
    go_wp2
    refine bodyPost_ret (v := .tuple #[.agg #[.int .i64 1, .int .i64 ba, .slice (some ⟨g, 0, none⟩) l.length l.length, .int .i64 op, .int .i64 oh, .int .i64 ot, .bool st, .int .i64 fe, .int .i64 fp, .int .i64 fh, .int .i64 ft, .bool lo], .int .i64 p, .int .i64 0, .int .i64 0]) (by simp [results, Try.results20, go_sem, *]) rfl ⟨_, _, _, _, _, _, _, _, _, _, _, _, _, l, _, _, by rw [HE.out], HR.out.trans HG.out, ?_, ?_⟩
    · (repeat (first | with_reducible exact H2.out | with_reducible refine Ls.alloc ?_ _ | with_reducible refine Ls.put12 ?_ AP.out _ _ _ _ _ _ _ _ _ _ _ _))
    · (repeat (first | with_reducible exact B2.out | with_reducible refine bel_alloc ?_ _ | (with_reducible refine bel_set12 ?_ ?_ _ _ _ _ _ _ _ _ _ _ _ _; (focus omega))))
  subst hm
  go_wp2_with fail
  refine (whileOn_any _ zs 2 ba op oh ot fe fp fh ft st lo (.slice (some ⟨g, 0, none⟩) l.length l.length) l d p wr _ (HM.out.keep (bel_alloc B2.out _)) (H2.out.alloc _) HE.out rfl).mono ?_
  rintro e w3 ⟨vc1, l1, k, f, rfl, hG, hL, b3⟩
  obtain ⟨va1, vk1, rfl, -⟩ := hL.shape
  have X2 := (X2.past _).keep b3
  have X3 := (Box.newAt (w := w2) rfl 44 #[.int .i64 2, .int .i64 ba, .slice (some ⟨g, 0, none⟩) l.length l.length, .int .i64 op, .int .i64 oh, .int .i64 ot, .bool st, .int .i64 fe, .int .i64 fp, .int .i64 fh, .int .i64 ft, .bool lo]).keep b3
  have B3 : Hid (Below w.heap.size w w3) := bel_trans (bel_alloc B2.out _) b3
  have AP2 : Hid (Apart _ _ _) := hL.apart X2
  have AP3 : Hid (Apart _ _ _) := hL.apart X3
  have H3 : Hid (Ls _ _ _) := hL
  have HG : Hid (_ = _) := hG
  clear b3 B2 hL hG u0 u1 u2 u3 u4 u5 u6 u7 u8 u9 u10 u11 y0 y1 y2 y3 y4 y5 y6 y7 y8 y9 y10 y11 qm X0
  have n2 : ¬ w2.heap.size = w.heap.size + 1 + 1 := by omega
  clear s2
  obtain ⟨⟨u0, u1, u2, u3, u4, u5, u6, u7, u8, u9, u10, u11⟩, s2⟩ := X2.twelve
  obtain ⟨y0, y1, y2, y3, y4, y5, y6, y7, y8, y9, y10, y11⟩ := X2.marks
  obtain ⟨⟨t0, t1, t2, t3, t4, t5, t6, t7, t8, t9, t10, t11⟩, s3⟩ := X3.twelve
  obtain ⟨x0, x1, x2, x3, x4, x5, x6, x7, x8, x9, x10, x11⟩ := X3.marks
  go_wp2
  refine bodyPost_ret (v := .tuple #[.agg #[.int .i64 2, .int .i64 ba, .slice va1 l1.length vk1, .int .i64 op, .int .i64 oh, .int .i64 ot, .bool st, .int .i64 fe, .int .i64 fp, .int .i64 fh, .int .i64 ft, .bool lo], .int .i64 k, .int .i64 f, .int .i64 0]) (by simp [results, Try.results20, go_sem, *]) rfl ⟨_, _, _, _, _, _, _, _, _, _, _, _, _, l1, _, _, by rw [HE.out], HR.out.trans HG.out, ?_, ?_⟩
  · (repeat (first | with_reducible exact H3.out | with_reducible refine Ls.put12 ?_ AP2.out _ _ _ _ _ _ _ _ _ _ _ _ | with_reducible refine Ls.put12 ?_ AP3.out _ _ _ _ _ _ _ _ _ _ _ _))
  · (repeat (first | with_reducible exact B3.out | (with_reducible refine bel_set12 ?_ ?_ _ _ _ _ _ _ _ _ _ _ _ _; (focus omega))))
end Go.Proofs.Ytemnklppplgcoab
