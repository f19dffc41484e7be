/-
  Laid together: Word3, Worded, ObeyB.
-/
import Derived.Test.YthlhocneggcekaaGreatB1
import Derived.Test.YthlhocneggcekaaGreatB2
import Derived.Test.YthlhocneggcekaaGreatB3
import Derived.Test.YthlhocneggcekaaGreatB4
import Derived.Test.YthlhocneggcekaaGreatB5
import Derived.Test.YthlhocneggcekaaGreatB6
import Derived.Test.YthlhocneggcekaaGreatB7
import Derived.Test.YthlhocneggcekaaGreatB8
import Derived.Test.YthlhocneggcekaaGreatB9
import Derived.Test.YthlhocneggcekaaGreatB10
import Derived.Test.YthlhocneggcekaaGreatB11
import Derived.Test.YthlhocneggcekaaGreatB13
import Derived.Test.YthlhocneggcekaaGreatB30
import Derived.Test.YthlhocneggcekaaGreatRows
import Derived.WalkKit
import Derived.WalkSpells
import Derived.WalkLawsBesides
import Derived.Below
import Derived.WalkSmall
import Derived.Deep.QuietTactic
import Derived.BigQuiet
import Derived.Deep.Draws
import Derived.Maps.OwnOps
import Derived.Maps.OwnSet
import Derived.Deep.AppendLies
import Derived.Deep.RegionWith
import Derived.LoopN
import Derived.Deep.CutRange
import Derived.Deep.RegionHeld3
import Derived.Deep.DrawnRows
import Derived.Laws.CopyOwn
namespace Go.Proofs.YthlhocneggcekaaGreat
open Go.RowKit
theorem roE_out {z : Int} (h : ¬ (0 ≤ z ∧ z ≤ 65535)) : roE z = 2 := if_neg h
theorem roE_bad {z : Int} (h : 0 ≤ z ∧ z ≤ 65535) (k : ¬ oE (z % 4) (z / 4 % 8) (z / 32) = 0) : roE z = 3 := by rw [roE, if_pos h, if_neg k]
theorem roO_bad {z e : Int} (h : roE z = e) (hn : ¬ e = 0) : roO z = (0, 0, 0) := if_neg (fun x => hn (h.symm.trans x))
theorem roO_ok {z : Int} (h : roE z = 0) : roO z = (z % 4, z / 4 % 8, z / 32) := if_pos h
theorem ro_way {z : Int} (h : 0 ≤ z ∧ z ≤ 65535) :
    (roE z = 3 ∧ roO z = (0, 0, 0) ∧ (¬ oE (z % 4) (z / 4 % 8) (z / 32 % 64) = 0 ∨ (oE (z % 4) (z / 4 % 8) (z / 32 % 64) = 0 ∧ ¬ oW (z % 4) (z / 4 % 8) (z / 32 % 64) = z))) ∨
    (roE z = 0 ∧ roO z = (z % 4, z / 4 % 8, z / 32 % 64) ∧ oE (z % 4) (z / 4 % 8) (z / 32 % 64) = 0 ∧ oW (z % 4) (z / 4 % 8) (z / 32 % 64) = z) := by
  by_cases hs : z < 2048
  · have e : z / 32 % 64 = z / 32 := by omega
    rw [e]
    by_cases hk : oE (z % 4) (z / 4 % 8) (z / 32) = 0
    · have hr := roE_mk h hk
      exact .inr ⟨hr, roO_ok hr, hk, by rw [oW_ok hk]; omega⟩
    · have hr := roE_bad h hk
      exact .inl ⟨hr, roO_bad hr (by decide), .inl hk⟩
  · have hr : roE z = 3 := roE_bad h fun hk => by have := (oE_ok hk).2.2.1; omega
    refine .inl ⟨hr, roO_bad hr (by decide), ?_⟩
    by_cases hk : oE (z % 4) (z / 4 % 8) (z / 32 % 64) = 0
    · exact .inr ⟨hk, by rw [oW_ok hk]; omega⟩
    · exact .inl hk
set_option maxHeartbeats 2000000 in
theorem readOrder_any (z : Int) (w : World) :
    Calls Tryz.prog 63 #[J z] w fun e w' => (∃ k d p, e = .returned (.tuple #[.agg #[J k, J d, J p], J (roE z)]) ∧ roO z = (k, d, p)) ∧ Below w.heap.size w w' := by
  cases hw : betweenB 0 65535 z
  · have hr : roE z = 2 := roE_out (of_decide_eq_false hw)
    have HO : Hid (roO z = (0, 0, 0)) := roO_bad hr (by decide)
    rw [hr]
    clear hr
    go_enter Tryz.func63, Tryz.ntmps63
    go_wp2_with fail
    refine (oIsWord_any _ _).mono ?_
    rintro e w1 ⟨rfl, rfl⟩
    rw [hw]
    go_wp2
    refine bodyPost_ret (v := .tuple #[.agg #[J 0, J 0, J 0], J 2]) (by simp [results, Tryz.results63, go_sem]) rfl ⟨⟨_, _, _, rfl, HO.out⟩, ?_⟩
    exact bel_alloc (Below.refl _ _) _
  have hz := of_between hw
  have hway := ro_way hz
  obtain ⟨h0, h1⟩ := hz
  obtain ⟨eo, heo⟩ : ∃ eo, oE (z % 4) (z / 4 % 8) (z / 32 % 64) = eo := ⟨_, rfl⟩
  obtain ⟨xo, hxo⟩ : ∃ xo, oW (z % 4) (z / 4 % 8) (z / 32 % 64) = xo := ⟨_, rfl⟩
  rw [heo, hxo] at hway
  have HW : Hid _ := hway
  have HE : Hid _ := heo
  have HX : Hid _ := hxo
  clear hway heo hxo
  go_enter Tryz.func63, Tryz.ntmps63
  go_wp2_with fail
  refine (oIsWord_any _ _).mono ?_
  rintro e w1 ⟨rfl, rfl⟩
  rw [hw]
  go_wp2_with fail
  refine (putOrder_any _ _ _ _).mono ?_
  rintro e w1 ⟨rfl, b1⟩
  rw [HE.out, HX.out]
  have X0 := (Box.newAt (n := w.heap.size) (by simp) 115 #[J 0, J 0, J 0]).past (.cells #[J (z % 4), J (z / 4 % 8), J (z / 32 % 64)] 115) |>.keep b1
  have X1 := (Box.newAt (w := w.alloc (.cells #[J 0, J 0, J 0] 115)) (n := w.heap.size + 1) (by simp) 115 #[J (z % 4), J (z / 4 % 8), J (z / 32 % 64)]).keep b1
  have B1 : Hid (Below w.heap.size w w1) := bel_trans (bel_alloc (bel_alloc (Below.refl _ _) _) _) b1
  clear b1
  obtain ⟨u0, u1, u2, g0, g1, g2, s0⟩ := X0.three
  obtain ⟨q0, q1, q2, -, -, -, s1⟩ := X1.three
  clear X0 X1
  rcases HW.out with ⟨hr, ho, hk | ⟨hk, hx⟩⟩ | ⟨hr, ho, hk, hx⟩
  · have HR : Hid _ := hr
    have HO : Hid _ := ho
    have hq : (eo != 0) = true := by simpa using hk
    clear hr ho HW HE HX hk
    go_wp2
    refine bodyPost_ret (v := .tuple #[.agg #[J 0, J 0, J 0], J 3]) (by simp [results, Tryz.results63, go_sem, *]) rfl ⟨⟨_, _, _, by rw [HR.out], HO.out⟩, ?_⟩
    exact bel_set3 (by omega) B1.out _ _ _
  · have HR : Hid _ := hr
    have HO : Hid _ := ho
    have hq : (xo != z) = true := by simpa using hx
    clear hr ho HW HE HX hx
    subst hk
    go_wp2
    refine bodyPost_ret (v := .tuple #[.agg #[J 0, J 0, J 0], J 3]) (by simp [results, Tryz.results63, go_sem, *]) rfl ⟨⟨_, _, _, by rw [HR.out], HO.out⟩, ?_⟩
    exact bel_set3 (by omega) B1.out _ _ _
  · have HR : Hid _ := hr
    have HO : Hid _ := ho
    clear hr ho HW HE HX
    subst hk hx
    go_wp2
    refine bodyPost_ret (v := .tuple #[.agg #[J (xo % 4), J (xo / 4 % 8), J (xo / 32 % 64)], J 0]) (by simp [results, Tryz.results63, go_sem, *]) rfl ⟨⟨_, _, _, by rw [HR.out], HO.out⟩, ?_⟩
    exact bel_set3 (by omega) B1.out _ _ _
theorem readOrder_at {z k d p e1 : Int} {w : World} (hE : roE z = e1) (hO : roO z = (k, d, p)) :
    Calls Tryz.prog 63 #[J z] w fun e w' => e = .returned (.tuple #[.agg #[J k, J d, J p], J e1]) ∧ Below w.heap.size w w' := by
  refine (readOrder_any z w).mono ?_
  rintro e w' ⟨⟨k', d', p', rfl, h⟩, hb⟩
  rw [hO] at h
  simp only [Prod.mk.injEq] at h
  obtain ⟨rfl, rfl, rfl⟩ := h
  rw [hE]
  exact ⟨rfl, hb⟩
abbrev ObOutN (zs : List Int) (b : Br) (w : World) (e : Ending) (w' : World) : Prop :=
  ∃ mo1 ba1 op1 oh1 ot1 fe1 fp1 fh1 ft1 st1 lo1 va1 vk1 l1, e = .returned (.tuple #[.agg #[J mo1, J ba1, .slice va1 l1.length vk1, J op1, J oh1, J ot1, .bool st1, J fe1, J fp1, J fh1, J ft1, .bool lo1], J (obE zs b)]) ∧ obB zs b = ⟨mo1, ba1, l1, op1, oh1, ot1, st1, fe1, fp1, fh1, ft1, lo1⟩ ∧ Ls w' (.slice va1 l1.length vk1) l1 ∧ Fresh w.heap.size (.slice va1 l1.length vk1) ∧ Below w.heap.size w w'
set_option maxHeartbeats 4000000 in
theorem obey_anyN (v : Value) (zs : List Int) (mo ba op oh ot fe fp fh ft : Int) (st lo : Bool) (vc : Value) (l : List Ln) (w : World) (hs : Sl w v zs) (h : Ls w vc l) :
    Calls Tryz.prog 66 #[.agg #[v], .agg #[J mo, J ba, vc, J op, J oh, J ot, .bool st, J fe, J fp, J fh, J ft, .bool lo]] w fun e w' => ObOutN zs ⟨mo, ba, l, op, oh, ot, st, fe, fp, fh, ft, lo⟩ w e w' := by
  have HS : Hid (Ls w vc l) := h
  obtain ⟨va, vk, rfl, -⟩ := h.shape
  have HM : Hid (Sl w v zs) := hs
  obtain ⟨ma, mc, rfl⟩ := hs.shape
  clear h hs
  go_enter Tryz.func66, Tryz.ntmps66
  go_wp2_with fail
  have B0 : Hid (Below w.heap.size w _) := bel_alloc (bel_alloc (bel_alloc (Below.refl w.heap.size w) (.cells #[.slice ma zs.length mc] 24)) (.cells #[J mo, J ba, .slice va l.length vk, J op, J oh, J ot, .bool st, J fe, J fp, J fh, J ft, .bool lo] 31)) (.cells #[J 0, J 0, .slice none 0 0, J 0, J 0, J 0, .bool false, J 0, J 0, J 0, J 0, .bool false] 31)
  refine (checkBothB_any _ zs mo ba op oh ot fe fp fh ft st lo (.slice va l.length vk) l _ (HM.out.keep B0.out) (HS.out.keep B0.out)).mono ?_
  rintro e w1 ⟨rfl, b1⟩
  have X0 := (((Box.newAt (n := w.heap.size) rfl 24 #[.slice ma zs.length mc]).past _).past _).keep b1
  have X1 := ((Box.newAt (n := w.heap.size + 1) (by simp) 31 #[J mo, J ba, .slice va l.length vk, J op, J oh, J ot, .bool st, J fe, J fp, J fh, J ft, .bool lo]).past _).keep b1
  have X2 := (Box.newAt (n := w.heap.size + 1 + 1) (by simp) 31 #[J 0, J 0, .slice none 0 0, J 0, J 0, J 0, .bool false, J 0, J 0, J 0, J 0, .bool false]).keep b1
  have B1 : Hid (Below w.heap.size w w1) := bel_trans B0.out b1
  clear b1 B0
  obtain ⟨m0, -, s0⟩ := X0.one
  obtain ⟨⟨q0, q1, q2, q3, q4, q5, q6, q7, q8, q9, q10, q11⟩, s1⟩ := X1.twelve
  obtain ⟨⟨u0, u1, u2, u3, u4, u5, u6, u7, u8, u9, u10, u11⟩, s2⟩ := X2.twelve
  obtain ⟨y0, y1, y2, y3, y4, y5, y6, y7, y8, y9, y10, y11⟩ := X2.marks
  by_cases hk : bothB zs ⟨mo, ba, l, op, oh, ot, st, fe, fp, fh, ft, lo⟩ = 0
  rotate_left
  · have HE : Hid (obE zs ⟨mo, ba, l, op, oh, ot, st, fe, fp, fh, ft, lo⟩ = bothB zs ⟨mo, ba, l, op, oh, ot, st, fe, fp, fh, ft, lo⟩) := if_neg hk
    have HB : Hid (obB zs ⟨mo, ba, l, op, oh, ot, st, fe, fp, fh, ft, lo⟩ = B0) := if_neg (by rw [HE.out]; exact hk)
    generalize bothB zs ⟨mo, ba, l, op, oh, ot, st, fe, fp, fh, ft, lo⟩ = E at *
    have hq : (E != 0) = true := by simpa using hk
    go_wp2
    refine bodyPost_ret (v := .tuple #[.agg #[J 0, J 0, .slice none 0 0, J 0, J 0, J 0, .bool false, J 0, J 0, J 0, J 0, .bool false], J E]) (by simp [results, Tryz.results66, go_sem, *]) rfl ⟨_, _, _, _, _, _, _, _, _, _, _, _, _, [], by rw [HE.out]; rfl, HB.out, Ls.nothing _, Fresh.none _ _ _, ?_⟩
    (repeat (first | with_reducible exact B1.out | with_reducible refine bel_alloc ?_ _ | (with_reducible refine bel_set12 ?_ ?_ _ _ _ _ _ _ _ _ _ _ _ _; (focus omega)) | (with_reducible refine bel_set ?_ ?_ _; (focus (dsimp only; omega)))))
  have HK : Hid (_ = _) := hk
  rw [hk]
  clear hk
  cases st
  rotate_left
  · have HE : Hid (obE zs ⟨mo, ba, l, op, oh, ot, true, fe, fp, fh, ft, lo⟩ = 6) := by show _ = _; rw [obE, if_pos HK.out]; rfl
    have HB : Hid (obB zs ⟨mo, ba, l, op, oh, ot, true, fe, fp, fh, ft, lo⟩ = B0) := if_neg (by rw [HE.out]; decide)
    go_wp2
    refine bodyPost_ret (v := .tuple #[.agg #[J 0, J 0, .slice none 0 0, J 0, J 0, J 0, .bool false, J 0, J 0, J 0, J 0, .bool false], J 6]) (by simp [results, Tryz.results66, go_sem, *]) rfl ⟨_, _, _, _, _, _, _, _, _, _, _, _, _, [], by rw [HE.out]; rfl, HB.out, Ls.nothing _, Fresh.none _ _ _, ?_⟩
    (repeat (first | with_reducible exact B1.out | with_reducible refine bel_alloc ?_ _ | (with_reducible refine bel_set12 ?_ ?_ _ _ _ _ _ _ _ _ _ _ _ _; (focus omega)) | (with_reducible refine bel_set ?_ ?_ _; (focus (dsimp only; omega)))))
  have HZ : Hid (chk zs = 0) := (bothB_ok HK.out).1
  have HR : Hid (chkR op oh ot = 0) := (chkB_ok (bothB_ok HK.out).2).2.2.2.2.1
  have hl6 : l.length ≤ 6 := (chkC_zero.1 (chkB_ok (bothB_ok HK.out).2).2.2.2.1).1
  by_cases ho : oh = ot
  · subst ho
    have HE : Hid (obE zs ⟨mo, ba, l, op, oh, oh, false, fe, fp, fh, ft, lo⟩ = 6) := by show _ = _; rw [obE, if_pos HK.out]; simp
    have HB : Hid (obB zs ⟨mo, ba, l, op, oh, oh, false, fe, fp, fh, ft, lo⟩ = B0) := if_neg (by rw [HE.out]; decide)
    go_wp2_with fail
    refine (pop_none (HM.out.keep B1.out) HZ.out HR.out).mono ?_
    rintro e w2 ⟨rfl, b2⟩
    clear m0 s0 q0 q1 q2 q3 q4 q5 q6 q7 q8 q9 q10 q11 s1 u0 u1 u2 u3 u4 u5 u6 u7 u8 u9 u10 u11 y0 y1 y2 y3 y4 y5 y6 y7 y8 y9 y10 y11 s2
    have X2 := X2.keep b2
    have B2 : Hid (Below w.heap.size w w2) := bel_trans B1.out b2
    clear b2 B1
    obtain ⟨⟨u0, u1, u2, u3, u4, u5, u6, u7, u8, u9, u10, u11⟩, s2⟩ := X2.twelve
    obtain ⟨y0, y1, y2, y3, y4, y5, y6, y7, y8, y9, y10, y11⟩ := X2.marks
    go_wp2
    refine bodyPost_ret (v := .tuple #[.agg #[J 0, J 0, .slice none 0 0, J 0, J 0, J 0, .bool false, J 0, J 0, J 0, J 0, .bool false], J 6]) (by simp [results, Tryz.results66, go_sem, *]) rfl ⟨_, _, _, _, _, _, _, _, _, _, _, _, _, [], by rw [HE.out]; rfl, HB.out, Ls.nothing _, Fresh.none _ _ _, ?_⟩
    (repeat (first | with_reducible exact B2.out | with_reducible refine bel_alloc ?_ _ | (with_reducible refine bel_set12 ?_ ?_ _ _ _ _ _ _ _ _ _ _ _ _; (focus omega)) | (with_reducible refine bel_set ?_ ?_ _; (focus (dsimp only; omega)))))
  have hE : obE zs ⟨mo, ba, l, op, oh, ot, false, fe, fp, fh, ft, lo⟩ = 0 := by rw [obE, if_pos HK.out]; exact if_neg ho
  have HE : Hid (_ = _) := hE
  have HO : Hid (¬ oh = ot) := ho
  have hfe : 0 ≤ fe ∧ fe ≤ 999 := (chkB_ok (bothB_ok HK.out).2).2.2.1
  clear ho hE
  go_wp2_with fail
  refine (pop_ok (HM.out.keep B1.out) HZ.out HR.out HO.out).mono ?_
  rintro e w2 ⟨rfl, b2⟩
  obtain ⟨z, hz⟩ : ∃ z, nth zs (op * 8 + oh).toNat = z := ⟨_, rfl⟩
  have HW : Hid (ordW zs ⟨mo, ba, l, op, oh, ot, false, fe, fp, fh, ft, lo⟩ = z) := hz
  rw [hz]
  clear hz
  clear m0 s0 q0 q1 q2 q3 q4 q5 q6 q7 q8 q9 q10 q11 s1 u0 u1 u2 u3 u4 u5 u6 u7 u8 u9 u10 u11 y0 y1 y2 y3 y4 y5 y6 y7 y8 y9 y10 y11 s2
  have X1 := X1.keep b2
  have X2 := X2.keep b2
  have B2 : Hid (Below w.heap.size w w2) := bel_trans B1.out b2
  clear b2 B1 X0
  obtain ⟨⟨q0, q1, q2, q3, q4, q5, q6, q7, q8, q9, q10, q11⟩, s1⟩ := X1.twelve
  obtain ⟨⟨u0, u1, u2, u3, u4, u5, u6, u7, u8, u9, u10, u11⟩, s2⟩ := X2.twelve
  obtain ⟨y0, y1, y2, y3, y4, y5, y6, y7, y8, y9, y10, y11⟩ := X2.marks
  obtain ⟨nh, hnh⟩ : ∃ z, (oh + 1) % 8 = z := ⟨_, rfl⟩
  have HNH : Hid (_ = _) := hnh
  rw [hnh]
  clear hnh
  go_wp2_with fail
  refine (copyOf_anyN mo ba op oh ot fe fp fh ft false lo (.slice va l.length vk) l _ (HS.out.keep (bel_alloc B2.out _)) hl6).mono ?_
  rintro e w3 ⟨gl, hgl, rfl, hS3, b3⟩
  have FG : Hid (w.heap.size ≤ gl) := by
    have q0 := B2.out.size
    have q1 : w2.heap.size + 1 ≤ gl := by simpa using hgl
    show _ ≤ _
    omega
  clear hgl
  have XR := (Box.newAt (w := w2) rfl 29 #[J op, J nh, J ot]).keep b3
  have zR : w.heap.size + 1 + 1 < w2.heap.size := s2
  clear q0 q1 q2 q3 q4 q5 q6 q7 q8 q9 q10 q11 s1
  clear u0 u1 u2 u3 u4 u5 u6 u7 u8 u9 u10 u11 y0 y1 y2 y3 y4 y5 y6 y7 y8 y9 y10 y11 s2
  have X2 := (X2.past _).keep b3
  have B3 : Hid (Below w.heap.size w w3) := bel_trans (bel_alloc B2.out _) b3
  have H3 : Hid (Ls _ _ _) := hS3
  have AP2 : Hid (Apart _ _ _) := hS3.apart X2
  have zN : w2.heap.size < w3.heap.size := XR.lt
  clear b3 B2 X1 hS3
  obtain ⟨c, e1, hro⟩ : ∃ c e1, (roO z = c ∧ roE z = e1) := ⟨_, _, rfl, rfl⟩
  obtain ⟨k, d, p⟩ := c
  obtain ⟨hO, hEE⟩ := hro
  have HRO : Hid (roO z = (k, d, p)) := hO
  have HRE : Hid (roE z = e1) := hEE
  clear hO hEE
  go_wp2_with fail
  refine (readOrder_at HRE.out HRO.out).mono ?_
  rintro e w4 ⟨rfl, b4⟩
  have X2 := (X2.past _).keep b4
  have XR := (XR.past _).keep b4
  have XN := (Box.newAt (w := w3) rfl 31 #[J mo, J ba, .slice (some ⟨gl, 0, none⟩) l.length l.length, J op, J oh, J ot, .bool false, J fe, J fp, J fh, J ft, .bool lo]).keep b4
  have H4 : Hid (Ls _ _ _) := (H3.out.alloc _).keep b4
  have APN : Hid (Apart _ _ _) := H4.out.apart XN
  have B4 : Hid (Below w.heap.size w w4) := bel_trans (bel_alloc B3.out _) b4
  have zO : w3.heap.size < w4.heap.size := XN.lt
  clear b4 B3 H3
  generalize w3.heap.size = N at *
  generalize w2.heap.size = R at *
  obtain ⟨⟨n0, n1, n2, n3, n4, n5, n6, n7, n8, n9, n10, n11⟩, sN⟩ := XN.twelve
  obtain ⟨i0, i1, i2, i3, i4, i5, i6, i7, i8, i9, i10, i11⟩ := XN.marks
  obtain ⟨r0, r1, r2, -, -, -, sR⟩ := XR.three
  obtain ⟨⟨u0, u1, u2, u3, u4, u5, u6, u7, u8, u9, u10, u11⟩, s2⟩ := X2.twelve
  obtain ⟨y0, y1, y2, y3, y4, y5, y6, y7, y8, y9, y10, y11⟩ := X2.marks
  have nN2 : ¬ N = w.heap.size + 1 + 1 := by omega
  have nM2 : ¬ w.heap.size + 1 + 1 = N := by omega
  have nR2 : ¬ R = w.heap.size + 1 + 1 := by omega
  have nRN : ¬ R = N := by omega
  have nNR : ¬ N = R := by omega
  have zN0 : w.heap.size ≤ N := by omega
  by_cases he : e1 = 0
  rotate_left
  · have HB : Hid (obB zs ⟨mo, ba, l, op, oh, ot, false, fe, fp, fh, ft, lo⟩ = ⟨mo, ba, l, op, oh, ot, true, fe, fp, fh, ft, lo⟩) := (ob_bad HE.out (by rw [HW.out, HRE.out]; exact he)).1
    have hq : (e1 != 0) = true := by simpa using he
    go_wp2
    refine bodyPost_ret (v := .tuple #[.agg #[J mo, J ba, .slice (some ⟨gl, 0, none⟩) l.length l.length, J op, J oh, J ot, .bool true, J fe, J fp, J fh, J ft, .bool lo], J 0]) (by simp [results, Tryz.results66, go_sem, *]) rfl ⟨_, _, _, _, _, _, _, _, _, _, _, _, _, l, by rw [HE.out], HB.out, ?_, fresh_at FG.out _ _ _, ?_⟩
    · exact Ls.alloc (Ls.put12 (Ls.putAt H4.out APN.out 6 _) AP2.out _ _ _ _ _ _ _ _ _ _ _ _) _
    · exact bel_alloc (bel_set12 (by omega) (bel_set (p := ⟨N, 6, none⟩) zN0 B4.out _) _ _ _ _ _ _ _ _ _ _ _ _) _
  subst he
  obtain ⟨eB, -, eD, hk3, -⟩ := ob_right (k := k) (d := d) (p := p) HE.out (by rw [HW.out]; exact HRE.out) (by rw [HW.out]; exact HRO.out)
  have HB : Hid (obB zs ⟨mo, ba, l, op, oh, ot, false, fe, fp, fh, ft, lo⟩ = ⟨mo, ba, drC l k d p, op, (oh + 1) % 8, ot, false, if k = 0 then (fe + 1) % 1000 else fe, fp, fh, ft, lo⟩) := eB
  have HD : Hid (drE l k = 0) := eD
  clear eB eD
  obtain ⟨c, hc⟩ : ∃ c, drC l k d p = c := ⟨_, rfl⟩
  have HC : Hid (_ = _) := hc
  clear hc
  go_wp2_with fail
  have X2 := (((X2.other (p := ⟨N, 3, none⟩) nM2 (J op)).other (p := ⟨N, 4, none⟩) nM2 (J nh)).other (p := ⟨N, 5, none⟩) nM2 (J ot)).past (.cells #[J k, J d, J p] 115)
  have XN : Box ((((w4.setCell ⟨N, 3, none⟩ (J op)).setCell ⟨N, 4, none⟩ (J nh)).setCell ⟨N, 5, none⟩ (J ot)).alloc (.cells #[J k, J d, J p] 115)) N 31 #[J mo, J ba, .slice (some ⟨gl, 0, none⟩) l.length l.length, J op, J nh, J ot, .bool false, J fe, J fp, J fh, J ft, .bool lo] := (((XN.set 3 (J op)).set 4 (J nh)).set 5 (J ot)).past _
  have XO : Box ((((w4.setCell ⟨N, 3, none⟩ (J op)).setCell ⟨N, 4, none⟩ (J nh)).setCell ⟨N, 5, none⟩ (J ot)).alloc (.cells #[J k, J d, J p] 115)) w4.heap.size 115 #[J k, J d, J p] := Box.newAt (by simp) _ _
  have H5 : Hid (Ls ((((w4.setCell ⟨N, 3, none⟩ (J op)).setCell ⟨N, 4, none⟩ (J nh)).setCell ⟨N, 5, none⟩ (J ot)).alloc (.cells #[J k, J d, J p] 115)) _ l) := (((H4.out.putAt APN.out 3 _).putAt APN.out 4 _).putAt APN.out 5 _).alloc _
  have B5 : Hid (Below w.heap.size w ((((w4.setCell ⟨N, 3, none⟩ (J op)).setCell ⟨N, 4, none⟩ (J nh)).setCell ⟨N, 5, none⟩ (J ot)).alloc (.cells #[J k, J d, J p] 115))) := bel_alloc (bel_set (p := ⟨N, 5, none⟩) zN0 (bel_set (p := ⟨N, 4, none⟩) zN0 (bel_set (p := ⟨N, 3, none⟩) zN0 B4.out _) _) _) _
  clear n0 n1 n2 n3 n4 n5 n6 n7 n8 n9 n10 n11 sN i0 i1 i2 i3 i4 i5 i6 i7 i8 i9 i10 i11 r0 r1 r2 sR u0 u1 u2 u3 u4 u5 u6 u7 u8 u9 u10 u11 y0 y1 y2 y3 y4 y5 y6 y7 y8 y9 y10 y11 s2 H4 B4 XR
  have nO2 : ¬ w4.heap.size = w.heap.size + 1 + 1 := by omega
  have nON : ¬ w4.heap.size = N := by omega
  generalize ((((w4.setCell ⟨N, 3, none⟩ (J op)).setCell ⟨N, 4, none⟩ (J nh)).setCell ⟨N, 5, none⟩ (J ot)).alloc (.cells #[J k, J d, J p] 115)) = W5 at *
  generalize w4.heap.size = O at *
  refine (drop_atN H5.out (by omega) (by omega) HD.out HC.out).mono ?_
  rintro e w6 ⟨b6, cap6, rfl, hS6, hF6, bb⟩
  have F6 : Hid (Fresh w.heap.size (.slice b6 c.length cap6)) := hF6.mono B5.out.size
  clear hF6
  have X2 := X2.keep bb
  have XN := XN.keep bb
  have XO := XO.keep bb
  have AP2 : Hid (Apart _ _ _) := hS6.apart X2
  have APN : Hid (Apart _ _ _) := hS6.apart XN
  have H6 : Hid (Ls _ _ _) := hS6
  have B6 : Hid (Below w.heap.size w w6) := bel_trans B5.out bb
  clear bb B5 H5 hS6
  obtain ⟨⟨n0, n1, n2, n3, n4, n5, n6, n7, n8, n9, n10, n11⟩, sN⟩ := XN.twelve
  obtain ⟨-, -, i2, -, -, -, -, i7, -, -, -, -⟩ := XN.marks
  obtain ⟨o0, o1, o2, -, -, -, sO⟩ := XO.three
  obtain ⟨⟨u0, u1, u2, u3, u4, u5, u6, u7, u8, u9, u10, u11⟩, s2⟩ := X2.twelve
  obtain ⟨y0, y1, y2, y3, y4, y5, y6, y7, y8, y9, y10, y11⟩ := X2.marks
  by_cases hk0 : k = 0
  · subst hk0
    have f0 : 0 ≤ fe := hfe.1
    have f1 : fe ≤ 999 := hfe.2
    go_wp2
    refine bodyPost_ret (v := .tuple #[.agg #[J mo, J ba, .slice b6 c.length cap6, J op, J nh, J ot, .bool false, J ((fe + 1) % 1000), J fp, J fh, J ft, .bool lo], J 0]) (by simp [results, Tryz.results66, go_sem, *]) rfl ⟨_, _, _, _, _, _, _, _, _, _, _, _, _, c, by rw [HE.out], HB.out.trans (by rw [HC.out, HNH.out]; rfl), ?_, F6.out, ?_⟩
    · exact Ls.put12 (Ls.putAt (Ls.putAt H6.out APN.out 2 _) APN.out 7 _) AP2.out _ _ _ _ _ _ _ _ _ _ _ _
    · exact bel_set12 (by omega) (bel_set (p := ⟨N, 7, none⟩) zN0 (bel_set (p := ⟨N, 2, none⟩) zN0 B6.out _) _) _ _ _ _ _ _ _ _ _ _ _ _
  · have hq : (k == 0) = false := by simpa using hk0
    have HK0 : Hid (¬ k = 0) := hk0
    clear hk0
    go_wp2
    refine bodyPost_ret (v := .tuple #[.agg #[J mo, J ba, .slice b6 c.length cap6, J op, J nh, J ot, .bool false, J fe, J fp, J fh, J ft, .bool lo], J 0]) (by simp [results, Tryz.results66, go_sem, *]) rfl ⟨_, _, _, _, _, _, _, _, _, _, _, _, _, c, by rw [HE.out], HB.out.trans (by rw [HC.out, HNH.out, if_neg HK0.out]), ?_, F6.out, ?_⟩
    · exact Ls.put12 (Ls.putAt H6.out APN.out 2 _) AP2.out _ _ _ _ _ _ _ _ _ _ _ _
    · exact bel_set12 (by omega) (bel_set (p := ⟨N, 2, none⟩) zN0 B6.out _) _ _ _ _ _ _ _ _ _ _ _ _
end Go.Proofs.YthlhocneggcekaaGreat
