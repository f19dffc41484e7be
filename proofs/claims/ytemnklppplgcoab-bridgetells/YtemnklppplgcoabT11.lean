/-
  Laid together: ToldR, LineAt, FilledR, DroppedR, CacheSaysWalk.
-/
import Derived.Test.YtemnklppplgcoabT10
/-
  drawbridgeref's ToldOf: what it answers, of right things; nothing that was there turns.
-/
namespace Go.Proofs.Ytemnklppplgcoab
open Go.RowKit

theorem pushed_ok {v : Value} {zs : List Int} {p h t x : Int} {w : World} (hs : Sl w v zs) (hz : chk zs = 0) (hr : chkR p h t = 0) (hx : wordB x = true) (hl : ¬ lenR h t = 7) :
    Calls Try.prog 65 #[.agg #[v], .agg #[.int .i64 p, .int .i64 h, .int .i64 t], .int .i64 x] w fun e w' =>
      ∃ v', e = .returned (.tuple #[.agg #[v'], .agg #[.int .i64 p, .int .i64 h, .int .i64 ((t + 1) % 8)], .int .i64 0]) ∧ Sl w' v' (zs.set (p * 8 + t).toNat x) ∧ Fresh w.heap.size v' ∧ Below w.heap.size w w' := by
  refine (pushed_any v zs p h t x w hs).mono ?_
  rintro e w' ⟨⟨v', p', h', t', rfl, hS, hF, hR⟩, hb⟩
  have e0 : psE zs p h t x = 0 := by rw [psE, if_pos (bothR_mk hz hr), if_pos hx, if_neg hl]
  rw [psR, if_pos e0] at hR
  simp only [Prod.mk.injEq] at hR
  obtain ⟨rfl, rfl, rfl⟩ := hR
  rw [psM, if_pos e0] at hS
  rw [e0]
  exact ⟨v', rfl, hS, hF, hb⟩

set_option maxHeartbeats 8000000 in
theorem toldOf_any (v : Value) (zs : List Int) (mo ba op oh ot fe fp fh ft : Int) (st lo : Bool) (vc : Value) (l : List Ln) (c d p : Int) (x : Bool) (w : World) (hs : Sl w v zs) (h : Ls w vc l) (hk : bothB zs ⟨mo, ba, l, op, oh, ot, st, fe, fp, fh, ft, lo⟩ = 0) :
    Calls Try.prog 31 #[.agg #[v], .agg #[.int .i64 mo, .int .i64 ba, vc, .int .i64 op, .int .i64 oh, .int .i64 ot, .bool st, .int .i64 fe, .int .i64 fp, .int .i64 fh, .int .i64 ft, .bool lo], .agg #[.int .i64 c, .int .i64 d, .int .i64 p, .bool x]] w fun e w' => TlOut zs ⟨mo, ba, l, op, oh, ot, st, fe, fp, fh, ft, lo⟩ c d p x w e w' := by
  have HS : Hid (Ls w vc l) := h
  obtain ⟨va, vk, rfl, -⟩ := h.shape
  have HM : Hid (Sl w v zs) := hs
  obtain ⟨ma, mc, rfl⟩ := hs.shape
  have HK : Hid (_ = _) := hk
  clear h hs hk
  go_enter Try.func31, Try.ntmps31
  go_wp2_with fail
  refine (faultWord_any c d p x _).mono ?_
  rintro e w1 ⟨rfl, b1⟩
  have BA : Hid (Below w.heap.size w _) := bel_alloc (bel_alloc (bel_alloc (bel_alloc (bel_alloc (Below.refl w.heap.size w) (.cells #[.slice ma zs.length mc] 39)) (.cells #[.int .i64 mo, .int .i64 ba, .slice va l.length vk, .int .i64 op, .int .i64 oh, .int .i64 ot, .bool st, .int .i64 fe, .int .i64 fp, .int .i64 fh, .int .i64 ft, .bool lo] 44)) (.cells #[.int .i64 c, .int .i64 d, .int .i64 p, .bool x] 25)) (.cells #[.slice none 0 0] 39)) (.cells #[.int .i64 0, .int .i64 0, .slice none 0 0, .int .i64 0, .int .i64 0, .int .i64 0, .bool false, .int .i64 0, .int .i64 0, .int .i64 0, .int .i64 0, .bool false] 44)
  have X0 := (((((Box.newAt (n := w.heap.size) rfl 39 #[.slice ma zs.length mc]).past _).past _).past _).past _).keep b1
  have X1 := ((((Box.newAt (n := w.heap.size + 1) (by simp) 44 #[.int .i64 mo, .int .i64 ba, .slice va l.length vk, .int .i64 op, .int .i64 oh, .int .i64 ot, .bool st, .int .i64 fe, .int .i64 fp, .int .i64 fh, .int .i64 ft, .bool lo]).past _).past _).past _).keep b1
  have X3 := ((Box.newAt (n := w.heap.size + 1 + 1 + 1) (by simp) 39 #[.slice none 0 0]).past _).keep b1
  have X4 := (Box.newAt (n := w.heap.size + 1 + 1 + 1 + 1) (by simp) 44 #[.int .i64 0, .int .i64 0, .slice none 0 0, .int .i64 0, .int .i64 0, .int .i64 0, .bool false, .int .i64 0, .int .i64 0, .int .i64 0, .int .i64 0, .bool false]).keep b1
  have B1 : Hid (Below w.heap.size w w1) := bel_trans BA.out b1
  clear b1 BA
  obtain ⟨m0, m1, s0⟩ := X0.one
  obtain ⟨⟨q0, q1, q2, q3, q4, q5, q6, q7, q8, q9, q10, q11⟩, s1⟩ := X1.twelve
  obtain ⟨i0, i1, i2, i3, i4, i5, i6, i7, i8, i9, i10, i11⟩ := X1.marks
  obtain ⟨r0, r1, s3⟩ := X3.one
  obtain ⟨⟨u0, u1, u2, u3, u4, u5, u6, u7, u8, u9, u10, u11⟩, s4⟩ := X4.twelve
  obtain ⟨y0, y1, y2, y3, y4, y5, y6, y7, y8, y9, y10, y11⟩ := X4.marks
  by_cases hf : fE c d p = 0
  rotate_left
  · have HE : Hid (tlE zs ⟨mo, ba, l, op, oh, ot, st, fe, fp, fh, ft, lo⟩ c d p = fE c d p) := if_pos HK.out
    have HB : Hid (tlB zs ⟨mo, ba, l, op, oh, ot, st, fe, fp, fh, ft, lo⟩ c d p = B0) := if_neg (by rw [HE.out]; exact hf)
    have HT : Hid (tlM zs ⟨mo, ba, l, op, oh, ot, st, fe, fp, fh, ft, lo⟩ c d p x = []) := if_neg (by rw [HE.out]; exact hf)
    generalize fE c d p = E at *
    have hq : (E != 0) = true := by simpa using hf
    go_wp2
    refine bodyPost_ret (v := .tuple #[.agg #[.slice none 0 0], .agg #[.int .i64 0, .int .i64 0, .slice none 0 0, .int .i64 0, .int .i64 0, .int .i64 0, .bool false, .int .i64 0, .int .i64 0, .int .i64 0, .int .i64 0, .bool false], .int .i64 E]) (by simp [results, Try.results31, go_sem, *]) rfl ⟨_, _, _, _, _, _, _, _, _, _, _, _, _, _, _, _, [], by rw [HE.out]; rfl, HB.out, by rw [HT.out]; exact Sl.nil _ _ _, Ls.nothing _, ?_⟩
    (repeat (first | with_reducible exact B1.out | with_reducible refine Below.drew ?_ | with_reducible refine bel_alloc ?_ _ | (with_reducible refine bel_set12 ?_ ?_ _ _ _ _ _ _ _ _ _ _ _ _; (focus omega)) | (with_reducible refine bel_set ?_ ?_ _; (focus (dsimp only; omega)))))
  have hE : tlE zs ⟨mo, ba, l, op, oh, ot, st, fe, fp, fh, ft, lo⟩ c d p = 0 := by rw [tlE, if_pos HK.out, hf]
  have HE : Hid (_ = _) := hE
  have HZ : Hid (chk zs = 0) := (bothB_ok HK.out).1
  have HF : Hid (chkR fp fh ft = 0) := (chkB_ok (bothB_ok HK.out).2).2.2.2.2.2
  have HW : Hid (wordB (fW c d p x) = true) := fW_word x hf
  obtain ⟨W0, hW0⟩ : ∃ z, fW c d p x = z := ⟨_, rfl⟩
  have HW0 : Hid (_ = _) := hW0
  rw [hf, hW0]
  clear hE hf hW0
  cases lo
  rotate_left
  · have HB : Hid (tlB zs ⟨mo, ba, l, op, oh, ot, st, fe, fp, fh, ft, true⟩ c d p = ⟨mo, ba, l, op, oh, ot, st, fe, fp, fh, ft, true⟩) := by show _ = _; rw [tlB, if_pos HE.out]; rfl
    have HT : Hid (tlM zs ⟨mo, ba, l, op, oh, ot, st, fe, fp, fh, ft, true⟩ c d p x = zs) := by show _ = _; rw [tlM, if_pos HE.out]; rfl
    go_wp2
    go_region
    go_wp2
    refine bodyPost_ret (v := .tuple #[.agg #[.slice ma zs.length mc], .agg #[.int .i64 mo, .int .i64 ba, .slice va l.length vk, .int .i64 op, .int .i64 oh, .int .i64 ot, .bool st, .int .i64 fe, .int .i64 fp, .int .i64 fh, .int .i64 ft, .bool true], .int .i64 0]) (by simp [results, Try.results31, go_sem, *]) rfl ⟨_, _, _, _, _, _, _, _, _, _, _, _, _, _, _, _, l, by rw [HE.out], HB.out, by rw [HT.out]; refine HM.out.keep ?_; (repeat (first | with_reducible exact B1.out | with_reducible refine Below.drew ?_ | with_reducible refine bel_alloc ?_ _ | (with_reducible refine bel_set12 ?_ ?_ _ _ _ _ _ _ _ _ _ _ _ _; (focus omega)) | (with_reducible refine bel_set ?_ ?_ _; (focus (dsimp only; omega))))), HS.out.keep ?_, ?_⟩
    all_goals (repeat (first | with_reducible exact B1.out | with_reducible refine Below.drew ?_ | with_reducible refine bel_alloc ?_ _ | (with_reducible refine bel_set12 ?_ ?_ _ _ _ _ _ _ _ _ _ _ _ _; (focus omega)) | (with_reducible refine bel_set ?_ ?_ _; (focus (dsimp only; omega)))))
  obtain ⟨-, rh, rt⟩ := chkR_ok HF.out
  go_wp2_with fail
  refine (lengthOf_any fp fh ft _ (stepR_in rh) (stepR_in rt)).mono ?_
  rintro e w2 ⟨rfl, rfl⟩
  clear rh rt
  by_cases hl : lenR fh ft = 7
  · have HB : Hid (tlB zs ⟨mo, ba, l, op, oh, ot, st, fe, fp, fh, ft, false⟩ c d p = ⟨mo, ba, l, op, oh, ot, st, fe, fp, fh, ft, true⟩) := by show _ = _; rw [tlB, if_pos HE.out, if_pos (by simp [fullB, hl])]
    have HT : Hid (tlM zs ⟨mo, ba, l, op, oh, ot, st, fe, fp, fh, ft, false⟩ c d p x = zs) := by show _ = _; rw [tlM, if_pos HE.out, if_pos (by simp [fullB, hl])]
    rw [hl]
    go_wp2
    go_region
    go_wp2
    refine bodyPost_ret (v := .tuple #[.agg #[.slice ma zs.length mc], .agg #[.int .i64 mo, .int .i64 ba, .slice va l.length vk, .int .i64 op, .int .i64 oh, .int .i64 ot, .bool st, .int .i64 fe, .int .i64 fp, .int .i64 fh, .int .i64 ft, .bool true], .int .i64 0]) (by simp [results, Try.results31, go_sem, *]) rfl ⟨_, _, _, _, _, _, _, _, _, _, _, _, _, _, _, _, l, by rw [HE.out], HB.out, by rw [HT.out]; refine HM.out.keep ?_; (repeat (first | with_reducible exact B1.out | with_reducible refine Below.drew ?_ | with_reducible refine bel_alloc ?_ _ | (with_reducible refine bel_set12 ?_ ?_ _ _ _ _ _ _ _ _ _ _ _ _; (focus omega)) | (with_reducible refine bel_set ?_ ?_ _; (focus (dsimp only; omega))))), HS.out.keep ?_, ?_⟩
    all_goals (repeat (first | with_reducible exact B1.out | with_reducible refine Below.drew ?_ | with_reducible refine bel_alloc ?_ _ | (with_reducible refine bel_set12 ?_ ?_ _ _ _ _ _ _ _ _ _ _ _ _; (focus omega)) | (with_reducible refine bel_set ?_ ?_ _; (focus (dsimp only; omega)))))
  have HB : Hid (tlB zs ⟨mo, ba, l, op, oh, ot, st, fe, fp, fh, ft, false⟩ c d p = ⟨mo, ba, l, op, oh, ot, st, fe, fp, fh, (ft + 1) % 8, false⟩) := by show _ = _; rw [tlB, if_pos HE.out, if_neg (by simp [fullB, hl])]
  have HT : Hid (tlM zs ⟨mo, ba, l, op, oh, ot, st, fe, fp, fh, ft, false⟩ c d p x = zs.set (fp * 8 + ft).toNat W0) := by show _ = _; rw [tlM, if_pos HE.out, if_neg (by simp [fullB, hl]), HW0.out]
  have HQ : Hid (¬ lenR fh ft = 7) := hl
  have hq : (lenR fh ft == 7) = false := by simpa using hl
  clear hl
  go_wp2_with fail
  refine (pushed_ok (HM.out.keep (bel_alloc B1.out _)) HZ.out HF.out (HW0.out ▸ HW.out) HQ.out).mono ?_
  rintro e w4 ⟨v4, rfl, hS4, hF4, b4⟩
  have zz : w.heap.size + 1 + 1 + 1 + 1 < w1.heap.size := s4
  have hF4 : Fresh (w1.heap.size + 1) v4 := by simpa using hF4
  have F0 : Hid (v4.ownBlock ≠ some w.heap.size) := hF4.ne (by omega)
  have F1 : Hid (v4.ownBlock ≠ some (w.heap.size + 1)) := hF4.ne (by omega)
  have F3 : Hid (v4.ownBlock ≠ some (w.heap.size + 1 + 1 + 1)) := hF4.ne (by omega)
  have F4 : Hid (v4.ownBlock ≠ some (w.heap.size + 1 + 1 + 1 + 1)) := hF4.ne (by omega)
  clear m0 m1 s0 q0 q1 q2 q3 q4 q5 q6 q7 q8 q9 q10 q11 s1 i0 i1 i2 i3 i4 i5 i6 i7 i8 i9 i10 i11 r0 r1 s3 u0 u1 u2 u3 u4 u5 u6 u7 u8 u9 u10 u11 s4 y0 y1 y2 y3 y4 y5 y6 y7 y8 y9 y10 y11
  have X0 := (X0.past _).keep b4
  have X1 := (X1.past _).keep b4
  have X3 := (X3.past _).keep b4
  have X4 := (X4.past _).keep b4
  have B4 : Hid (Below w.heap.size w w4) := bel_trans (bel_alloc B1.out _) b4
  obtain ⟨a4, n4, c4, rfl⟩ : ∃ a n c, v4 = .slice a n c := by obtain ⟨a, cap, e, _⟩ := hS4; exact ⟨_, _, _, e⟩
  have HS4 : Hid (Sl _ _ _) := hS4
  clear b4 hF4 hS4 B1 zz
  generalize ((ft + 1) % 8) = nf at *
  obtain ⟨m0, m1, s0⟩ := X0.one
  obtain ⟨⟨q0, q1, q2, q3, q4, q5, q6, q7, q8, q9, q10, q11⟩, s1⟩ := X1.twelve
  obtain ⟨i0, i1, i2, i3, i4, i5, i6, i7, i8, i9, i10, i11⟩ := X1.marks
  obtain ⟨r0, r1, s3⟩ := X3.one
  obtain ⟨⟨u0, u1, u2, u3, u4, u5, u6, u7, u8, u9, u10, u11⟩, s4⟩ := X4.twelve
  obtain ⟨y0, y1, y2, y3, y4, y5, y6, y7, y8, y9, y10, y11⟩ := X4.marks
  go_wp2
  go_region
  go_wp2
  refine bodyPost_ret (v := .tuple #[.agg #[.slice a4 n4 c4], .agg #[.int .i64 mo, .int .i64 ba, .slice va l.length vk, .int .i64 op, .int .i64 oh, .int .i64 ot, .bool st, .int .i64 fe, .int .i64 fp, .int .i64 fh, .int .i64 nf, .bool false], .int .i64 0]) (by simp [results, Try.results31, go_sem, *]) rfl ⟨_, _, _, _, _, _, _, _, _, _, _, _, _, _, _, _, l, by rw [HE.out], HB.out, ?_, HS.out.keep ?_, ?_⟩
  · rw [HT.out]
    exact Sl.drew (Sl.put12 (n := w.heap.size + 1 + 1 + 1 + 1) (Sl.setOther (p := ⟨w.heap.size + 1 + 1 + 1, 0, none⟩) (Sl.setOther (p := ⟨w.heap.size + 1, 10, none⟩) (Sl.setOther (p := ⟨w.heap.size + 1, 9, none⟩) (Sl.setOther (p := ⟨w.heap.size + 1, 8, none⟩) (Sl.setOther (p := ⟨w.heap.size, 0, none⟩) HS4.out F0.out _) F1.out _) F1.out _) F1.out _) F3.out _) F4.out _ _ _ _ _ _ _ _ _ _ _ _)
  all_goals (repeat (first | with_reducible exact B4.out | with_reducible refine Below.drew ?_ | with_reducible refine bel_alloc ?_ _ | (with_reducible refine bel_set12 ?_ ?_ _ _ _ _ _ _ _ _ _ _ _ _; (focus omega)) | (with_reducible refine bel_set ?_ ?_ _; (focus (dsimp only; omega)))))
end Go.Proofs.Ytemnklppplgcoab
/-
  drawbridgeref's LineAt: which line it is; it turns nothing that was there.
-/
namespace Go.Proofs.Ytemnklppplgcoab
open Go.RowKit

set_option maxHeartbeats 1000000 in
theorem lineAt_any (v : Value) (l : List Ln) (d p : Int) (w : World) (h : Ls w v l) :
    Calls Try.prog 86 #[v, .int .i64 d, .int .i64 p] w fun e w' => e = .returned (.int .i64 (fndC l d p)) ∧ Below w.heap.size w w' := by
  obtain ⟨a, cap, rfl, hl, hm, h⟩ := h
  unfold maxLen at hm
  rcases h with rfl | ⟨b, o, rfl, hb, hc⟩
  · go_enter Try.func86, Try.ntmps86
    go_wp2
    go_loopw [7, 8, 11] (fun _ _ i w' => i = .int .i64 0 ∧ w' = w) (fun _ _ i _ => 0)
    case atStart => exact ⟨rfl, rfl⟩
    case round =>
      obtain ⟨rfl, rfl⟩ := hrel
      go_wp2
      go_ret
      exact ⟨ret_int (fndC_none (fun j hj => absurd hj (Nat.not_lt_zero _))).symm, Below.refl _ _⟩
  · have HC : Hid _ := hc
    clear hc
    go_enter Try.func86, Try.ntmps86
    go_wp2
    go_loopw [7, 8, 11] (fun _ _ i w' => ∃ k : Nat, k ≤ l.length ∧ i = .int .i64 k ∧ (∀ j, j < k → hasB d p (lth l j) = false) ∧ Below w.heap.size w w') (fun _ _ i _ => l.length - (intOf i).toNat)
    case atStart => exact ⟨0, Nat.zero_le _, rfl, fun j hj => absurd hj (Nat.not_lt_zero _), Below.refl _ _⟩
    case round =>
      obtain ⟨k, hk, rfl, hpre, hB⟩ := hrel
      have HP : Hid _ := hpre
      have HB : Hid _ := hB
      by_cases hlt : k < l.length
      · obtain ⟨g0, g1, g2, g3, g4⟩ := (HC.out k hlt).keep hB hb
        have hb' : b < wr.heap.size := Nat.lt_of_lt_of_le hb hB.size
        obtain ⟨y, hy⟩ : ∃ y, y = lth l k := ⟨_, rfl⟩
        have HY : Hid _ := hy
        rw [← hy] at g0 g1 g2 g3 g4
        clear hy hpre hB
        obtain ⟨d1, p1, a1, r1, x1⟩ := y
        simp only at g0 g1 g2 g3 g4
        have hlt1 : (k : Int) < l.length := by omega
        by_cases e1 : d1 = d
        · by_cases e2 : p1 = p
          · subst e1 e2
            have HF : Hid (fndC l d1 p1 = k) := fndC_at hlt (by rw [← HY.out]; simp [hasB]) HP.out
            go_wp2
            go_ret
            exact ⟨ret_int HF.out.symm, bel_alloc HB.out _⟩
          · have q1 : (d1 == d) = true := by simpa using e1
            have q2 : (p1 == p) = false := by simpa using e2
            have HN : Hid (hasB d p (lth l k) = false) := by show _ = _; rw [← HY.out]; simp [hasB, e2]
            clear e1 e2
            go_wp2
            exact ⟨⟨k + 1, by omega, by go_num, upto_next HP.out HN.out, bel_alloc HB.out _⟩, by simp [intOf]; omega⟩
        · have q1 : (d1 == d) = false := by simpa using e1
          have HN : Hid (hasB d p (lth l k) = false) := by show _ = _; rw [← HY.out]; simp [hasB, e1]
          clear e1
          go_wp2
          exact ⟨⟨k + 1, by omega, by go_num, upto_next HP.out HN.out, bel_alloc HB.out _⟩, by simp [intOf]; omega⟩
      · have HF : Hid (fndC l d p = -1) := fndC_none fun j hj => HP.out j (by omega)
        clear hpre hB
        go_wp2
        go_ret
        exact ⟨ret_int HF.out.symm, HB.out⟩
end Go.Proofs.Ytemnklppplgcoab
/-
  drawbridgeref's Filled: lines with one more behind them; nothing that was there turns.
-/
namespace Go.Proofs.Ytemnklppplgcoab
open Go.RowKit

set_option maxHeartbeats 1000000 in
theorem filled_any (v : Value) (l : List Ln) (d p a : Int) (r x : Bool) (w : World) (h : Ls w v l) :
    Calls Try.prog 61 #[v, .agg #[.int .i64 d, .int .i64 p, .int .i64 a, .bool r, .bool x]] w fun e w' => (∃ v', e = .returned (.tuple #[v', .int .i64 (flE l (d, p, a, r, x))]) ∧ Ls w' v' (flC l (d, p, a, r, x))) ∧ Below w.heap.size w w' := by
  have HL : Hid (Ls w v l) := h
  obtain ⟨a0, cap, rfl, hl, hm, h⟩ := h
  unfold maxLen at hm
  go_enter Try.func61, Try.ntmps61
  go_wp2_with fail
  refine (checkCache_any _ l _ (HL.out.keep (bel_alloc (Below.refl _ _) _))).mono ?_
  rintro e w1 ⟨rfl, b1⟩
  have K1 := (Blk.new w #[.int .i64 d, .int .i64 p, .int .i64 a, .bool r, .bool x] 68 (0, 0)).keep b1
  have B1 : Hid (Below w.heap.size w w1) := bel_trans (bel_alloc (Below.refl _ _) _) b1
  clear b1
  by_cases hc : chkC l = 0
  rotate_left
  · have hq : (chkC l != 0) = true := by simpa using hc
    have HE : Hid (flE l (d, p, a, r, x) = chkC l) := by unfold flE; exact if_neg hc
    have HF : Hid (flC l (d, p, a, r, x) = []) := by unfold flC; exact if_neg (by rw [HE.out]; exact hc)
    go_wp2
    refine bodyPost_ret (v := .tuple #[.slice none 0 0, .int .i64 (chkC l)]) (by simp [results, Try.results61, go_sem]) rfl ⟨⟨_, by rw [HE.out], by rw [HF.out]; exact Ls.nothing _⟩, B1.out⟩
  rw [hc]
  obtain ⟨c0, c1, c2, c3, c4⟩ := K1.five
  have s1 := K1.lt
  go_wp2_with fail
  refine (checkCache_any _ [(d, p, a, r, x)] _ (ls_one _ _ _ _ _ _ _)).mono ?_
  rw [chkC_one]
  rintro e w2 ⟨rfl, b2⟩
  have K2 := (K1.past _).keep b2
  have B2 : Hid (Below w.heap.size w w2) := bel_trans (bel_alloc B1.out _) b2
  clear B1 K1 b2 c0 c1 c2 c3 c4 s1
  obtain ⟨c0, c1, c2, c3, c4⟩ := K2.five
  have s1 := K2.lt
  by_cases ho : own (d, p, a, r, x) = 0
  rotate_left
  · have hq : (own (d, p, a, r, x) != 0) = true := by simpa using ho
    have HE : Hid (flE l (d, p, a, r, x) = own (d, p, a, r, x)) := by
      unfold flE
      rw [if_pos hc, chkC_one, if_neg ho]
      rfl
    have HF : Hid (flC l (d, p, a, r, x) = []) := by unfold flC; exact if_neg (by rw [HE.out]; exact ho)
    generalize own (d, p, a, r, x) = z at *
    go_wp2
    refine bodyPost_ret (v := .tuple #[.slice none 0 0, .int .i64 z]) (by simp [results, Try.results61, go_sem]) rfl ⟨⟨_, by rw [HE.out], by rw [HF.out]; exact Ls.nothing _⟩, B2.out⟩
  rw [ho]
  go_wp2_with fail
  refine (lineAt_any _ l d p _ (HL.out.keep B2.out)).mono ?_
  rintro e wx ⟨rfl, b3⟩
  have K3 := K2.keep b3
  have B3 : Hid (Below w.heap.size w wx) := bel_trans B2.out b3
  clear B2 K2 b3 c0 c1 c2 c3 c4 s1
  obtain ⟨c0, c1, c2, c3, c4⟩ := K3.five
  have s1 := K3.lt
  by_cases hf : 0 ≤ fndC l d p
  · have HE : Hid (flE l (d, p, a, r, x) = 5) := by
      unfold flE
      rw [if_pos hc, chkC_one, if_pos ho]
      exact if_pos hf
    have HF : Hid (flC l (d, p, a, r, x) = []) := by unfold flC; exact if_neg (by rw [HE.out]; decide)
    go_wp2
    refine bodyPost_ret (v := .tuple #[.slice none 0 0, .int .i64 5]) (by simp [results, Try.results61, go_sem]) rfl ⟨⟨_, by rw [HE.out], by rw [HF.out]; exact Ls.nothing _⟩, B3.out⟩
  have HE : Hid (flE l (d, p, a, r, x) = 0) := by
    unfold flE
    rw [if_pos hc, chkC_one, if_pos ho]
    exact if_neg hf
  have HF : Hid (flC l (d, p, a, r, x) = oldC l ++ [(d, p, a, r, x)]) := flC_ok HE.out
  have h6 : l.length ≤ 6 := (chkC_zero.1 hc).1
  have HT0 : Hid (Ls wx (.slice a0 l.length cap) l) := HL.out.keep B3.out
  clear HL K3
  obtain ⟨m, hm'⟩ : ∃ m, m = oldC l := ⟨_, rfl⟩
  have HM : Hid (m = oldC l) := hm'
  have hm5 : m.length ≤ 5 := by rw [hm']; exact (oldC_len h6).1
  clear hm'
  by_cases hl6 : l.length = 6
  · rcases h with rfl | ⟨b, o, rfl, hb, _⟩
    · exact absurd hl6 (by simp)
    have HT : Hid (Ls wx (.slice (some ⟨b, o + 5, none⟩) 5 (cap - 1)) m) := by
      have := HT0.out.drop (k := 1) (by omega)
      rw [HM.out, oldC, if_pos hl6]
      rw [hl6] at this
      exact this
    rw [hl6] at hl ⊢
    have z1 : (1 : Int) ≤ cap := by omega
    have z2 : (6 : Int) ≤ cap := by omega
    have z3 : ¬ cap = 1 := by omega
    have z4 : 1 ≤ cap := by omega
    go_wp2
    go_region_held3 (fun w' => w'.cell? ⟨w.heap.size, 0, none⟩ = some (.int .i64 d) ∧ w'.cell? ⟨w.heap.size, 1, none⟩ = some (.int .i64 p) ∧ w'.cell? ⟨w.heap.size, 2, none⟩ = some (.int .i64 a) ∧ w'.cell? ⟨w.heap.size, 3, none⟩ = some (.bool r) ∧ w'.cell? ⟨w.heap.size, 4, none⟩ = some (.bool x) ∧ Below wx.heap.size wx w')
      (with_reducible refine keep5 (by assumption) (by assumption) (by assumption) (by assumption) (by assumption) (by assumption) ?_; (repeat (first | with_reducible assumption | (with_reducible (refine limb5 (?_ : _ ∧ _ ∧ _ ∧ _ ∧ _ ∧ _); assumption)) | with_reducible exact Below.refl _ _ | with_reducible refine Below.drew ?_ | with_reducible refine bel_drewN ?_ _ | with_reducible refine bel_alloc ?_ _ | with_reducible refine Below.trans ?_ (by assumption))))
      (first
        | (refine step_append_L rfl (.tmp 31) (.tmp 32) rfl wx.heap.size (.slice (some ⟨_, 0, none⟩) 0 0) _ [] m rfl rfl ?_ ?_ (by first | (simp; done) | (simp; omega)) (by first | (simp; done) | (simp; omega)) (.inl ⟨_, _, _, rfl⟩) ?_; (focus (first | exact OwnL.litAt (by simp) _ (by simp) | exact (OwnL.litAt (by simp) _ (by simp)).alloc _)); (focus (first | exact HT.out.keep (bel_alloc (bel_alloc (Below.drew (Below.refl _ _)) _) _) | exact HT.out.keep (bel_alloc (Below.drew (Below.refl _ _)) _))); intro g cg w4 hown hgr hbel _)
        | (refine step_append_L rfl (.tmp 33) (.tmp 35) rfl wx.heap.size (.slice (some ⟨_, 0, none⟩) _ _) (.slice (some ⟨_, 0, none⟩) 1 1) m [(d, p, a, r, x)] rfl rfl ?_ ?_ (by simp; omega) (by have hs4 := hgr.size; simp at hs4 ⊢; omega) (.inl ⟨_, _, _, rfl⟩) ?_; (focus (first | exact hown | exact hown.alloc _)); (focus (first | exact ls_oneAt (by simp) _ _ _ _ _ _ | (refine Ls.grown ?_ hgr (by simp [Value.ownBlock]); first | exact ls_oneAt (by simp) _ _ _ _ _ _ | exact Ls.alloc (ls_oneAt (by simp) _ _ _ _ _ _) _))); intro g2 cg2 w5 hown2 _ hbel2 _))
    all_goals
      rename_i hH
      have HB5 : Hid (Below wx.heap.size wx w5) := limb5 hH
      have HO2 : Hid _ := hown2
      clear hH hown2 hown hgr hbel hbel2
      go_wp2
      refine bodyPost_ret (v := .tuple #[.slice (some ⟨g2, 0, none⟩) (m.length + 1) cg2, .int .i64 0]) (by simp [results, Try.results61, go_sem]) rfl ⟨⟨_, by rw [HE.out], ?_⟩, bel_trans B3.out HB5.out⟩
      rw [HF.out, ← HM.out]
      simpa using OwnL.ls HO2.out
  · have hq6 : ((l.length : Int) == 6) = false := by simp; omega
    have HT : Hid (Ls wx (.slice a0 l.length cap) m) := by
      rw [HM.out, oldC, if_neg hl6]
      exact HT0.out
    go_wp2
    go_region_held3 (fun w' => w'.cell? ⟨w.heap.size, 0, none⟩ = some (.int .i64 d) ∧ w'.cell? ⟨w.heap.size, 1, none⟩ = some (.int .i64 p) ∧ w'.cell? ⟨w.heap.size, 2, none⟩ = some (.int .i64 a) ∧ w'.cell? ⟨w.heap.size, 3, none⟩ = some (.bool r) ∧ w'.cell? ⟨w.heap.size, 4, none⟩ = some (.bool x) ∧ Below wx.heap.size wx w')
      (with_reducible refine keep5 (by assumption) (by assumption) (by assumption) (by assumption) (by assumption) (by assumption) ?_; (repeat (first | with_reducible assumption | (with_reducible (refine limb5 (?_ : _ ∧ _ ∧ _ ∧ _ ∧ _ ∧ _); assumption)) | with_reducible exact Below.refl _ _ | with_reducible refine Below.drew ?_ | with_reducible refine bel_drewN ?_ _ | with_reducible refine bel_alloc ?_ _ | with_reducible refine Below.trans ?_ (by assumption))))
      (first
        | (refine step_append_L rfl (.tmp 31) (.tmp 32) rfl wx.heap.size (.slice (some ⟨_, 0, none⟩) 0 0) _ [] m rfl rfl ?_ ?_ (by first | (simp; done) | (simp; omega)) (by first | (simp; done) | (simp; omega)) (.inl ⟨_, _, _, rfl⟩) ?_; (focus (first | exact OwnL.litAt (by simp) _ (by simp) | exact (OwnL.litAt (by simp) _ (by simp)).alloc _)); (focus (first | exact HT.out.keep (bel_alloc (bel_alloc (Below.drew (Below.refl _ _)) _) _) | exact HT.out.keep (bel_alloc (Below.drew (Below.refl _ _)) _))); intro g cg w4 hown hgr hbel _)
        | (refine step_append_L rfl (.tmp 33) (.tmp 35) rfl wx.heap.size (.slice (some ⟨_, 0, none⟩) _ _) (.slice (some ⟨_, 0, none⟩) 1 1) m [(d, p, a, r, x)] rfl rfl ?_ ?_ (by simp; omega) (by have hs4 := hgr.size; simp at hs4 ⊢; omega) (.inl ⟨_, _, _, rfl⟩) ?_; (focus (first | exact hown | exact hown.alloc _)); (focus (first | exact ls_oneAt (by simp) _ _ _ _ _ _ | (refine Ls.grown ?_ hgr (by simp [Value.ownBlock]); first | exact ls_oneAt (by simp) _ _ _ _ _ _ | exact Ls.alloc (ls_oneAt (by simp) _ _ _ _ _ _) _))); intro g2 cg2 w5 hown2 _ hbel2 _))
    all_goals
      rename_i hH
      have HB5 : Hid (Below wx.heap.size wx w5) := limb5 hH
      have HO2 : Hid _ := hown2
      clear hH hown2 hown hgr hbel hbel2
      go_wp2
      refine bodyPost_ret (v := .tuple #[.slice (some ⟨g2, 0, none⟩) (m.length + 1) cg2, .int .i64 0]) (by simp [results, Try.results61, go_sem]) rfl ⟨⟨_, by rw [HE.out], ?_⟩, bel_trans B3.out HB5.out⟩
      rw [HF.out, ← HM.out]
      simpa using OwnL.ls HO2.out
end Go.Proofs.Ytemnklppplgcoab
/-
  drawbridgeref's Dropped: lines without those that an order makes the bridge forget; nothing that was there turns.
-/
namespace Go.Proofs.Ytemnklppplgcoab
open Go.RowKit

set_option maxHeartbeats 1000000 in
theorem dropped_err (v : Value) (l : List Ln) (k d p : Int) (w : World) (h : Ls w v l) (hc : ¬ chkC l = 0) :
    Calls Try.prog 66 #[v, .agg #[.int .i64 k, .int .i64 d, .int .i64 p]] w fun e w' => (∃ v', e = .returned (.tuple #[v', .int .i64 (drE l k)]) ∧ Ls w' v' (drC l k d p)) ∧ Below w.heap.size w w' := by
  have HL : Hid (Ls w v l) := h
  obtain ⟨a0, cap, rfl, hl, hm, h⟩ := h
  have hq : (chkC l != 0) = true := by simpa using hc
  have HE : Hid (drE l k = chkC l) := by unfold drE; exact if_neg hc
  have HF : Hid (drC l k d p = []) := by unfold drC; exact if_neg (by rw [HE.out]; exact hc)
  clear hc
  go_enter Try.func66, Try.ntmps66
  go_wp2_with fail
  refine (checkCache_any _ l _ (HL.out.keep (bel_alloc (Below.refl _ _) _))).mono ?_
  rintro e w1 ⟨rfl, b1⟩
  have B1 : Hid (Below w.heap.size w w1) := bel_trans (bel_alloc (Below.refl _ _) _) b1
  clear b1
  generalize chkC l = z at *
  go_wp2
  refine bodyPost_ret (v := .tuple #[.slice none 0 0, .int .i64 z]) (by simp [results, Try.results66, go_sem]) rfl ⟨⟨_, by rw [HE.out], by rw [HF.out]; exact Ls.nothing _⟩, B1.out⟩

set_option maxHeartbeats 1000000 in
theorem dropped_bad (v : Value) (l : List Ln) (k d p : Int) (w : World) (h : Ls w v l) (hc : chkC l = 0) (hk : ¬ (0 ≤ k ∧ k ≤ 3)) :
    Calls Try.prog 66 #[v, .agg #[.int .i64 k, .int .i64 d, .int .i64 p]] w fun e w' => (∃ v', e = .returned (.tuple #[v', .int .i64 (drE l k)]) ∧ Ls w' v' (drC l k d p)) ∧ Below w.heap.size w w' := by
  have HL : Hid (Ls w v l) := h
  have h6 : l.length ≤ 6 := (chkC_zero.1 hc).1
  obtain ⟨a0, cap, rfl, hl, hm, h⟩ := h
  unfold maxLen at hm
  have HE : Hid (drE l k = 3) := by unfold drE; rw [if_pos hc, if_neg hk]; rfl
  have HF : Hid (drC l k d p = []) := by unfold drC; exact if_neg (by rw [HE.out]; decide)
  have hin : inB k 0 3 = false := by unfold inB; exact decide_eq_false hk
  go_enter Try.func66, Try.ntmps66
  go_wp2_with fail
  refine (checkCache_any _ l _ (HL.out.keep (bel_alloc (Below.refl _ _) _))).mono ?_
  rw [hc]
  rintro e wp0 ⟨rfl, b1⟩
  have K1 := (Blk.new w #[.int .i64 k, .int .i64 d, .int .i64 p] 23 (0, 0)).keep b1
  have HB2 : Hid (Below w.heap.size w wp0) := bel_trans (bel_alloc (Below.refl _ _) _) b1
  obtain ⟨c0, c1, c2⟩ := K1.three
  have s1 := K1.lt
  have HK1 : Hid _ := K1
  clear b1 K1
  go_wp2_with fail
  refine (cIn_any _ _ _ _).mono ?_
  rw [hin]
  rintro e wq ⟨rfl, rfl⟩
  go_wp2
  refine bodyPost_ret (v := .tuple #[.slice none 0 0, .int .i64 3]) (by simp [results, Try.results66, go_sem]) rfl ⟨⟨_, by rw [HE.out], by rw [HF.out]; exact Ls.nothing _⟩, HB2.out⟩

set_option maxHeartbeats 1000000 in
theorem dropped_0 (v : Value) (l : List Ln) (d p : Int) (w : World) (h : Ls w v l) (hc : chkC l = 0) :
    Calls Try.prog 66 #[v, .agg #[.int .i64 (0 : Int), .int .i64 d, .int .i64 p]] w fun e w' => (∃ v', e = .returned (.tuple #[v', .int .i64 (drE l (0 : Int))]) ∧ Ls w' v' (drC l (0 : Int) d p)) ∧ Below w.heap.size w w' := by
  have HL : Hid (Ls w v l) := h
  have h6 : l.length ≤ 6 := (chkC_zero.1 hc).1
  obtain ⟨a0, cap, rfl, hl, hm, h⟩ := h
  unfold maxLen at hm
  have HE : Hid (drE l 0 = 0) := (drC_ok (d := d) (p := p) hc (by omega)).1
  have HF : Hid (drC l 0 d p = kpt l 0 d p l.length) := (drC_ok hc (by omega)).2
  have hin : inB (0 : Int) 0 3 = true := by decide
  go_enter Try.func66, Try.ntmps66
  go_wp2_with fail
  refine (checkCache_any _ l _ (HL.out.keep (bel_alloc (Below.refl _ _) _))).mono ?_
  rw [hc]
  rintro e wp0 ⟨rfl, b1⟩
  have K1 := (Blk.new w #[.int .i64 (0 : Int), .int .i64 d, .int .i64 p] 23 (0, 0)).keep b1
  have HB2 : Hid (Below w.heap.size w wp0) := bel_trans (bel_alloc (Below.refl _ _) _) b1
  obtain ⟨c0, c1, c2⟩ := K1.three
  have s1 := K1.lt
  have HK1 : Hid _ := K1
  clear b1 K1
  go_wp2_with fail
  refine (cIn_any _ _ _ _).mono ?_
  rw [hin]
  rintro e wq ⟨rfl, rfl⟩
  have HLq : Hid (Ls wq (.slice a0 l.length cap) l) := HL.out.keep HB2.out
  clear HL c0 c1 c2
  rcases h with rfl | ⟨b, o, rfl, hb, _⟩
  · go_wp2
    go_loopw [7, 9, 10, 22] (fun v9 _ _ i w' => v9 = .slice none 0 0 ∧ i = .int .i64 0 ∧ w' = wq) (fun _ _ _ i _ => 0)
    case atStart => exact ⟨rfl, rfl, rfl⟩
    case round =>
      obtain ⟨rfl, rfl, rfl⟩ := hrel
      go_wp2
      refine bodyPost_ret (v := .tuple #[.slice none 0 0, .int .i64 0]) (by simp [results, Try.results66, go_sem]) rfl ⟨⟨_, by rw [HE.out], ?_⟩, HB2.out⟩
      rw [HF.out]
      exact Ls.nothing _
  · go_wp2
    go_loopw [7, 9, 10, 22] (fun v9 _ _ i w' => ∃ (j : Nat) (a9 : Option Addr) (c9 : Nat), j ≤ l.length ∧ i = .int .i64 j ∧ v9 = .slice a9 (kpt l 0 d p j).length c9 ∧ OwnL w' wq.heap.size v9 (kpt l 0 d p j) ∧ Below wq.heap.size wq w') (fun _ _ _ i _ => l.length - (intOf i).toNat)
    case atStart => exact ⟨0, _, _, Nat.zero_le _, rfl, by rw [kpt_zero]; rfl, by rw [kpt_zero]; exact OwnL.nothing _ _, Below.refl _ _⟩
    case round =>
      obtain ⟨j, a9, c9, hj, rfl, rfl, hO, hB⟩ := hrel
      have HO : Hid (OwnL wr wq.heap.size (.slice a9 (kpt l 0 d p j).length c9) (kpt l 0 d p j)) := hO
      have HB : Hid (Below wq.heap.size wq wr) := hB
      have hkl : (kpt l 0 d p j).length ≤ 6 := Nat.le_trans (kpt_len _ _ _ _ _) h6
      by_cases hlt : j < l.length
      · have hx := HLq.out.keep hB
        obtain ⟨a', cap', e', _, _, hx⟩ := hx
        rcases hx with hx | ⟨b', o', e2, hb', hc'⟩
        · rw [hx] at hlt; exact absurd hlt (Nat.not_lt_zero _)
        simp only [Value.slice.injEq] at e'
        obtain ⟨rfl, _, rfl⟩ := e'
        simp only [Option.some.injEq, Addr.mk.injEq, and_true] at e2
        obtain ⟨rfl, rfl⟩ := e2
        obtain ⟨g0, g1, g2, g3, g4⟩ := hc' j hlt
        clear hc'
        obtain ⟨y, hy⟩ : ∃ y, y = lth l j := ⟨_, rfl⟩
        have HY : Hid (y = lth l j) := hy
        rw [← hy] at g0 g1 g2 g3 g4
        clear hy
        obtain ⟨c0, c1, c2⟩ := (Blk.keep HK1.out hB).three
        have s2 : w.heap.size < wr.heap.size := Nat.lt_of_lt_of_le s1 hB.size
        have hszq : Hid (wq.heap.size ≤ wr.heap.size) := hB.size
        clear hB hO
        obtain ⟨d1, p1, a1, r1, x1⟩ := y
        simp only at g0 g1 g2 g3 g4
        have hlt1 : (j : Int) < l.length := by omega
        have hg : Hid (goesB 0 d p (d1, p1, a1, r1, x1) = false) := goes0 d p (d1, p1, a1, r1, x1)
        have HK : Hid (kpt l 0 d p (j + 1) = kpt l 0 d p j ++ [(d1, p1, a1, r1, x1)]) := by show _ = _; rw [kpt_kept hlt (by rw [← HY.out]; exact hg.out), ← HY.out]
        generalize hkj : kpt l 0 d p j = kj at *
        go_wp2_with (first | (at_builtin; refine wpList_append_L rfl (.tmp 62) (.tmp 64) rfl wq.heap.size _ _ kj [(d1, p1, a1, r1, x1)] rfl rfl ((HO.out.alloc _).alloc _) (ls_oneAt (by simp) _ _ _ _ _ _) (by simp; omega) (by have := hszq.out; simp; omega) (.inr (by simp)) ?_))
        intro g9 cg9 w9 hown9 _ hbel9 _
        have HN9 : Hid ((kj ++ [(d1, p1, a1, r1, x1)]).length = kj.length + 1) := by show _ = _; simp
        have HO9 : Hid (OwnL w9 wq.heap.size (.slice (some ⟨g9, 0, none⟩) (kj.length + 1) cg9) (kj ++ [(d1, p1, a1, r1, x1)])) := hown9
        have HB9 : Hid (Below wq.heap.size wq w9) := (bel_alloc (bel_alloc HB.out _) _).trans hbel9
        clear hown9 hbel9
        go_wp2
        exact ⟨⟨j + 1, some ⟨g9, 0, none⟩, cg9, by omega, by go_num, by rw [HK.out, HN9.out], by rw [HK.out]; exact HO9.out, HB9.out⟩, by simp [intOf]; omega⟩
      · obtain rfl : j = l.length := by omega
        clear hB hO
        go_wp2
        refine bodyPost_ret (v := .tuple #[.slice a9 (kpt l 0 d p l.length).length c9, .int .i64 0]) (by simp [results, Try.results66, go_sem]) rfl ⟨⟨_, by rw [HE.out], ?_⟩, bel_trans HB2.out HB.out⟩
        rw [HF.out]
        exact OwnL.ls HO.out

set_option maxHeartbeats 1000000 in
theorem dropped_1 (v : Value) (l : List Ln) (d p : Int) (w : World) (h : Ls w v l) (hc : chkC l = 0) :
    Calls Try.prog 66 #[v, .agg #[.int .i64 (1 : Int), .int .i64 d, .int .i64 p]] w fun e w' => (∃ v', e = .returned (.tuple #[v', .int .i64 (drE l (1 : Int))]) ∧ Ls w' v' (drC l (1 : Int) d p)) ∧ Below w.heap.size w w' := by
  have HL : Hid (Ls w v l) := h
  have h6 : l.length ≤ 6 := (chkC_zero.1 hc).1
  obtain ⟨a0, cap, rfl, hl, hm, h⟩ := h
  unfold maxLen at hm
  have HE : Hid (drE l 1 = 0) := (drC_ok (d := d) (p := p) hc (by omega)).1
  have HF : Hid (drC l 1 d p = kpt l 1 d p l.length) := (drC_ok hc (by omega)).2
  have hin : inB (1 : Int) 0 3 = true := by decide
  go_enter Try.func66, Try.ntmps66
  go_wp2_with fail
  refine (checkCache_any _ l _ (HL.out.keep (bel_alloc (Below.refl _ _) _))).mono ?_
  rw [hc]
  rintro e wp0 ⟨rfl, b1⟩
  have K1 := (Blk.new w #[.int .i64 (1 : Int), .int .i64 d, .int .i64 p] 23 (0, 0)).keep b1
  have HB2 : Hid (Below w.heap.size w wp0) := bel_trans (bel_alloc (Below.refl _ _) _) b1
  obtain ⟨c0, c1, c2⟩ := K1.three
  have s1 := K1.lt
  have HK1 : Hid _ := K1
  clear b1 K1
  go_wp2_with fail
  refine (cIn_any _ _ _ _).mono ?_
  rw [hin]
  rintro e wq ⟨rfl, rfl⟩
  have HLq : Hid (Ls wq (.slice a0 l.length cap) l) := HL.out.keep HB2.out
  clear HL c0 c1 c2
  rcases h with rfl | ⟨b, o, rfl, hb, _⟩
  · go_wp2
    go_loopw [7, 9, 10, 22] (fun v9 _ _ i w' => v9 = .slice none 0 0 ∧ i = .int .i64 0 ∧ w' = wq) (fun _ _ _ i _ => 0)
    case atStart => exact ⟨rfl, rfl, rfl⟩
    case round =>
      obtain ⟨rfl, rfl, rfl⟩ := hrel
      go_wp2
      refine bodyPost_ret (v := .tuple #[.slice none 0 0, .int .i64 0]) (by simp [results, Try.results66, go_sem]) rfl ⟨⟨_, by rw [HE.out], ?_⟩, HB2.out⟩
      rw [HF.out]
      exact Ls.nothing _
  · go_wp2
    go_loopw [7, 9, 10, 22] (fun v9 _ _ i w' => ∃ (j : Nat) (a9 : Option Addr) (c9 : Nat), j ≤ l.length ∧ i = .int .i64 j ∧ v9 = .slice a9 (kpt l 1 d p j).length c9 ∧ OwnL w' wq.heap.size v9 (kpt l 1 d p j) ∧ Below wq.heap.size wq w') (fun _ _ _ i _ => l.length - (intOf i).toNat)
    case atStart => exact ⟨0, _, _, Nat.zero_le _, rfl, by rw [kpt_zero]; rfl, by rw [kpt_zero]; exact OwnL.nothing _ _, Below.refl _ _⟩
    case round =>
      obtain ⟨j, a9, c9, hj, rfl, rfl, hO, hB⟩ := hrel
      have HO : Hid (OwnL wr wq.heap.size (.slice a9 (kpt l 1 d p j).length c9) (kpt l 1 d p j)) := hO
      have HB : Hid (Below wq.heap.size wq wr) := hB
      have hkl : (kpt l 1 d p j).length ≤ 6 := Nat.le_trans (kpt_len _ _ _ _ _) h6
      by_cases hlt : j < l.length
      · have hx := HLq.out.keep hB
        obtain ⟨a', cap', e', _, _, hx⟩ := hx
        rcases hx with hx | ⟨b', o', e2, hb', hc'⟩
        · rw [hx] at hlt; exact absurd hlt (Nat.not_lt_zero _)
        simp only [Value.slice.injEq] at e'
        obtain ⟨rfl, _, rfl⟩ := e'
        simp only [Option.some.injEq, Addr.mk.injEq, and_true] at e2
        obtain ⟨rfl, rfl⟩ := e2
        obtain ⟨g0, g1, g2, g3, g4⟩ := hc' j hlt
        clear hc'
        obtain ⟨y, hy⟩ : ∃ y, y = lth l j := ⟨_, rfl⟩
        have HY : Hid (y = lth l j) := hy
        rw [← hy] at g0 g1 g2 g3 g4
        clear hy
        obtain ⟨c0, c1, c2⟩ := (Blk.keep HK1.out hB).three
        have s2 : w.heap.size < wr.heap.size := Nat.lt_of_lt_of_le s1 hB.size
        have hszq : Hid (wq.heap.size ≤ wr.heap.size) := hB.size
        clear hB hO
        obtain ⟨d1, p1, a1, r1, x1⟩ := y
        simp only at g0 g1 g2 g3 g4
        have hlt1 : (j : Int) < l.length := by omega
        have hg : Hid (goesB 1 d p (d1, p1, a1, r1, x1) = true) := goes1 d p (d1, p1, a1, r1, x1)
        have HK : Hid (kpt l 1 d p (j + 1) = kpt l 1 d p j) := kpt_gone hlt (by rw [← HY.out]; exact hg.out)
        go_wp2
        exact ⟨⟨j + 1, _, _, by omega, by go_num, by rw [HK.out], by rw [HK.out]; exact OwnL.alloc HO.out _, bel_alloc HB.out _⟩, by simp [intOf]; omega⟩
      · obtain rfl : j = l.length := by omega
        clear hB hO
        go_wp2
        refine bodyPost_ret (v := .tuple #[.slice a9 (kpt l 1 d p l.length).length c9, .int .i64 0]) (by simp [results, Try.results66, go_sem]) rfl ⟨⟨_, by rw [HE.out], ?_⟩, bel_trans HB2.out HB.out⟩
        rw [HF.out]
        exact OwnL.ls HO.out

set_option maxHeartbeats 1000000 in
theorem dropped_2 (v : Value) (l : List Ln) (d p : Int) (w : World) (h : Ls w v l) (hc : chkC l = 0) :
    Calls Try.prog 66 #[v, .agg #[.int .i64 (2 : Int), .int .i64 d, .int .i64 p]] w fun e w' => (∃ v', e = .returned (.tuple #[v', .int .i64 (drE l (2 : Int))]) ∧ Ls w' v' (drC l (2 : Int) d p)) ∧ Below w.heap.size w w' := by
  have HL : Hid (Ls w v l) := h
  have h6 : l.length ≤ 6 := (chkC_zero.1 hc).1
  obtain ⟨a0, cap, rfl, hl, hm, h⟩ := h
  unfold maxLen at hm
  have HE : Hid (drE l 2 = 0) := (drC_ok (d := d) (p := p) hc (by omega)).1
  have HF : Hid (drC l 2 d p = kpt l 2 d p l.length) := (drC_ok hc (by omega)).2
  have hin : inB (2 : Int) 0 3 = true := by decide
  go_enter Try.func66, Try.ntmps66
  go_wp2_with fail
  refine (checkCache_any _ l _ (HL.out.keep (bel_alloc (Below.refl _ _) _))).mono ?_
  rw [hc]
  rintro e wp0 ⟨rfl, b1⟩
  have K1 := (Blk.new w #[.int .i64 (2 : Int), .int .i64 d, .int .i64 p] 23 (0, 0)).keep b1
  have HB2 : Hid (Below w.heap.size w wp0) := bel_trans (bel_alloc (Below.refl _ _) _) b1
  obtain ⟨c0, c1, c2⟩ := K1.three
  have s1 := K1.lt
  have HK1 : Hid _ := K1
  clear b1 K1
  go_wp2_with fail
  refine (cIn_any _ _ _ _).mono ?_
  rw [hin]
  rintro e wq ⟨rfl, rfl⟩
  have HLq : Hid (Ls wq (.slice a0 l.length cap) l) := HL.out.keep HB2.out
  clear HL c0 c1 c2
  rcases h with rfl | ⟨b, o, rfl, hb, _⟩
  · go_wp2
    go_loopw [7, 9, 10, 22] (fun v9 _ _ i w' => v9 = .slice none 0 0 ∧ i = .int .i64 0 ∧ w' = wq) (fun _ _ _ i _ => 0)
    case atStart => exact ⟨rfl, rfl, rfl⟩
    case round =>
      obtain ⟨rfl, rfl, rfl⟩ := hrel
      go_wp2
      refine bodyPost_ret (v := .tuple #[.slice none 0 0, .int .i64 0]) (by simp [results, Try.results66, go_sem]) rfl ⟨⟨_, by rw [HE.out], ?_⟩, HB2.out⟩
      rw [HF.out]
      exact Ls.nothing _
  · go_wp2
    go_loopw [7, 9, 10, 22] (fun v9 _ _ i w' => ∃ (j : Nat) (a9 : Option Addr) (c9 : Nat), j ≤ l.length ∧ i = .int .i64 j ∧ v9 = .slice a9 (kpt l 2 d p j).length c9 ∧ OwnL w' wq.heap.size v9 (kpt l 2 d p j) ∧ Below wq.heap.size wq w') (fun _ _ _ i _ => l.length - (intOf i).toNat)
    case atStart => exact ⟨0, _, _, Nat.zero_le _, rfl, by rw [kpt_zero]; rfl, by rw [kpt_zero]; exact OwnL.nothing _ _, Below.refl _ _⟩
    case round =>
      obtain ⟨j, a9, c9, hj, rfl, rfl, hO, hB⟩ := hrel
      have HO : Hid (OwnL wr wq.heap.size (.slice a9 (kpt l 2 d p j).length c9) (kpt l 2 d p j)) := hO
      have HB : Hid (Below wq.heap.size wq wr) := hB
      have hkl : (kpt l 2 d p j).length ≤ 6 := Nat.le_trans (kpt_len _ _ _ _ _) h6
      by_cases hlt : j < l.length
      · have hx := HLq.out.keep hB
        obtain ⟨a', cap', e', _, _, hx⟩ := hx
        rcases hx with hx | ⟨b', o', e2, hb', hc'⟩
        · rw [hx] at hlt; exact absurd hlt (Nat.not_lt_zero _)
        simp only [Value.slice.injEq] at e'
        obtain ⟨rfl, _, rfl⟩ := e'
        simp only [Option.some.injEq, Addr.mk.injEq, and_true] at e2
        obtain ⟨rfl, rfl⟩ := e2
        obtain ⟨g0, g1, g2, g3, g4⟩ := hc' j hlt
        clear hc'
        obtain ⟨y, hy⟩ : ∃ y, y = lth l j := ⟨_, rfl⟩
        have HY : Hid (y = lth l j) := hy
        rw [← hy] at g0 g1 g2 g3 g4
        clear hy
        obtain ⟨c0, c1, c2⟩ := (Blk.keep HK1.out hB).three
        have s2 : w.heap.size < wr.heap.size := Nat.lt_of_lt_of_le s1 hB.size
        have hszq : Hid (wq.heap.size ≤ wr.heap.size) := hB.size
        clear hB hO
        obtain ⟨d1, p1, a1, r1, x1⟩ := y
        simp only at g0 g1 g2 g3 g4
        have hlt1 : (j : Int) < l.length := by omega
        by_cases e1 : d1 = d
        · have hg : Hid (goesB 2 d p (d1, p1, a1, r1, x1) = true) := by show _ = _; rw [goes2]; simp [e1]
          have q1 : (d1 == d) = true := by simpa using e1
          clear e1
          have HK : Hid (kpt l 2 d p (j + 1) = kpt l 2 d p j) := kpt_gone hlt (by rw [← HY.out]; exact hg.out)
          go_wp2
          exact ⟨⟨j + 1, _, _, by omega, by go_num, by rw [HK.out], by rw [HK.out]; exact OwnL.alloc HO.out _, bel_alloc HB.out _⟩, by simp [intOf]; omega⟩
        · have hg : Hid (goesB 2 d p (d1, p1, a1, r1, x1) = false) := by show _ = _; rw [goes2]; simp [e1]
          have q1 : (d1 == d) = false := by simpa using e1
          clear e1
          have HK : Hid (kpt l 2 d p (j + 1) = kpt l 2 d p j ++ [(d1, p1, a1, r1, x1)]) := by show _ = _; rw [kpt_kept hlt (by rw [← HY.out]; exact hg.out), ← HY.out]
          generalize hkj : kpt l 2 d p j = kj at *
          go_wp2_with (first | (at_builtin; refine wpList_append_L rfl (.tmp 62) (.tmp 64) rfl wq.heap.size _ _ kj [(d1, p1, a1, r1, x1)] rfl rfl ((HO.out.alloc _).alloc _) (ls_oneAt (by simp) _ _ _ _ _ _) (by simp; omega) (by have := hszq.out; simp; omega) (.inr (by simp)) ?_))
          intro g9 cg9 w9 hown9 _ hbel9 _
          have HN9 : Hid ((kj ++ [(d1, p1, a1, r1, x1)]).length = kj.length + 1) := by show _ = _; simp
          have HO9 : Hid (OwnL w9 wq.heap.size (.slice (some ⟨g9, 0, none⟩) (kj.length + 1) cg9) (kj ++ [(d1, p1, a1, r1, x1)])) := hown9
          have HB9 : Hid (Below wq.heap.size wq w9) := (bel_alloc (bel_alloc HB.out _) _).trans hbel9
          clear hown9 hbel9
          go_wp2
          exact ⟨⟨j + 1, some ⟨g9, 0, none⟩, cg9, by omega, by go_num, by rw [HK.out, HN9.out], by rw [HK.out]; exact HO9.out, HB9.out⟩, by simp [intOf]; omega⟩
      · obtain rfl : j = l.length := by omega
        clear hB hO
        go_wp2
        refine bodyPost_ret (v := .tuple #[.slice a9 (kpt l 2 d p l.length).length c9, .int .i64 0]) (by simp [results, Try.results66, go_sem]) rfl ⟨⟨_, by rw [HE.out], ?_⟩, bel_trans HB2.out HB.out⟩
        rw [HF.out]
        exact OwnL.ls HO.out

set_option maxHeartbeats 1000000 in
theorem dropped_3 (v : Value) (l : List Ln) (d p : Int) (w : World) (h : Ls w v l) (hc : chkC l = 0) :
    Calls Try.prog 66 #[v, .agg #[.int .i64 (3 : Int), .int .i64 d, .int .i64 p]] w fun e w' => (∃ v', e = .returned (.tuple #[v', .int .i64 (drE l (3 : Int))]) ∧ Ls w' v' (drC l (3 : Int) d p)) ∧ Below w.heap.size w w' := by
  have HL : Hid (Ls w v l) := h
  have h6 : l.length ≤ 6 := (chkC_zero.1 hc).1
  obtain ⟨a0, cap, rfl, hl, hm, h⟩ := h
  unfold maxLen at hm
  have HE : Hid (drE l 3 = 0) := (drC_ok (d := d) (p := p) hc (by omega)).1
  have HF : Hid (drC l 3 d p = kpt l 3 d p l.length) := (drC_ok hc (by omega)).2
  have hin : inB (3 : Int) 0 3 = true := by decide
  go_enter Try.func66, Try.ntmps66
  go_wp2_with fail
  refine (checkCache_any _ l _ (HL.out.keep (bel_alloc (Below.refl _ _) _))).mono ?_
  rw [hc]
  rintro e wp0 ⟨rfl, b1⟩
  have K1 := (Blk.new w #[.int .i64 (3 : Int), .int .i64 d, .int .i64 p] 23 (0, 0)).keep b1
  have HB2 : Hid (Below w.heap.size w wp0) := bel_trans (bel_alloc (Below.refl _ _) _) b1
  obtain ⟨c0, c1, c2⟩ := K1.three
  have s1 := K1.lt
  have HK1 : Hid _ := K1
  clear b1 K1
  go_wp2_with fail
  refine (cIn_any _ _ _ _).mono ?_
  rw [hin]
  rintro e wq ⟨rfl, rfl⟩
  have HLq : Hid (Ls wq (.slice a0 l.length cap) l) := HL.out.keep HB2.out
  clear HL c0 c1 c2
  rcases h with rfl | ⟨b, o, rfl, hb, _⟩
  · go_wp2
    go_loopw [7, 9, 10, 22] (fun v9 _ _ i w' => v9 = .slice none 0 0 ∧ i = .int .i64 0 ∧ w' = wq) (fun _ _ _ i _ => 0)
    case atStart => exact ⟨rfl, rfl, rfl⟩
    case round =>
      obtain ⟨rfl, rfl, rfl⟩ := hrel
      go_wp2
      refine bodyPost_ret (v := .tuple #[.slice none 0 0, .int .i64 0]) (by simp [results, Try.results66, go_sem]) rfl ⟨⟨_, by rw [HE.out], ?_⟩, HB2.out⟩
      rw [HF.out]
      exact Ls.nothing _
  · go_wp2
    go_loopw [7, 9, 10, 22] (fun v9 _ _ i w' => ∃ (j : Nat) (a9 : Option Addr) (c9 : Nat), j ≤ l.length ∧ i = .int .i64 j ∧ v9 = .slice a9 (kpt l 3 d p j).length c9 ∧ OwnL w' wq.heap.size v9 (kpt l 3 d p j) ∧ Below wq.heap.size wq w') (fun _ _ _ i _ => l.length - (intOf i).toNat)
    case atStart => exact ⟨0, _, _, Nat.zero_le _, rfl, by rw [kpt_zero]; rfl, by rw [kpt_zero]; exact OwnL.nothing _ _, Below.refl _ _⟩
    case round =>
      obtain ⟨j, a9, c9, hj, rfl, rfl, hO, hB⟩ := hrel
      have HO : Hid (OwnL wr wq.heap.size (.slice a9 (kpt l 3 d p j).length c9) (kpt l 3 d p j)) := hO
      have HB : Hid (Below wq.heap.size wq wr) := hB
      have hkl : (kpt l 3 d p j).length ≤ 6 := Nat.le_trans (kpt_len _ _ _ _ _) h6
      by_cases hlt : j < l.length
      · have hx := HLq.out.keep hB
        obtain ⟨a', cap', e', _, _, hx⟩ := hx
        rcases hx with hx | ⟨b', o', e2, hb', hc'⟩
        · rw [hx] at hlt; exact absurd hlt (Nat.not_lt_zero _)
        simp only [Value.slice.injEq] at e'
        obtain ⟨rfl, _, rfl⟩ := e'
        simp only [Option.some.injEq, Addr.mk.injEq, and_true] at e2
        obtain ⟨rfl, rfl⟩ := e2
        obtain ⟨g0, g1, g2, g3, g4⟩ := hc' j hlt
        clear hc'
        obtain ⟨y, hy⟩ : ∃ y, y = lth l j := ⟨_, rfl⟩
        have HY : Hid (y = lth l j) := hy
        rw [← hy] at g0 g1 g2 g3 g4
        clear hy
        obtain ⟨c0, c1, c2⟩ := (Blk.keep HK1.out hB).three
        have s2 : w.heap.size < wr.heap.size := Nat.lt_of_lt_of_le s1 hB.size
        have hszq : Hid (wq.heap.size ≤ wr.heap.size) := hB.size
        clear hB hO
        obtain ⟨d1, p1, a1, r1, x1⟩ := y
        simp only at g0 g1 g2 g3 g4
        have hlt1 : (j : Int) < l.length := by omega
        by_cases e1 : d1 = d
        · by_cases e2 : p1 = p
          · have hg : Hid (goesB 3 d p (d1, p1, a1, r1, x1) = true) := by show _ = _; rw [goes3]; simp [hasB, e1, e2]
            have q1 : (d1 == d) = true := by simpa using e1
            have q2 : (p1 == p) = true := by simpa using e2
            clear e1 e2
            have HK : Hid (kpt l 3 d p (j + 1) = kpt l 3 d p j) := kpt_gone hlt (by rw [← HY.out]; exact hg.out)
            go_wp2
            exact ⟨⟨j + 1, _, _, by omega, by go_num, by rw [HK.out], by rw [HK.out]; exact OwnL.alloc HO.out _, bel_alloc HB.out _⟩, by simp [intOf]; omega⟩
          · have hg : Hid (goesB 3 d p (d1, p1, a1, r1, x1) = false) := by show _ = _; rw [goes3]; simp [hasB, e2]
            have q1 : (d1 == d) = true := by simpa using e1
            have q2 : (p1 == p) = false := by simpa using e2
            clear e1 e2
            have HK : Hid (kpt l 3 d p (j + 1) = kpt l 3 d p j ++ [(d1, p1, a1, r1, x1)]) := by show _ = _; rw [kpt_kept hlt (by rw [← HY.out]; exact hg.out), ← HY.out]
            generalize hkj : kpt l 3 d p j = kj at *
            go_wp2_with (first | (at_builtin; refine wpList_append_L rfl (.tmp 62) (.tmp 64) rfl wq.heap.size _ _ kj [(d1, p1, a1, r1, x1)] rfl rfl ((HO.out.alloc _).alloc _) (ls_oneAt (by simp) _ _ _ _ _ _) (by simp; omega) (by have := hszq.out; simp; omega) (.inr (by simp)) ?_))
            intro g9 cg9 w9 hown9 _ hbel9 _
            have HN9 : Hid ((kj ++ [(d1, p1, a1, r1, x1)]).length = kj.length + 1) := by show _ = _; simp
            have HO9 : Hid (OwnL w9 wq.heap.size (.slice (some ⟨g9, 0, none⟩) (kj.length + 1) cg9) (kj ++ [(d1, p1, a1, r1, x1)])) := hown9
            have HB9 : Hid (Below wq.heap.size wq w9) := (bel_alloc (bel_alloc HB.out _) _).trans hbel9
            clear hown9 hbel9
            go_wp2
            exact ⟨⟨j + 1, some ⟨g9, 0, none⟩, cg9, by omega, by go_num, by rw [HK.out, HN9.out], by rw [HK.out]; exact HO9.out, HB9.out⟩, by simp [intOf]; omega⟩
        · have hg : Hid (goesB 3 d p (d1, p1, a1, r1, x1) = false) := by show _ = _; rw [goes3]; simp [hasB, e1]
          have q1 : (d1 == d) = false := by simpa using e1
          clear e1
          have HK : Hid (kpt l 3 d p (j + 1) = kpt l 3 d p j ++ [(d1, p1, a1, r1, x1)]) := by show _ = _; rw [kpt_kept hlt (by rw [← HY.out]; exact hg.out), ← HY.out]
          generalize hkj : kpt l 3 d p j = kj at *
          go_wp2_with (first | (at_builtin; refine wpList_append_L rfl (.tmp 62) (.tmp 64) rfl wq.heap.size _ _ kj [(d1, p1, a1, r1, x1)] rfl rfl ((HO.out.alloc _).alloc _) (ls_oneAt (by simp) _ _ _ _ _ _) (by simp; omega) (by have := hszq.out; simp; omega) (.inr (by simp)) ?_))
          intro g9 cg9 w9 hown9 _ hbel9 _
          have HN9 : Hid ((kj ++ [(d1, p1, a1, r1, x1)]).length = kj.length + 1) := by show _ = _; simp
          have HO9 : Hid (OwnL w9 wq.heap.size (.slice (some ⟨g9, 0, none⟩) (kj.length + 1) cg9) (kj ++ [(d1, p1, a1, r1, x1)])) := hown9
          have HB9 : Hid (Below wq.heap.size wq w9) := (bel_alloc (bel_alloc HB.out _) _).trans hbel9
          clear hown9 hbel9
          go_wp2
          exact ⟨⟨j + 1, some ⟨g9, 0, none⟩, cg9, by omega, by go_num, by rw [HK.out, HN9.out], by rw [HK.out]; exact HO9.out, HB9.out⟩, by simp [intOf]; omega⟩
      · obtain rfl : j = l.length := by omega
        clear hB hO
        go_wp2
        refine bodyPost_ret (v := .tuple #[.slice a9 (kpt l 3 d p l.length).length c9, .int .i64 0]) (by simp [results, Try.results66, go_sem]) rfl ⟨⟨_, by rw [HE.out], ?_⟩, bel_trans HB2.out HB.out⟩
        rw [HF.out]
        exact OwnL.ls HO.out

/-- What Dropped answers, whatever it is handed. -/
theorem dropped_any (v : Value) (l : List Ln) (k d p : Int) (w : World) (h : Ls w v l) :
    Calls Try.prog 66 #[v, .agg #[.int .i64 k, .int .i64 d, .int .i64 p]] w fun e w' => (∃ v', e = .returned (.tuple #[v', .int .i64 (drE l k)]) ∧ Ls w' v' (drC l k d p)) ∧ Below w.heap.size w w' := by
  by_cases hc : chkC l = 0
  · by_cases hk : 0 ≤ k ∧ k ≤ 3
    · have : k = 0 ∨ k = 1 ∨ k = 2 ∨ k = 3 := by omega
      rcases this with rfl | rfl | rfl | rfl
      · exact dropped_0 v l d p w h hc
      · exact dropped_1 v l d p w h hc
      · exact dropped_2 v l d p w h hc
      · exact dropped_3 v l d p w h hc
    · exact dropped_bad v l k d p w h hc hk
  · exact dropped_err v l k d p w h hc
end Go.Proofs.Ytemnklppplgcoab
/-
  drawbridgelaw.CacheSays returns true at whatever lines, line, order, device and page; nothing that was there turns.
-/
namespace Go.Proofs.Ytemnklppplgcoab
open Go.RowKit

theorem filled_at {v : Value} {l : List Ln} {d p a : Int} {r x : Bool} {w : World} (h : Ls w v l) :
    Calls Try.prog 61 #[v, .agg #[.int .i64 d, .int .i64 p, .int .i64 a, .bool r, .bool x]] w fun e w' => ∃ b cap, e = .returned (.tuple #[.slice b (flC l (d, p, a, r, x)).length cap, .int .i64 (flE l (d, p, a, r, x))]) ∧ Ls w' (.slice b (flC l (d, p, a, r, x)).length cap) (flC l (d, p, a, r, x)) ∧ Below w.heap.size w w' := by
  refine (filled_any v l d p a r x w h).mono ?_
  rintro e w' ⟨⟨v', rfl, hs⟩, hb⟩
  obtain ⟨b, cap, rfl, hs'⟩ := hs.shape
  exact ⟨b, cap, rfl, hs', hb⟩
theorem dropped_at {v : Value} {l : List Ln} {k d p : Int} {w : World} (h : Ls w v l) :
    Calls Try.prog 66 #[v, .agg #[.int .i64 k, .int .i64 d, .int .i64 p]] w fun e w' => ∃ b cap, e = .returned (.tuple #[.slice b (drC l k d p).length cap, .int .i64 (drE l k)]) ∧ Ls w' (.slice b (drC l k d p).length cap) (drC l k d p) ∧ Below w.heap.size w w' := by
  refine (dropped_any v l k d p w h).mono ?_
  rintro e w' ⟨⟨v', rfl, hs⟩, hb⟩
  obtain ⟨b, cap, rfl, hs'⟩ := hs.shape
  exact ⟨b, cap, rfl, hs', hb⟩

end Go.Proofs.Ytemnklppplgcoab
