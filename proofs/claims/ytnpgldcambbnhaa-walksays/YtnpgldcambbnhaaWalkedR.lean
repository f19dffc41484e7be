/-
  drawbridgeref's Walked: of right memory it answers what Walk answers; it turns nothing that was there.
-/
import Derived.Test.YtnpgldcambbnhaaWith
import Derived.Test.YtnpgldcambbnhaaEntryOf
namespace Go.Proofs.Ytnpgldcambbnhaa
open Go.RowKit

theorem pg_between (z : Int) : betweenB 0 63 z = pageB z := by
  rw [betweenB, pageB, Bool.eq_iff_iff]; simp; omega
theorem flt_bad {z : Int} (h : okE z = false) : ¬ fltR z = 0 ∧ fltR z = 4 := by simp [fltR, h]
theorem flt_no {z : Int} (h : okE z = true) (k : vE z = false) : ¬ fltR z = 0 ∧ fltR z = 3 := by simp [fltR, h, k]
theorem flt_ok {z : Int} (h : okE z = true) (k : vE z = true) : fltR z = 0 := by simp [fltR, h, k]
theorem not_true {b : Bool} (h : b = false) : ¬ b = true := by rw [h]; decide

/-- The three ends of a leaf: it isn't Read; it isn't Write; it is told. -/
theorem wkd_right {zs : List Int} {root page : Int} {wr b r x l : Bool} {p : Int} (hk : chk zs = 0) (hd : pageB root = true ∧ pageB page = true) (hf : fnd zs root page = ((b, r, x, l, p), 0)) :
    wkd zs root page wr = if (r && (x || !wr)) = true then ((b, r, x, l, p), 0, 0) else ((false, false, false, false, 0), 5, 0) := by
  rw [wkd, if_pos hk, if_pos hd, wkF, hf, if_pos rfl]
  split <;> rfl
theorem wkd_fault {zs : List Int} {root page : Int} {wr : Bool} {f : Int} (hk : chk zs = 0) (hd : pageB root = true ∧ pageB page = true) (hf : fnd zs root page = (E0, f)) (h0 : ¬ f = 0) :
    wkd zs root page wr = ((false, false, false, false, 0), f, 0) := by
  rw [wkd, if_pos hk, if_pos hd, wkF, hf, if_neg h0]; rfl

set_option maxHeartbeats 4000000 in
theorem walkedR_any (v : Value) (zs : List Int) (root page : Int) (wr : Bool) (w : World) (h : Sl w v zs) (hk : chk zs = 0) :
    Calls Try.prog 32 #[.agg #[v], .int .i64 root, .int .i64 page, .bool wr] w fun e w' => (∃ b r x l p f c, e = .returned (.tuple #[.agg #[.bool b, .bool r, .bool x, .bool l, .int .i64 p], .int .i64 f, .int .i64 c]) ∧ wkd zs root page wr = ((b, r, x, l, p), f, c)) ∧ Below w.heap.size w w' := by
  have HK : Hid (chk zs = 0) := hk
  have hn := (chk_ok hk).1
  obtain ⟨b, o, cap, rfl, hb, hc⟩ := h.open512 hn
  have HC : Hid (∀ i, i < 512 → w.cell? ⟨b, o + i, none⟩ = some (.int .i64 (nth zs i))) := hc
  clear hn hk hc h
  cases hr : pageB root
  · have hd : ¬ (pageB root = true ∧ pageB page = true) := by rw [hr]; simp
    have HD : Hid _ := hd
    clear hd
    go_enter Try.func32, Try.ntmps32
    go_wp2_with fail
    refine (in_any _ _ _ _).mono ?_
    rintro e w2 ⟨rfl, rfl⟩
    rw [pg_between, hr]
    go_wp2
    refine bodyPost_ret (v := .tuple #[.agg #[.bool false, .bool false, .bool false, .bool false, .int .i64 0], .int .i64 0, .int .i64 4]) (by simp [results, Try.results32, go_sem, *]) rfl ⟨⟨_, _, _, _, _, _, _, rfl, by rw [wkd, if_pos HK.out, if_neg HD.out]; rfl⟩, ?_⟩
    exact bel_alloc (bel_alloc (bel_alloc (Below.refl _ _) _) _) _
  cases hp : pageB page
  · have hd : ¬ (pageB root = true ∧ pageB page = true) := by rw [hp]; simp
    have HD : Hid _ := hd
    clear hd
    go_enter Try.func32, Try.ntmps32
    go_wp2_with fail
    refine (in_any _ _ _ _).mono ?_
    rintro e w2 ⟨rfl, rfl⟩
    rw [pg_between, hr]
    go_wp2_with fail
    refine (in_any _ _ _ _).mono ?_
    rintro e w2 ⟨rfl, rfl⟩
    rw [pg_between, hp]
    go_wp2
    refine bodyPost_ret (v := .tuple #[.agg #[.bool false, .bool false, .bool false, .bool false, .int .i64 0], .int .i64 0, .int .i64 4]) (by simp [results, Try.results32, go_sem, *]) rfl ⟨⟨_, _, _, _, _, _, _, rfl, by rw [wkd, if_pos HK.out, if_neg HD.out]; rfl⟩, ?_⟩
    exact bel_alloc (bel_alloc (bel_alloc (Below.refl _ _) _) _) _
  have hd : pageB root = true ∧ pageB page = true := ⟨hr, hp⟩
  have HD : Hid _ := hd
  clear hd
  obtain ⟨r0, r1⟩ : 0 ≤ root ∧ root < 64 := by simpa [pageB] using hr
  obtain ⟨g0, g1⟩ : 0 ≤ page ∧ page < 64 := by simpa [pageB] using hp
  have g : w.cell? ⟨b, o + (8 * root + page / 8).toNat, none⟩ = some (.int .i64 (one zs root page)) := HC.out _ (by omega)
  have y1 : b < w.heap.size + 1 := by omega
  have y2 : b < w.heap.size + 1 + 1 := by omega
  go_enter Try.func32, Try.ntmps32
  go_wp2_with fail
  refine (in_any _ _ _ _).mono ?_
  rintro e w2 ⟨rfl, rfl⟩
  rw [pg_between, hr]
  go_wp2_with fail
  refine (in_any _ _ _ _).mono ?_
  rintro e w2 ⟨rfl, rfl⟩
  rw [pg_between, hp]
  clear hr hp
  go_wp2_with fail
  refine (entryOf_any _ _).mono ?_
  rintro e w1 ⟨rfl, b1⟩
  have B1 : Hid _ := b1
  have BB : Hid (Below w.heap.size w w1) := bel_trans (bel_alloc (bel_alloc (bel_alloc (Below.refl _ _) _) _) _) b1
  obtain ⟨c1, f1⟩ := bcell b1
  have s1 : w.heap.size + 1 + 1 < w1.heap.size := by have := b1.size; simp at this; omega
  have s0 : w.heap.size + 1 < w1.heap.size := by omega
  clear b1 g
  cases ho : okE (one zs root page)
  · obtain ⟨x1, x2⟩ := flt_bad ho
    have HF : Hid (fnd zs root page = (E0, 4)) := by show _ = _; rw [fnd, if_neg x1, x2]
    clear x1 x2 ho
    go_wp2
    refine bodyPost_ret (v := .tuple #[.agg #[.bool false, .bool false, .bool false, .bool false, .int .i64 0], .int .i64 4, .int .i64 0]) (by simp [results, Try.results32, go_sem, *]) rfl ⟨⟨_, _, _, _, _, _, _, rfl, wkd_fault HK.out HD.out HF.out (by decide)⟩, ?_⟩
    exact bel_alloc (bel_set5 (by omega) BB.out _ _ _ _ _) _
  cases hv : vE (one zs root page)
  · obtain ⟨x1, x2⟩ := flt_no ho hv
    have HF : Hid (fnd zs root page = (E0, 3)) := by show _ = _; rw [fnd, if_neg x1, x2]
    clear x1 x2 ho hv
    go_wp2
    refine bodyPost_ret (v := .tuple #[.agg #[.bool false, .bool false, .bool false, .bool false, .int .i64 0], .int .i64 3, .int .i64 0]) (by simp [results, Try.results32, go_sem, *]) rfl ⟨⟨_, _, _, _, _, _, _, rfl, wkd_fault HK.out HD.out HF.out (by decide)⟩, ?_⟩
    exact bel_alloc (bel_set5 (by omega) BB.out _ _ _ _ _) _
  have X1 : Hid (fltR (one zs root page) = 0) := flt_ok ho hv
  have HV : Hid (vE (one zs root page) = true) := hv
  obtain ⟨p0, p1⟩ := pE_in (one zs root page)
  clear ho hv
  cases hl : lE (one zs root page)
  rotate_left
  · by_cases h8 : pE (one zs root page) % 8 = 0
    rotate_left
    · have HF : Hid (fnd zs root page = (E0, 4)) := by show _ = _; rw [fnd, if_pos X1.out, if_pos hl, if_neg h8]
      clear hl
      go_wp2
      refine bodyPost_ret (v := .tuple #[.agg #[.bool false, .bool false, .bool false, .bool false, .int .i64 0], .int .i64 4, .int .i64 0]) (by simp [results, Try.results32, go_sem, *]) rfl ⟨⟨_, _, _, _, _, _, _, rfl, wkd_fault HK.out HD.out HF.out (by decide)⟩, ?_⟩
      exact bel_alloc (bel_set5 (by omega) BB.out _ _ _ _ _) _
    have HF : Hid (fnd zs root page = ((true, rE (one zs root page), xE (one zs root page), true, pE (one zs root page) + page % 8), 0)) := by show _ = _; rw [fnd, if_pos X1.out, if_pos hl, if_pos h8, HV.out, hl]
    clear hl
    generalize rE (one zs root page) = r at *
    generalize xE (one zs root page) = x at *
    have HW : Hid _ := @wkd_right zs root page wr _ _ _ _ _ HK.out HD.out HF.out
    cases r
    · go_wp2
      refine bodyPost_ret (v := .tuple #[.agg #[.bool false, .bool false, .bool false, .bool false, .int .i64 0], .int .i64 5, .int .i64 0]) (by simp [results, Try.results32, go_sem, *]) rfl ⟨⟨_, _, _, _, _, _, _, rfl, HW.out⟩, ?_⟩
      exact bel_alloc (bel_set5 (by omega) BB.out _ _ _ _ _) _
    cases wr
    · have HW' : Hid _ := HW.out.trans (if_pos (by cases x <;> rfl))
      clear HW
      go_wp2
      refine bodyPost_ret (v := .tuple #[.agg #[.bool true, .bool true, .bool x, .bool true, .int .i64 (pE (one zs root page) + page % 8)], .int .i64 0, .int .i64 0]) (by simp [results, Try.results32, go_sem, *]) rfl ⟨⟨_, _, _, _, _, _, _, rfl, HW'.out⟩, ?_⟩
      exact bel_alloc (bel_set5 (by omega) BB.out _ _ _ _ _) _
    cases x
    · go_wp2
      refine bodyPost_ret (v := .tuple #[.agg #[.bool false, .bool false, .bool false, .bool false, .int .i64 0], .int .i64 5, .int .i64 0]) (by simp [results, Try.results32, go_sem, *]) rfl ⟨⟨_, _, _, _, _, _, _, rfl, HW.out⟩, ?_⟩
      exact bel_alloc (bel_set5 (by omega) BB.out _ _ _ _ _) _
    · go_wp2
      refine bodyPost_ret (v := .tuple #[.agg #[.bool true, .bool true, .bool true, .bool true, .int .i64 (pE (one zs root page) + page % 8)], .int .i64 0, .int .i64 0]) (by simp [results, Try.results32, go_sem, *]) rfl ⟨⟨_, _, _, _, _, _, _, rfl, HW.out⟩, ?_⟩
      exact bel_alloc (bel_set5 (by omega) BB.out _ _ _ _ _) _
  have HL : Hid (¬ lE (one zs root page) = true) := not_true hl
  clear hl
  have e2 : w.cell? ⟨b, o + (8 * pE (one zs root page) + page % 8).toNat, none⟩ = some (.int .i64 (two zs root page)) := HC.out _ (by omega)
  have g2 : w1.cell? ⟨b, o + (8 * pE (one zs root page) + page % 8).toNat, none⟩ = some (.int .i64 (two zs root page)) := by rw [BB.out.cell (p := ⟨b, _, none⟩) hb]; exact e2
  have hb1 : b < w1.heap.size := by omega
  have s00 : w.heap.size < w1.heap.size := by omega
  have z3 : w.heap.size < w.heap.size + 1 + 1 + 1 := by omega
  have z4 : w.heap.size + 1 < w.heap.size + 1 + 1 + 1 := by omega
  have z5 : b < w.heap.size + 1 + 1 + 1 := by omega
  go_wp2_with fail
  refine (entryOf_any _ _).mono ?_
  rintro e w2 ⟨rfl, b2⟩
  have B2 : Hid _ := bel_trans (bel_alloc B1.out _) b2
  have BB2 : Hid (Below w.heap.size w w2) := bel_trans (bel_alloc BB.out _) b2
  have K2 := (Blk.new w1 _ _ _).keep b2
  obtain ⟨d0, d1, d2, d3, d4⟩ := K2.five
  have L2 := K2.lt
  have fz : ∀ i, w2.frozen? ⟨w1.heap.size, i, none⟩ = false := fun i => by rw [(bcell b2).2 _ _ (by simp)]; simp [go_sem]
  have s2 : w.heap.size + 1 + 1 < w2.heap.size := by omega
  have s20 : w.heap.size + 1 < w2.heap.size := by omega
  have n1 : ¬ w1.heap.size = w.heap.size + 1 := by omega
  have n2 : ¬ w1.heap.size = w.heap.size + 1 + 1 := by omega
  have BS : Hid (∀ u0 u1 u2 u3 u4, Below w.heap.size w (((((w2.setCell ⟨w1.heap.size, 0, none⟩ u0).setCell ⟨w1.heap.size, 1, none⟩ u1).setCell ⟨w1.heap.size, 2, none⟩ u2).setCell ⟨w1.heap.size, 3, none⟩ u3).setCell ⟨w1.heap.size, 4, none⟩ u4)) := fun u0 u1 u2 u3 u4 => bel_set5 (by omega) BB2.out _ _ _ _ _
  clear c1 f1 K2 b2 B1 BB g2 s0 s1 hb1 s00
  obtain ⟨c1, f1⟩ := bcell B2.out
  cases ho : okE (two zs root page)
  · obtain ⟨x1, x2⟩ := flt_bad ho
    have HF : Hid (fnd zs root page = (E0, 4)) := by show _ = _; rw [fnd, if_pos X1.out, if_neg HL.out, if_neg x1, x2]
    clear x1 x2 ho
    go_wp2
    refine bodyPost_ret (v := .tuple #[.agg #[.bool false, .bool false, .bool false, .bool false, .int .i64 0], .int .i64 4, .int .i64 0]) (by simp [results, Try.results32, go_sem, *]) rfl ⟨⟨_, _, _, _, _, _, _, rfl, wkd_fault HK.out HD.out HF.out (by decide)⟩, ?_⟩
    exact bel_set5 (by omega) (BS.out _ _ _ _ _) _ _ _ _ _
  cases hv : vE (two zs root page)
  · obtain ⟨x1, x2⟩ := flt_no ho hv
    have HF : Hid (fnd zs root page = (E0, 3)) := by show _ = _; rw [fnd, if_pos X1.out, if_neg HL.out, if_neg x1, x2]
    clear x1 x2 ho hv
    go_wp2
    refine bodyPost_ret (v := .tuple #[.agg #[.bool false, .bool false, .bool false, .bool false, .int .i64 0], .int .i64 3, .int .i64 0]) (by simp [results, Try.results32, go_sem, *]) rfl ⟨⟨_, _, _, _, _, _, _, rfl, wkd_fault HK.out HD.out HF.out (by decide)⟩, ?_⟩
    exact bel_set5 (by omega) (BS.out _ _ _ _ _) _ _ _ _ _
  have X2 : Hid (fltR (two zs root page) = 0) := flt_ok ho hv
  have HV2 : Hid (vE (two zs root page) = true) := hv
  clear ho hv
  cases hl : lE (two zs root page)
  · have x1 := not_true hl
    have HF : Hid (fnd zs root page = (E0, 4)) := by show _ = _; rw [fnd, if_pos X1.out, if_neg HL.out, if_pos X2.out, if_neg x1]
    clear x1 hl
    go_wp2
    refine bodyPost_ret (v := .tuple #[.agg #[.bool false, .bool false, .bool false, .bool false, .int .i64 0], .int .i64 4, .int .i64 0]) (by simp [results, Try.results32, go_sem, *]) rfl ⟨⟨_, _, _, _, _, _, _, rfl, wkd_fault HK.out HD.out HF.out (by decide)⟩, ?_⟩
    exact bel_set5 (by omega) (BS.out _ _ _ _ _) _ _ _ _ _
  have HF : Hid (fnd zs root page = ((true, rE (two zs root page), xE (two zs root page), true, pE (two zs root page)), 0)) := by show _ = _; rw [fnd, if_pos X1.out, if_neg HL.out, if_pos X2.out, if_pos hl, entE, HV2.out, hl]
  clear hl
  generalize rE (two zs root page) = r at *
  generalize xE (two zs root page) = x at *
  have HW : Hid _ := @wkd_right zs root page wr _ _ _ _ _ HK.out HD.out HF.out
  cases r
  · skip
    go_wp2
    refine bodyPost_ret (v := .tuple #[.agg #[.bool false, .bool false, .bool false, .bool false, .int .i64 0], .int .i64 5, .int .i64 0]) (by simp [results, Try.results32, go_sem, *]) rfl ⟨⟨_, _, _, _, _, _, _, rfl, HW.out⟩, ?_⟩
    exact bel_set5 (by omega) (BS.out _ _ _ _ _) _ _ _ _ _
  cases wr
  · have HW' : Hid _ := HW.out.trans (if_pos (by cases x <;> rfl))
    clear HW
    go_wp2
    refine bodyPost_ret (v := .tuple #[.agg #[.bool true, .bool true, .bool x, .bool true, .int .i64 (pE (two zs root page))], .int .i64 0, .int .i64 0]) (by simp [results, Try.results32, go_sem, *]) rfl ⟨⟨_, _, _, _, _, _, _, rfl, HW'.out⟩, ?_⟩
    exact bel_set5 (by omega) (BS.out _ _ _ _ _) _ _ _ _ _
  cases x
  · skip
    go_wp2
    refine bodyPost_ret (v := .tuple #[.agg #[.bool false, .bool false, .bool false, .bool false, .int .i64 0], .int .i64 5, .int .i64 0]) (by simp [results, Try.results32, go_sem, *]) rfl ⟨⟨_, _, _, _, _, _, _, rfl, HW.out⟩, ?_⟩
    exact bel_set5 (by omega) (BS.out _ _ _ _ _) _ _ _ _ _
  · skip
    go_wp2
    refine bodyPost_ret (v := .tuple #[.agg #[.bool true, .bool true, .bool true, .bool true, .int .i64 (pE (two zs root page))], .int .i64 0, .int .i64 0]) (by simp [results, Try.results32, go_sem, *]) rfl ⟨⟨_, _, _, _, _, _, _, rfl, HW.out⟩, ?_⟩
    exact bel_set5 (by omega) (BS.out _ _ _ _ _) _ _ _ _ _
end Go.Proofs.Ytnpgldcambbnhaa
