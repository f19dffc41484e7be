/-
  Laid together: WalkedR, WalkSaysWalk, LineAt, FilledR.
-/
import Derived.Test.YthlhocneggcekaaS1
import Derived.Test.YthlhocneggcekaaS2
import Derived.Test.YthlhocneggcekaaS3
import Derived.Test.YthlhocneggcekaaS4
import Derived.Test.YthlhocneggcekaaS5
import Derived.Test.YthlhocneggcekaaS7
import Derived.Test.YthlhocneggcekaaS9
import Derived.Deep.AppendLies
import Derived.Laws.CopyOwn
import Derived.Deep.RegionHeld3
import Derived.Deep.DrawnRows
import Derived.Deep.RegionWith
import Derived.Test.YthlhocneggcekaaRows
import Derived.WalkKit
import Derived.WalkSpells
import Derived.WalkLawsBesides
import Derived.Below
import Derived.WalkSmall
import Derived.Deep.QuietTactic
import Derived.BigQuiet
import Derived.Deep.Draws
import Derived.LoopN
import Derived.Deep.CutRange
import Derived.Maps.OwnOps
import Derived.Maps.OwnSet
namespace Go.Proofs.Ythlhocneggcekaa
open Go.RowKit
theorem pg_between (z : Int) : betweenB 0 63 z = pageB z := by
  rw [betweenB, pageB, Bool.eq_iff_iff]; simp; omega
theorem flt_bad {z : Int} (h : okE z = false) : ¬ fltR z = 0 ∧ fltR z = 4 := by simp [fltR, h]
theorem flt_no {z : Int} (h : okE z = true) (k : vE z = false) : ¬ fltR z = 0 ∧ fltR z = 3 := by simp [fltR, h, k]
theorem flt_ok {z : Int} (h : okE z = true) (k : vE z = true) : fltR z = 0 := by simp [fltR, h, k]
theorem not_true {b : Bool} (h : b = false) : ¬ b = true := by rw [h]; decide
theorem wkd_right {zs : List Int} {root page : Int} {wr b r x l : Bool} {p : Int} (hk : chk zs = 0) (hd : pageB root = true ∧ pageB page = true) (hf : fnd zs root page = ((b, r, x, l, p), 0)) :
    wkd zs root page wr = if (r && (x || !wr)) = true then ((b, r, x, l, p), 0, 0) else ((false, false, false, false, 0), 5, 0) := by
  rw [wkd, if_pos hk, if_pos hd, wkF, hf, if_pos rfl]
  split <;> rfl
theorem wkd_fault {zs : List Int} {root page : Int} {wr : Bool} {f : Int} (hk : chk zs = 0) (hd : pageB root = true ∧ pageB page = true) (hf : fnd zs root page = (E0, f)) (h0 : ¬ f = 0) :
    wkd zs root page wr = ((false, false, false, false, 0), f, 0) := by
  rw [wkd, if_pos hk, if_pos hd, wkF, hf, if_neg h0]; rfl
set_option maxHeartbeats 4000000 in
theorem walkedR_any (v : Value) (zs : List Int) (root page : Int) (wr : Bool) (w : World) (h : Sl w v zs) (hk : chk zs = 0) :
    Calls Try.prog 31 #[.agg #[v], .int .i64 root, .int .i64 page, .bool wr] w fun e w' => (∃ b r x l p f c, e = .returned (.tuple #[.agg #[.bool b, .bool r, .bool x, .bool l, .int .i64 p], .int .i64 f, .int .i64 c]) ∧ wkd zs root page wr = ((b, r, x, l, p), f, c)) ∧ Below w.heap.size w w' := by
  have HK : Hid (chk zs = 0) := hk
  have hn := (chk_ok hk).1
  obtain ⟨b, o, cap, rfl, hb, hc⟩ := h.open512 hn
  have HC : Hid (∀ i, i < 512 → w.cell? ⟨b, o + i, none⟩ = some (.int .i64 (nth zs i))) := hc
  clear hn hk hc h
  cases hr : pageB root
  · have hd : ¬ (pageB root = true ∧ pageB page = true) := by rw [hr]; simp
    have HD : Hid _ := hd
    clear hd
    go_enter Try.func31, Try.ntmps31
    go_wp2_with fail
    refine (in_any _ _ _ _).mono ?_
    rintro e w2 ⟨rfl, rfl⟩
    rw [pg_between, hr]
    go_wp2
    refine bodyPost_ret (v := .tuple #[.agg #[.bool false, .bool false, .bool false, .bool false, .int .i64 0], .int .i64 0, .int .i64 4]) (by simp [results, Try.results31, go_sem, *]) rfl ⟨⟨_, _, _, _, _, _, _, rfl, by rw [wkd, if_pos HK.out, if_neg HD.out]; rfl⟩, ?_⟩
    exact bel_alloc (bel_alloc (bel_alloc (Below.refl _ _) _) _) _
  cases hp : pageB page
  · have hd : ¬ (pageB root = true ∧ pageB page = true) := by rw [hp]; simp
    have HD : Hid _ := hd
    clear hd
    go_enter Try.func31, Try.ntmps31
    go_wp2_with fail
    refine (in_any _ _ _ _).mono ?_
    rintro e w2 ⟨rfl, rfl⟩
    rw [pg_between, hr]
    go_wp2_with fail
    refine (in_any _ _ _ _).mono ?_
    rintro e w2 ⟨rfl, rfl⟩
    rw [pg_between, hp]
    go_wp2
    refine bodyPost_ret (v := .tuple #[.agg #[.bool false, .bool false, .bool false, .bool false, .int .i64 0], .int .i64 0, .int .i64 4]) (by simp [results, Try.results31, go_sem, *]) rfl ⟨⟨_, _, _, _, _, _, _, rfl, by rw [wkd, if_pos HK.out, if_neg HD.out]; rfl⟩, ?_⟩
    exact bel_alloc (bel_alloc (bel_alloc (Below.refl _ _) _) _) _
  have hd : pageB root = true ∧ pageB page = true := ⟨hr, hp⟩
  have HD : Hid _ := hd
  clear hd
  obtain ⟨r0, r1⟩ : 0 ≤ root ∧ root < 64 := by simpa [pageB] using hr
  obtain ⟨g0, g1⟩ : 0 ≤ page ∧ page < 64 := by simpa [pageB] using hp
  have g : w.cell? ⟨b, o + (8 * root + page / 8).toNat, none⟩ = some (.int .i64 (one zs root page)) := HC.out _ (by omega)
  have y1 : b < w.heap.size + 1 := by omega
  have y2 : b < w.heap.size + 1 + 1 := by omega
  go_enter Try.func31, Try.ntmps31
  go_wp2_with fail
  refine (in_any _ _ _ _).mono ?_
  rintro e w2 ⟨rfl, rfl⟩
  rw [pg_between, hr]
  go_wp2_with fail
  refine (in_any _ _ _ _).mono ?_
  rintro e w2 ⟨rfl, rfl⟩
  rw [pg_between, hp]
  clear hr hp
  go_wp2_with fail
  refine (entryOf_any _ _).mono ?_
  rintro e w1 ⟨rfl, b1⟩
  have B1 : Hid _ := b1
  have BB : Hid (Below w.heap.size w w1) := bel_trans (bel_alloc (bel_alloc (bel_alloc (Below.refl _ _) _) _) _) b1
  obtain ⟨c1, f1⟩ := bcell b1
  have s1 : w.heap.size + 1 + 1 < w1.heap.size := by have := b1.size; simp at this; omega
  have s0 : w.heap.size + 1 < w1.heap.size := by omega
  clear b1 g
  cases ho : okE (one zs root page)
  · obtain ⟨x1, x2⟩ := flt_bad ho
    have HF : Hid (fnd zs root page = (E0, 4)) := by show _ = _; rw [fnd, if_neg x1, x2]
    clear x1 x2 ho
    go_wp2
    refine bodyPost_ret (v := .tuple #[.agg #[.bool false, .bool false, .bool false, .bool false, .int .i64 0], .int .i64 4, .int .i64 0]) (by simp [results, Try.results31, go_sem, *]) rfl ⟨⟨_, _, _, _, _, _, _, rfl, wkd_fault HK.out HD.out HF.out (by decide)⟩, ?_⟩
    exact bel_alloc (bel_set5 (by omega) BB.out _ _ _ _ _) _
  cases hv : vE (one zs root page)
  · obtain ⟨x1, x2⟩ := flt_no ho hv
    have HF : Hid (fnd zs root page = (E0, 3)) := by show _ = _; rw [fnd, if_neg x1, x2]
    clear x1 x2 ho hv
    go_wp2
    refine bodyPost_ret (v := .tuple #[.agg #[.bool false, .bool false, .bool false, .bool false, .int .i64 0], .int .i64 3, .int .i64 0]) (by simp [results, Try.results31, go_sem, *]) rfl ⟨⟨_, _, _, _, _, _, _, rfl, wkd_fault HK.out HD.out HF.out (by decide)⟩, ?_⟩
    exact bel_alloc (bel_set5 (by omega) BB.out _ _ _ _ _) _
  have X1 : Hid (fltR (one zs root page) = 0) := flt_ok ho hv
  have HV : Hid (vE (one zs root page) = true) := hv
  obtain ⟨p0, p1⟩ := pE_in (one zs root page)
  clear ho hv
  cases hl : lE (one zs root page)
  rotate_left
  · by_cases h8 : pE (one zs root page) % 8 = 0
    rotate_left
    · have HF : Hid (fnd zs root page = (E0, 4)) := by show _ = _; rw [fnd, if_pos X1.out, if_pos hl, if_neg h8]
      clear hl
      go_wp2
      refine bodyPost_ret (v := .tuple #[.agg #[.bool false, .bool false, .bool false, .bool false, .int .i64 0], .int .i64 4, .int .i64 0]) (by simp [results, Try.results31, go_sem, *]) rfl ⟨⟨_, _, _, _, _, _, _, rfl, wkd_fault HK.out HD.out HF.out (by decide)⟩, ?_⟩
      exact bel_alloc (bel_set5 (by omega) BB.out _ _ _ _ _) _
    have HF : Hid (fnd zs root page = ((true, rE (one zs root page), xE (one zs root page), true, pE (one zs root page) + page % 8), 0)) := by show _ = _; rw [fnd, if_pos X1.out, if_pos hl, if_pos h8, HV.out, hl]
    clear hl
    generalize rE (one zs root page) = r at *
    generalize xE (one zs root page) = x at *
    have HW : Hid _ := @wkd_right zs root page wr _ _ _ _ _ HK.out HD.out HF.out
    cases r
    · go_wp2
      refine bodyPost_ret (v := .tuple #[.agg #[.bool false, .bool false, .bool false, .bool false, .int .i64 0], .int .i64 5, .int .i64 0]) (by simp [results, Try.results31, go_sem, *]) rfl ⟨⟨_, _, _, _, _, _, _, rfl, HW.out⟩, ?_⟩
      exact bel_alloc (bel_set5 (by omega) BB.out _ _ _ _ _) _
    cases wr
    · have HW' : Hid _ := HW.out.trans (if_pos (by cases x <;> rfl))
      clear HW
      go_wp2
      refine bodyPost_ret (v := .tuple #[.agg #[.bool true, .bool true, .bool x, .bool true, .int .i64 (pE (one zs root page) + page % 8)], .int .i64 0, .int .i64 0]) (by simp [results, Try.results31, go_sem, *]) rfl ⟨⟨_, _, _, _, _, _, _, rfl, HW'.out⟩, ?_⟩
      exact bel_alloc (bel_set5 (by omega) BB.out _ _ _ _ _) _
    cases x
    · go_wp2
      refine bodyPost_ret (v := .tuple #[.agg #[.bool false, .bool false, .bool false, .bool false, .int .i64 0], .int .i64 5, .int .i64 0]) (by simp [results, Try.results31, go_sem, *]) rfl ⟨⟨_, _, _, _, _, _, _, rfl, HW.out⟩, ?_⟩
      exact bel_alloc (bel_set5 (by omega) BB.out _ _ _ _ _) _
    · go_wp2
      refine bodyPost_ret (v := .tuple #[.agg #[.bool true, .bool true, .bool true, .bool true, .int .i64 (pE (one zs root page) + page % 8)], .int .i64 0, .int .i64 0]) (by simp [results, Try.results31, go_sem, *]) rfl ⟨⟨_, _, _, _, _, _, _, rfl, HW.out⟩, ?_⟩
      exact bel_alloc (bel_set5 (by omega) BB.out _ _ _ _ _) _
  have HL : Hid (¬ lE (one zs root page) = true) := not_true hl
  clear hl
  have e2 : w.cell? ⟨b, o + (8 * pE (one zs root page) + page % 8).toNat, none⟩ = some (.int .i64 (two zs root page)) := HC.out _ (by omega)
  have g2 : w1.cell? ⟨b, o + (8 * pE (one zs root page) + page % 8).toNat, none⟩ = some (.int .i64 (two zs root page)) := by rw [BB.out.cell (p := ⟨b, _, none⟩) hb]; exact e2
  have hb1 : b < w1.heap.size := by omega
  have s00 : w.heap.size < w1.heap.size := by omega
  have z3 : w.heap.size < w.heap.size + 1 + 1 + 1 := by omega
  have z4 : w.heap.size + 1 < w.heap.size + 1 + 1 + 1 := by omega
  have z5 : b < w.heap.size + 1 + 1 + 1 := by omega
  go_wp2_with fail
  refine (entryOf_any _ _).mono ?_
  rintro e w2 ⟨rfl, b2⟩
  have B2 : Hid _ := bel_trans (bel_alloc B1.out _) b2
  have BB2 : Hid (Below w.heap.size w w2) := bel_trans (bel_alloc BB.out _) b2
  have K2 := (Blk.new w1 _ _ _).keep b2
  obtain ⟨d0, d1, d2, d3, d4⟩ := K2.five
  have L2 := K2.lt
  have fz : ∀ i, w2.frozen? ⟨w1.heap.size, i, none⟩ = false := fun i => by rw [(bcell b2).2 _ _ (by simp)]; simp [go_sem]
  have s2 : w.heap.size + 1 + 1 < w2.heap.size := by omega
  have s20 : w.heap.size + 1 < w2.heap.size := by omega
  have n1 : ¬ w1.heap.size = w.heap.size + 1 := by omega
  have n2 : ¬ w1.heap.size = w.heap.size + 1 + 1 := by omega
  have BS : Hid (∀ u0 u1 u2 u3 u4, Below w.heap.size w (((((w2.setCell ⟨w1.heap.size, 0, none⟩ u0).setCell ⟨w1.heap.size, 1, none⟩ u1).setCell ⟨w1.heap.size, 2, none⟩ u2).setCell ⟨w1.heap.size, 3, none⟩ u3).setCell ⟨w1.heap.size, 4, none⟩ u4)) := fun u0 u1 u2 u3 u4 => bel_set5 (by omega) BB2.out _ _ _ _ _
  clear c1 f1 K2 b2 B1 BB g2 s0 s1 hb1 s00
  obtain ⟨c1, f1⟩ := bcell B2.out
  cases ho : okE (two zs root page)
  · obtain ⟨x1, x2⟩ := flt_bad ho
    have HF : Hid (fnd zs root page = (E0, 4)) := by show _ = _; rw [fnd, if_pos X1.out, if_neg HL.out, if_neg x1, x2]
    clear x1 x2 ho
    go_wp2
    refine bodyPost_ret (v := .tuple #[.agg #[.bool false, .bool false, .bool false, .bool false, .int .i64 0], .int .i64 4, .int .i64 0]) (by simp [results, Try.results31, go_sem, *]) rfl ⟨⟨_, _, _, _, _, _, _, rfl, wkd_fault HK.out HD.out HF.out (by decide)⟩, ?_⟩
    exact bel_set5 (by omega) (BS.out _ _ _ _ _) _ _ _ _ _
  cases hv : vE (two zs root page)
  · obtain ⟨x1, x2⟩ := flt_no ho hv
    have HF : Hid (fnd zs root page = (E0, 3)) := by show _ = _; rw [fnd, if_pos X1.out, if_neg HL.out, if_neg x1, x2]
    clear x1 x2 ho hv
    go_wp2
    refine bodyPost_ret (v := .tuple #[.agg #[.bool false, .bool false, .bool false, .bool false, .int .i64 0], .int .i64 3, .int .i64 0]) (by simp [results, Try.results31, go_sem, *]) rfl ⟨⟨_, _, _, _, _, _, _, rfl, wkd_fault HK.out HD.out HF.out (by decide)⟩, ?_⟩
    exact bel_set5 (by omega) (BS.out _ _ _ _ _) _ _ _ _ _
  have X2 : Hid (fltR (two zs root page) = 0) := flt_ok ho hv
  have HV2 : Hid (vE (two zs root page) = true) := hv
  clear ho hv
  cases hl : lE (two zs root page)
  · have x1 := not_true hl
    have HF : Hid (fnd zs root page = (E0, 4)) := by show _ = _; rw [fnd, if_pos X1.out, if_neg HL.out, if_pos X2.out, if_neg x1]
    clear x1 hl
    go_wp2
    refine bodyPost_ret (v := .tuple #[.agg #[.bool false, .bool false, .bool false, .bool false, .int .i64 0], .int .i64 4, .int .i64 0]) (by simp [results, Try.results31, go_sem, *]) rfl ⟨⟨_, _, _, _, _, _, _, rfl, wkd_fault HK.out HD.out HF.out (by decide)⟩, ?_⟩
    exact bel_set5 (by omega) (BS.out _ _ _ _ _) _ _ _ _ _
  have HF : Hid (fnd zs root page = ((true, rE (two zs root page), xE (two zs root page), true, pE (two zs root page)), 0)) := by show _ = _; rw [fnd, if_pos X1.out, if_neg HL.out, if_pos X2.out, if_pos hl, entE, HV2.out, hl]
  clear hl
  generalize rE (two zs root page) = r at *
  generalize xE (two zs root page) = x at *
  have HW : Hid _ := @wkd_right zs root page wr _ _ _ _ _ HK.out HD.out HF.out
  cases r
  · skip
    go_wp2
    refine bodyPost_ret (v := .tuple #[.agg #[.bool false, .bool false, .bool false, .bool false, .int .i64 0], .int .i64 5, .int .i64 0]) (by simp [results, Try.results31, go_sem, *]) rfl ⟨⟨_, _, _, _, _, _, _, rfl, HW.out⟩, ?_⟩
    exact bel_set5 (by omega) (BS.out _ _ _ _ _) _ _ _ _ _
  cases wr
  · have HW' : Hid _ := HW.out.trans (if_pos (by cases x <;> rfl))
    clear HW
    go_wp2
    refine bodyPost_ret (v := .tuple #[.agg #[.bool true, .bool true, .bool x, .bool true, .int .i64 (pE (two zs root page))], .int .i64 0, .int .i64 0]) (by simp [results, Try.results31, go_sem, *]) rfl ⟨⟨_, _, _, _, _, _, _, rfl, HW'.out⟩, ?_⟩
    exact bel_set5 (by omega) (BS.out _ _ _ _ _) _ _ _ _ _
  cases x
  · skip
    go_wp2
    refine bodyPost_ret (v := .tuple #[.agg #[.bool false, .bool false, .bool false, .bool false, .int .i64 0], .int .i64 5, .int .i64 0]) (by simp [results, Try.results31, go_sem, *]) rfl ⟨⟨_, _, _, _, _, _, _, rfl, HW.out⟩, ?_⟩
    exact bel_set5 (by omega) (BS.out _ _ _ _ _) _ _ _ _ _
  · skip
    go_wp2
    refine bodyPost_ret (v := .tuple #[.agg #[.bool true, .bool true, .bool true, .bool true, .int .i64 (pE (two zs root page))], .int .i64 0, .int .i64 0]) (by simp [results, Try.results31, go_sem, *]) rfl ⟨⟨_, _, _, _, _, _, _, rfl, HW.out⟩, ?_⟩
    exact bel_set5 (by omega) (BS.out _ _ _ _ _) _ _ _ _ _
theorem walkedR_at {v : Value} {zs : List Int} {root page : Int} {wr : Bool} {w : World} {b r x l : Bool} {p f c : Int} (hk : wkd zs root page wr = ((b, r, x, l, p), f, c)) (h : Sl w v zs) (h0 : chk zs = 0) :
    Calls Try.prog 31 #[.agg #[v], .int .i64 root, .int .i64 page, .bool wr] w fun e w' => e = .returned (.tuple #[.agg #[.bool b, .bool r, .bool x, .bool l, .int .i64 p], .int .i64 f, .int .i64 c]) ∧ Below w.heap.size w w' := by
  refine (walkedR_any v zs root page wr w h h0).mono ?_
  rintro e w' ⟨⟨b', r', x', l', p', f', c', rfl, hk'⟩, hb⟩
  rw [hk] at hk'
  simp only [Prod.mk.injEq] at hk'
  obtain ⟨⟨rfl, rfl, rfl, rfl, rfl⟩, rfl, rfl⟩ := hk'
  exact ⟨rfl, hb⟩
set_option maxHeartbeats 1000000 in
theorem lineAt_any (v : Value) (l : List Ln) (d p : Int) (w : World) (h : Ls w v l) :
    Calls Try.prog 42 #[v, .int .i64 d, .int .i64 p] w fun e w' => e = .returned (.int .i64 (fndC l d p)) ∧ Below w.heap.size w w' := by
  obtain ⟨a, cap, rfl, hl, hm, h⟩ := h
  unfold maxLen at hm
  rcases h with rfl | ⟨b, o, rfl, hb, hc⟩
  · go_enter Try.func42, Try.ntmps42
    go_wp2
    go_loopw [7, 8, 11] (fun _ _ i w' => i = .int .i64 0 ∧ w' = w) (fun _ _ i _ => 0)
    case atStart => exact ⟨rfl, rfl⟩
    case round =>
      obtain ⟨rfl, rfl⟩ := hrel
      go_wp2
      go_ret
      exact ⟨ret_int (fndC_none (fun j hj => absurd hj (Nat.not_lt_zero _))).symm, Below.refl _ _⟩
  · have HC : Hid _ := hc
    clear hc
    go_enter Try.func42, Try.ntmps42
    go_wp2
    go_loopw [7, 8, 11] (fun _ _ i w' => ∃ k : Nat, k ≤ l.length ∧ i = .int .i64 k ∧ (∀ j, j < k → hasB d p (lth l j) = false) ∧ Below w.heap.size w w') (fun _ _ i _ => l.length - (intOf i).toNat)
    case atStart => exact ⟨0, Nat.zero_le _, rfl, fun j hj => absurd hj (Nat.not_lt_zero _), Below.refl _ _⟩
    case round =>
      obtain ⟨k, hk, rfl, hpre, hB⟩ := hrel
      have HP : Hid _ := hpre
      have HB : Hid _ := hB
      by_cases hlt : k < l.length
      · obtain ⟨g0, g1, g2, g3, g4⟩ := (HC.out k hlt).keep hB hb
        have hb' : b < wr.heap.size := Nat.lt_of_lt_of_le hb hB.size
        obtain ⟨y, hy⟩ : ∃ y, y = lth l k := ⟨_, rfl⟩
        have HY : Hid _ := hy
        rw [← hy] at g0 g1 g2 g3 g4
        clear hy hpre hB
        obtain ⟨d1, p1, a1, r1, x1⟩ := y
        simp only at g0 g1 g2 g3 g4
        have hlt1 : (k : Int) < l.length := by omega
        by_cases e1 : d1 = d
        · by_cases e2 : p1 = p
          · subst e1 e2
            have HF : Hid (fndC l d1 p1 = k) := fndC_at hlt (by rw [← HY.out]; simp [hasB]) HP.out
            go_wp2
            go_ret
            exact ⟨ret_int HF.out.symm, bel_alloc HB.out _⟩
          · have q1 : (d1 == d) = true := by simpa using e1
            have q2 : (p1 == p) = false := by simpa using e2
            have HN : Hid (hasB d p (lth l k) = false) := by show _ = _; rw [← HY.out]; simp [hasB, e2]
            clear e1 e2
            go_wp2
            exact ⟨⟨k + 1, by omega, by go_num, upto_next HP.out HN.out, bel_alloc HB.out _⟩, by simp [intOf]; omega⟩
        · have q1 : (d1 == d) = false := by simpa using e1
          have HN : Hid (hasB d p (lth l k) = false) := by show _ = _; rw [← HY.out]; simp [hasB, e1]
          clear e1
          go_wp2
          exact ⟨⟨k + 1, by omega, by go_num, upto_next HP.out HN.out, bel_alloc HB.out _⟩, by simp [intOf]; omega⟩
      · have HF : Hid (fndC l d p = -1) := fndC_none fun j hj => HP.out j (by omega)
        clear hpre hB
        go_wp2
        go_ret
        exact ⟨ret_int HF.out.symm, HB.out⟩
set_option maxHeartbeats 1000000 in
theorem filled_any (v : Value) (l : List Ln) (d p a : Int) (r x : Bool) (w : World) (h : Ls w v l) :
    Calls Try.prog 32 #[v, .agg #[.int .i64 d, .int .i64 p, .int .i64 a, .bool r, .bool x]] w fun e w' => (∃ v', e = .returned (.tuple #[v', .int .i64 (flE l (d, p, a, r, x))]) ∧ Ls w' v' (flC l (d, p, a, r, x)) ∧ Fresh w.heap.size v') ∧ Below w.heap.size w w' := by
  have HL : Hid (Ls w v l) := h
  obtain ⟨a0, cap, rfl, hl, hm, h⟩ := h
  unfold maxLen at hm
  go_enter Try.func32, Try.ntmps32
  go_wp2_with fail
  refine (checkCache_any _ l _ (HL.out.keep (bel_alloc (Below.refl _ _) _))).mono ?_
  rintro e w1 ⟨rfl, b1⟩
  have K1 := (Blk.new w #[.int .i64 d, .int .i64 p, .int .i64 a, .bool r, .bool x] 63 (0, 0)).keep b1
  have B1 : Hid (Below w.heap.size w w1) := bel_trans (bel_alloc (Below.refl _ _) _) b1
  clear b1
  by_cases hc : chkC l = 0
  rotate_left
  · have hq : (chkC l != 0) = true := by simpa using hc
    have HE : Hid (flE l (d, p, a, r, x) = chkC l) := by unfold flE; exact if_neg hc
    have HF : Hid (flC l (d, p, a, r, x) = []) := by unfold flC; exact if_neg (by rw [HE.out]; exact hc)
    go_wp2
    refine bodyPost_ret (v := .tuple #[.slice none 0 0, .int .i64 (chkC l)]) (by simp [results, Try.results32, go_sem]) rfl ⟨⟨_, by rw [HE.out], by rw [HF.out]; exact Ls.nothing _, Fresh.none _ _ _⟩, B1.out⟩
  rw [hc]
  obtain ⟨c0, c1, c2, c3, c4⟩ := K1.five
  have s1 := K1.lt
  go_wp2_with fail
  refine (checkCache_any _ [(d, p, a, r, x)] _ (ls_one _ _ _ _ _ _ _)).mono ?_
  rw [chkC_one]
  rintro e w2 ⟨rfl, b2⟩
  have K2 := (K1.past _).keep b2
  have B2 : Hid (Below w.heap.size w w2) := bel_trans (bel_alloc B1.out _) b2
  clear B1 K1 b2 c0 c1 c2 c3 c4 s1
  obtain ⟨c0, c1, c2, c3, c4⟩ := K2.five
  have s1 := K2.lt
  by_cases ho : own (d, p, a, r, x) = 0
  rotate_left
  · have hq : (own (d, p, a, r, x) != 0) = true := by simpa using ho
    have HE : Hid (flE l (d, p, a, r, x) = own (d, p, a, r, x)) := by
      unfold flE
      rw [if_pos hc, chkC_one, if_neg ho]
      rfl
    have HF : Hid (flC l (d, p, a, r, x) = []) := by unfold flC; exact if_neg (by rw [HE.out]; exact ho)
    generalize own (d, p, a, r, x) = z at *
    go_wp2
    refine bodyPost_ret (v := .tuple #[.slice none 0 0, .int .i64 z]) (by simp [results, Try.results32, go_sem]) rfl ⟨⟨_, by rw [HE.out], by rw [HF.out]; exact Ls.nothing _, Fresh.none _ _ _⟩, B2.out⟩
  rw [ho]
  go_wp2_with fail
  refine (lineAt_any _ l d p _ (HL.out.keep B2.out)).mono ?_
  rintro e wx ⟨rfl, b3⟩
  have K3 := K2.keep b3
  have B3 : Hid (Below w.heap.size w wx) := bel_trans B2.out b3
  clear B2 K2 b3 c0 c1 c2 c3 c4 s1
  obtain ⟨c0, c1, c2, c3, c4⟩ := K3.five
  have s1 := K3.lt
  by_cases hf : 0 ≤ fndC l d p
  · have HE : Hid (flE l (d, p, a, r, x) = 5) := by
      unfold flE
      rw [if_pos hc, chkC_one, if_pos ho]
      exact if_pos hf
    have HF : Hid (flC l (d, p, a, r, x) = []) := by unfold flC; exact if_neg (by rw [HE.out]; decide)
    go_wp2
    refine bodyPost_ret (v := .tuple #[.slice none 0 0, .int .i64 5]) (by simp [results, Try.results32, go_sem]) rfl ⟨⟨_, by rw [HE.out], by rw [HF.out]; exact Ls.nothing _, Fresh.none _ _ _⟩, B3.out⟩
  have HE : Hid (flE l (d, p, a, r, x) = 0) := by
    unfold flE
    rw [if_pos hc, chkC_one, if_pos ho]
    exact if_neg hf
  have HF : Hid (flC l (d, p, a, r, x) = oldC l ++ [(d, p, a, r, x)]) := flC_ok HE.out
  have h6 : l.length ≤ 6 := (chkC_zero.1 hc).1
  have HT0 : Hid (Ls wx (.slice a0 l.length cap) l) := HL.out.keep B3.out
  clear HL K3
  obtain ⟨m, hm'⟩ : ∃ m, m = oldC l := ⟨_, rfl⟩
  have HM : Hid (m = oldC l) := hm'
  have hm5 : m.length ≤ 5 := by rw [hm']; exact (oldC_len h6).1
  clear hm'
  by_cases hl6 : l.length = 6
  · rcases h with rfl | ⟨b, o, rfl, hb, _⟩
    · exact absurd hl6 (by simp)
    have HT : Hid (Ls wx (.slice (some ⟨b, o + 5, none⟩) 5 (cap - 1)) m) := by
      have := HT0.out.drop (k := 1) (by omega)
      rw [HM.out, oldC, if_pos hl6]
      rw [hl6] at this
      exact this
    rw [hl6] at hl ⊢
    have z1 : (1 : Int) ≤ cap := by omega
    have z2 : (6 : Int) ≤ cap := by omega
    have z3 : ¬ cap = 1 := by omega
    have z4 : 1 ≤ cap := by omega
    go_wp2
    go_region_held3 (fun w' => w'.cell? ⟨w.heap.size, 0, none⟩ = some (.int .i64 d) ∧ w'.cell? ⟨w.heap.size, 1, none⟩ = some (.int .i64 p) ∧ w'.cell? ⟨w.heap.size, 2, none⟩ = some (.int .i64 a) ∧ w'.cell? ⟨w.heap.size, 3, none⟩ = some (.bool r) ∧ w'.cell? ⟨w.heap.size, 4, none⟩ = some (.bool x) ∧ Below wx.heap.size wx w')
      (with_reducible refine keep5 (by assumption) (by assumption) (by assumption) (by assumption) (by assumption) (by assumption) ?_; (repeat (first | with_reducible assumption | (with_reducible (refine limb5 (?_ : _ ∧ _ ∧ _ ∧ _ ∧ _ ∧ _); assumption)) | with_reducible exact Below.refl _ _ | with_reducible refine Below.drew ?_ | with_reducible refine bel_drewN ?_ _ | with_reducible refine bel_alloc ?_ _ | with_reducible refine Below.trans ?_ (by assumption))))
      (first
        | (refine step_append_L rfl (.tmp 31) (.tmp 32) rfl wx.heap.size (.slice (some ⟨_, 0, none⟩) 0 0) _ [] m rfl rfl ?_ ?_ (by first | (simp; done) | (simp; omega)) (by first | (simp; done) | (simp; omega)) (.inl ⟨_, _, _, rfl⟩) ?_; (focus (first | exact OwnL.litAt (by simp) _ (by simp) | exact (OwnL.litAt (by simp) _ (by simp)).alloc _)); (focus (first | exact HT.out.keep (bel_alloc (bel_alloc (Below.drew (Below.refl _ _)) _) _) | exact HT.out.keep (bel_alloc (Below.drew (Below.refl _ _)) _))); intro g cg w4 hown hgr hbel _)
        | (refine step_append_L rfl (.tmp 33) (.tmp 35) rfl wx.heap.size (.slice (some ⟨_, 0, none⟩) _ _) (.slice (some ⟨_, 0, none⟩) 1 1) m [(d, p, a, r, x)] rfl rfl ?_ ?_ (by simp; omega) (by have hs4 := hgr.size; simp at hs4 ⊢; omega) (.inl ⟨_, _, _, rfl⟩) ?_; (focus (first | exact hown | exact hown.alloc _)); (focus (first | exact ls_oneAt (by simp) _ _ _ _ _ _ | (refine Ls.grown ?_ hgr (by simp [Value.ownBlock]); first | exact ls_oneAt (by simp) _ _ _ _ _ _ | exact Ls.alloc (ls_oneAt (by simp) _ _ _ _ _ _) _))); intro g2 cg2 w5 hown2 _ hbel2 _))
    all_goals
      rename_i hH
      have HB5 : Hid (Below wx.heap.size wx w5) := limb5 hH
      have HO2 : Hid _ := hown2
      have HG2 : Hid (w.heap.size ≤ g2) := Nat.le_trans B3.out.size (hown2.base g2 rfl)
      clear hH hown2 hown hgr hbel hbel2
      go_wp2
      refine bodyPost_ret (v := .tuple #[.slice (some ⟨g2, 0, none⟩) (m.length + 1) cg2, .int .i64 0]) (by simp [results, Try.results32, go_sem]) rfl ⟨⟨_, by rw [HE.out], ?_, fresh_at HG2.out _ _ _⟩, bel_trans B3.out HB5.out⟩
      rw [HF.out, ← HM.out]
      simpa using OwnL.ls HO2.out
  · have hq6 : ((l.length : Int) == 6) = false := by simp; omega
    have HT : Hid (Ls wx (.slice a0 l.length cap) m) := by
      rw [HM.out, oldC, if_neg hl6]
      exact HT0.out
    go_wp2
    go_region_held3 (fun w' => w'.cell? ⟨w.heap.size, 0, none⟩ = some (.int .i64 d) ∧ w'.cell? ⟨w.heap.size, 1, none⟩ = some (.int .i64 p) ∧ w'.cell? ⟨w.heap.size, 2, none⟩ = some (.int .i64 a) ∧ w'.cell? ⟨w.heap.size, 3, none⟩ = some (.bool r) ∧ w'.cell? ⟨w.heap.size, 4, none⟩ = some (.bool x) ∧ Below wx.heap.size wx w')
      (with_reducible refine keep5 (by assumption) (by assumption) (by assumption) (by assumption) (by assumption) (by assumption) ?_; (repeat (first | with_reducible assumption | (with_reducible (refine limb5 (?_ : _ ∧ _ ∧ _ ∧ _ ∧ _ ∧ _); assumption)) | with_reducible exact Below.refl _ _ | with_reducible refine Below.drew ?_ | with_reducible refine bel_drewN ?_ _ | with_reducible refine bel_alloc ?_ _ | with_reducible refine Below.trans ?_ (by assumption))))
      (first
        | (refine step_append_L rfl (.tmp 31) (.tmp 32) rfl wx.heap.size (.slice (some ⟨_, 0, none⟩) 0 0) _ [] m rfl rfl ?_ ?_ (by first | (simp; done) | (simp; omega)) (by first | (simp; done) | (simp; omega)) (.inl ⟨_, _, _, rfl⟩) ?_; (focus (first | exact OwnL.litAt (by simp) _ (by simp) | exact (OwnL.litAt (by simp) _ (by simp)).alloc _)); (focus (first | exact HT.out.keep (bel_alloc (bel_alloc (Below.drew (Below.refl _ _)) _) _) | exact HT.out.keep (bel_alloc (Below.drew (Below.refl _ _)) _))); intro g cg w4 hown hgr hbel _)
        | (refine step_append_L rfl (.tmp 33) (.tmp 35) rfl wx.heap.size (.slice (some ⟨_, 0, none⟩) _ _) (.slice (some ⟨_, 0, none⟩) 1 1) m [(d, p, a, r, x)] rfl rfl ?_ ?_ (by simp; omega) (by have hs4 := hgr.size; simp at hs4 ⊢; omega) (.inl ⟨_, _, _, rfl⟩) ?_; (focus (first | exact hown | exact hown.alloc _)); (focus (first | exact ls_oneAt (by simp) _ _ _ _ _ _ | (refine Ls.grown ?_ hgr (by simp [Value.ownBlock]); first | exact ls_oneAt (by simp) _ _ _ _ _ _ | exact Ls.alloc (ls_oneAt (by simp) _ _ _ _ _ _) _))); intro g2 cg2 w5 hown2 _ hbel2 _))
    all_goals
      rename_i hH
      have HB5 : Hid (Below wx.heap.size wx w5) := limb5 hH
      have HO2 : Hid _ := hown2
      have HG2 : Hid (w.heap.size ≤ g2) := Nat.le_trans B3.out.size (hown2.base g2 rfl)
      clear hH hown2 hown hgr hbel hbel2
      go_wp2
      refine bodyPost_ret (v := .tuple #[.slice (some ⟨g2, 0, none⟩) (m.length + 1) cg2, .int .i64 0]) (by simp [results, Try.results32, go_sem]) rfl ⟨⟨_, by rw [HE.out], ?_, fresh_at HG2.out _ _ _⟩, bel_trans B3.out HB5.out⟩
      rw [HF.out, ← HM.out]
      simpa using OwnL.ls HO2.out
end Go.Proofs.Ythlhocneggcekaa
