/-
  Laid together: DroppedR, EqualL, CacheSaysWalk, GoesR, Ring4.
-/
import Derived.Test.YtefcdcneenjbgabT13
/-
  drawbridgeref's Dropped: lines without those that an order makes the bridge forget; nothing that was there turns.
-/
namespace Go.Proofs.Ytefcdcneenjbgab
open Go.RowKit

set_option maxHeartbeats 1000000 in
theorem dropped_err (v : Value) (l : List Ln) (k d p : Int) (w : World) (h : Ls w v l) (hc : ¬ chkC l = 0) :
    Calls Try.prog 77 #[v, .agg #[.int .i64 k, .int .i64 d, .int .i64 p]] w fun e w' => (∃ v', e = .returned (.tuple #[v', .int .i64 (drE l k)]) ∧ Ls w' v' (drC l k d p)) ∧ Below w.heap.size w w' := by
  have HL : Hid (Ls w v l) := h
  obtain ⟨a0, cap, rfl, hl, hm, h⟩ := h
  have hq : (chkC l != 0) = true := by simpa using hc
  have HE : Hid (drE l k = chkC l) := by unfold drE; exact if_neg hc
  have HF : Hid (drC l k d p = []) := by unfold drC; exact if_neg (by rw [HE.out]; exact hc)
  clear hc
  go_enter Try.func77, Try.ntmps77
  go_wp2_with fail
  refine (checkCache_any _ l _ (HL.out.keep (bel_alloc (Below.refl _ _) _))).mono ?_
  rintro e w1 ⟨rfl, b1⟩
  have B1 : Hid (Below w.heap.size w w1) := bel_trans (bel_alloc (Below.refl _ _) _) b1
  clear b1
  generalize chkC l = z at *
  go_wp2
  refine bodyPost_ret (v := .tuple #[.slice none 0 0, .int .i64 z]) (by simp [results, Try.results77, go_sem]) rfl ⟨⟨_, by rw [HE.out], by rw [HF.out]; exact Ls.nothing _⟩, B1.out⟩

set_option maxHeartbeats 1000000 in
theorem dropped_bad (v : Value) (l : List Ln) (k d p : Int) (w : World) (h : Ls w v l) (hc : chkC l = 0) (hk : ¬ (0 ≤ k ∧ k ≤ 3)) :
    Calls Try.prog 77 #[v, .agg #[.int .i64 k, .int .i64 d, .int .i64 p]] w fun e w' => (∃ v', e = .returned (.tuple #[v', .int .i64 (drE l k)]) ∧ Ls w' v' (drC l k d p)) ∧ Below w.heap.size w w' := by
  have HL : Hid (Ls w v l) := h
  have h6 : l.length ≤ 6 := (chkC_zero.1 hc).1
  obtain ⟨a0, cap, rfl, hl, hm, h⟩ := h
  unfold maxLen at hm
  have HE : Hid (drE l k = 3) := by unfold drE; rw [if_pos hc, if_neg hk]; rfl
  have HF : Hid (drC l k d p = []) := by unfold drC; exact if_neg (by rw [HE.out]; decide)
  have hin : inB k 0 3 = false := by unfold inB; exact decide_eq_false hk
  go_enter Try.func77, Try.ntmps77
  go_wp2_with fail
  refine (checkCache_any _ l _ (HL.out.keep (bel_alloc (Below.refl _ _) _))).mono ?_
  rw [hc]
  rintro e wp0 ⟨rfl, b1⟩
  have K1 := (Blk.new w #[.int .i64 k, .int .i64 d, .int .i64 p] 23 (0, 0)).keep b1
  have HB2 : Hid (Below w.heap.size w wp0) := bel_trans (bel_alloc (Below.refl _ _) _) b1
  obtain ⟨c0, c1, c2⟩ := K1.three
  have s1 := K1.lt
  have HK1 : Hid _ := K1
  clear b1 K1
  go_wp2_with fail
  refine (cIn_any _ _ _ _).mono ?_
  rw [hin]
  rintro e wq ⟨rfl, rfl⟩
  go_wp2
  refine bodyPost_ret (v := .tuple #[.slice none 0 0, .int .i64 3]) (by simp [results, Try.results77, go_sem]) rfl ⟨⟨_, by rw [HE.out], by rw [HF.out]; exact Ls.nothing _⟩, HB2.out⟩

set_option maxHeartbeats 1000000 in
theorem dropped_0 (v : Value) (l : List Ln) (d p : Int) (w : World) (h : Ls w v l) (hc : chkC l = 0) :
    Calls Try.prog 77 #[v, .agg #[.int .i64 (0 : Int), .int .i64 d, .int .i64 p]] w fun e w' => (∃ v', e = .returned (.tuple #[v', .int .i64 (drE l (0 : Int))]) ∧ Ls w' v' (drC l (0 : Int) d p)) ∧ Below w.heap.size w w' := by
  have HL : Hid (Ls w v l) := h
  have h6 : l.length ≤ 6 := (chkC_zero.1 hc).1
  obtain ⟨a0, cap, rfl, hl, hm, h⟩ := h
  unfold maxLen at hm
  have HE : Hid (drE l 0 = 0) := (drC_ok (d := d) (p := p) hc (by omega)).1
  have HF : Hid (drC l 0 d p = kpt l 0 d p l.length) := (drC_ok hc (by omega)).2
  have hin : inB (0 : Int) 0 3 = true := by decide
  go_enter Try.func77, Try.ntmps77
  go_wp2_with fail
  refine (checkCache_any _ l _ (HL.out.keep (bel_alloc (Below.refl _ _) _))).mono ?_
  rw [hc]
  rintro e wp0 ⟨rfl, b1⟩
  have K1 := (Blk.new w #[.int .i64 (0 : Int), .int .i64 d, .int .i64 p] 23 (0, 0)).keep b1
  have HB2 : Hid (Below w.heap.size w wp0) := bel_trans (bel_alloc (Below.refl _ _) _) b1
  obtain ⟨c0, c1, c2⟩ := K1.three
  have s1 := K1.lt
  have HK1 : Hid _ := K1
  clear b1 K1
  go_wp2_with fail
  refine (cIn_any _ _ _ _).mono ?_
  rw [hin]
  rintro e wq ⟨rfl, rfl⟩
  have HLq : Hid (Ls wq (.slice a0 l.length cap) l) := HL.out.keep HB2.out
  clear HL c0 c1 c2
  rcases h with rfl | ⟨b, o, rfl, hb, _⟩
  · go_wp2
    go_loopw [7, 9, 10, 22] (fun v9 _ _ i w' => v9 = .slice none 0 0 ∧ i = .int .i64 0 ∧ w' = wq) (fun _ _ _ i _ => 0)
    case atStart => exact ⟨rfl, rfl, rfl⟩
    case round =>
      obtain ⟨rfl, rfl, rfl⟩ := hrel
      go_wp2
      refine bodyPost_ret (v := .tuple #[.slice none 0 0, .int .i64 0]) (by simp [results, Try.results77, go_sem]) rfl ⟨⟨_, by rw [HE.out], ?_⟩, HB2.out⟩
      rw [HF.out]
      exact Ls.nothing _
  · go_wp2
    go_loopw [7, 9, 10, 22] (fun v9 _ _ i w' => ∃ (j : Nat) (a9 : Option Addr) (c9 : Nat), j ≤ l.length ∧ i = .int .i64 j ∧ v9 = .slice a9 (kpt l 0 d p j).length c9 ∧ OwnL w' wq.heap.size v9 (kpt l 0 d p j) ∧ Below wq.heap.size wq w') (fun _ _ _ i _ => l.length - (intOf i).toNat)
    case atStart => exact ⟨0, _, _, Nat.zero_le _, rfl, by rw [kpt_zero]; rfl, by rw [kpt_zero]; exact OwnL.nothing _ _, Below.refl _ _⟩
    case round =>
      obtain ⟨j, a9, c9, hj, rfl, rfl, hO, hB⟩ := hrel
      have HO : Hid (OwnL wr wq.heap.size (.slice a9 (kpt l 0 d p j).length c9) (kpt l 0 d p j)) := hO
      have HB : Hid (Below wq.heap.size wq wr) := hB
      have hkl : (kpt l 0 d p j).length ≤ 6 := Nat.le_trans (kpt_len _ _ _ _ _) h6
      by_cases hlt : j < l.length
      · have hx := HLq.out.keep hB
        obtain ⟨a', cap', e', _, _, hx⟩ := hx
        rcases hx with hx | ⟨b', o', e2, hb', hc'⟩
        · rw [hx] at hlt; exact absurd hlt (Nat.not_lt_zero _)
        simp only [Value.slice.injEq] at e'
        obtain ⟨rfl, _, rfl⟩ := e'
        simp only [Option.some.injEq, Addr.mk.injEq, and_true] at e2
        obtain ⟨rfl, rfl⟩ := e2
        obtain ⟨g0, g1, g2, g3, g4⟩ := hc' j hlt
        clear hc'
        obtain ⟨y, hy⟩ : ∃ y, y = lth l j := ⟨_, rfl⟩
        have HY : Hid (y = lth l j) := hy
        rw [← hy] at g0 g1 g2 g3 g4
        clear hy
        obtain ⟨c0, c1, c2⟩ := (Blk.keep HK1.out hB).three
        have s2 : w.heap.size < wr.heap.size := Nat.lt_of_lt_of_le s1 hB.size
        have hszq : Hid (wq.heap.size ≤ wr.heap.size) := hB.size
        clear hB hO
        obtain ⟨d1, p1, a1, r1, x1⟩ := y
        simp only at g0 g1 g2 g3 g4
        have hlt1 : (j : Int) < l.length := by omega
        have hg : Hid (goesB 0 d p (d1, p1, a1, r1, x1) = false) := goes0 d p (d1, p1, a1, r1, x1)
        have HK : Hid (kpt l 0 d p (j + 1) = kpt l 0 d p j ++ [(d1, p1, a1, r1, x1)]) := by show _ = _; rw [kpt_kept hlt (by rw [← HY.out]; exact hg.out), ← HY.out]
        generalize hkj : kpt l 0 d p j = kj at *
        go_wp2_with (first | (at_builtin; refine wpList_append_L rfl (.tmp 62) (.tmp 64) rfl wq.heap.size _ _ kj [(d1, p1, a1, r1, x1)] rfl rfl ((HO.out.alloc _).alloc _) (ls_oneAt (by simp) _ _ _ _ _ _) (by simp; omega) (by have := hszq.out; simp; omega) (.inr (by simp)) ?_))
        intro g9 cg9 w9 hown9 _ hbel9 _
        have HN9 : Hid ((kj ++ [(d1, p1, a1, r1, x1)]).length = kj.length + 1) := by show _ = _; simp
        have HO9 : Hid (OwnL w9 wq.heap.size (.slice (some ⟨g9, 0, none⟩) (kj.length + 1) cg9) (kj ++ [(d1, p1, a1, r1, x1)])) := hown9
        have HB9 : Hid (Below wq.heap.size wq w9) := (bel_alloc (bel_alloc HB.out _) _).trans hbel9
        clear hown9 hbel9
        go_wp2
        exact ⟨⟨j + 1, some ⟨g9, 0, none⟩, cg9, by omega, by go_num, by rw [HK.out, HN9.out], by rw [HK.out]; exact HO9.out, HB9.out⟩, by simp [intOf]; omega⟩
      · obtain rfl : j = l.length := by omega
        clear hB hO
        go_wp2
        refine bodyPost_ret (v := .tuple #[.slice a9 (kpt l 0 d p l.length).length c9, .int .i64 0]) (by simp [results, Try.results77, go_sem]) rfl ⟨⟨_, by rw [HE.out], ?_⟩, bel_trans HB2.out HB.out⟩
        rw [HF.out]
        exact OwnL.ls HO.out

set_option maxHeartbeats 1000000 in
theorem dropped_1 (v : Value) (l : List Ln) (d p : Int) (w : World) (h : Ls w v l) (hc : chkC l = 0) :
    Calls Try.prog 77 #[v, .agg #[.int .i64 (1 : Int), .int .i64 d, .int .i64 p]] w fun e w' => (∃ v', e = .returned (.tuple #[v', .int .i64 (drE l (1 : Int))]) ∧ Ls w' v' (drC l (1 : Int) d p)) ∧ Below w.heap.size w w' := by
  have HL : Hid (Ls w v l) := h
  have h6 : l.length ≤ 6 := (chkC_zero.1 hc).1
  obtain ⟨a0, cap, rfl, hl, hm, h⟩ := h
  unfold maxLen at hm
  have HE : Hid (drE l 1 = 0) := (drC_ok (d := d) (p := p) hc (by omega)).1
  have HF : Hid (drC l 1 d p = kpt l 1 d p l.length) := (drC_ok hc (by omega)).2
  have hin : inB (1 : Int) 0 3 = true := by decide
  go_enter Try.func77, Try.ntmps77
  go_wp2_with fail
  refine (checkCache_any _ l _ (HL.out.keep (bel_alloc (Below.refl _ _) _))).mono ?_
  rw [hc]
  rintro e wp0 ⟨rfl, b1⟩
  have K1 := (Blk.new w #[.int .i64 (1 : Int), .int .i64 d, .int .i64 p] 23 (0, 0)).keep b1
  have HB2 : Hid (Below w.heap.size w wp0) := bel_trans (bel_alloc (Below.refl _ _) _) b1
  obtain ⟨c0, c1, c2⟩ := K1.three
  have s1 := K1.lt
  have HK1 : Hid _ := K1
  clear b1 K1
  go_wp2_with fail
  refine (cIn_any _ _ _ _).mono ?_
  rw [hin]
  rintro e wq ⟨rfl, rfl⟩
  have HLq : Hid (Ls wq (.slice a0 l.length cap) l) := HL.out.keep HB2.out
  clear HL c0 c1 c2
  rcases h with rfl | ⟨b, o, rfl, hb, _⟩
  · go_wp2
    go_loopw [7, 9, 10, 22] (fun v9 _ _ i w' => v9 = .slice none 0 0 ∧ i = .int .i64 0 ∧ w' = wq) (fun _ _ _ i _ => 0)
    case atStart => exact ⟨rfl, rfl, rfl⟩
    case round =>
      obtain ⟨rfl, rfl, rfl⟩ := hrel
      go_wp2
      refine bodyPost_ret (v := .tuple #[.slice none 0 0, .int .i64 0]) (by simp [results, Try.results77, go_sem]) rfl ⟨⟨_, by rw [HE.out], ?_⟩, HB2.out⟩
      rw [HF.out]
      exact Ls.nothing _
  · go_wp2
    go_loopw [7, 9, 10, 22] (fun v9 _ _ i w' => ∃ (j : Nat) (a9 : Option Addr) (c9 : Nat), j ≤ l.length ∧ i = .int .i64 j ∧ v9 = .slice a9 (kpt l 1 d p j).length c9 ∧ OwnL w' wq.heap.size v9 (kpt l 1 d p j) ∧ Below wq.heap.size wq w') (fun _ _ _ i _ => l.length - (intOf i).toNat)
    case atStart => exact ⟨0, _, _, Nat.zero_le _, rfl, by rw [kpt_zero]; rfl, by rw [kpt_zero]; exact OwnL.nothing _ _, Below.refl _ _⟩
    case round =>
      obtain ⟨j, a9, c9, hj, rfl, rfl, hO, hB⟩ := hrel
      have HO : Hid (OwnL wr wq.heap.size (.slice a9 (kpt l 1 d p j).length c9) (kpt l 1 d p j)) := hO
      have HB : Hid (Below wq.heap.size wq wr) := hB
      have hkl : (kpt l 1 d p j).length ≤ 6 := Nat.le_trans (kpt_len _ _ _ _ _) h6
      by_cases hlt : j < l.length
      · have hx := HLq.out.keep hB
        obtain ⟨a', cap', e', _, _, hx⟩ := hx
        rcases hx with hx | ⟨b', o', e2, hb', hc'⟩
        · rw [hx] at hlt; exact absurd hlt (Nat.not_lt_zero _)
        simp only [Value.slice.injEq] at e'
        obtain ⟨rfl, _, rfl⟩ := e'
        simp only [Option.some.injEq, Addr.mk.injEq, and_true] at e2
        obtain ⟨rfl, rfl⟩ := e2
        obtain ⟨g0, g1, g2, g3, g4⟩ := hc' j hlt
        clear hc'
        obtain ⟨y, hy⟩ : ∃ y, y = lth l j := ⟨_, rfl⟩
        have HY : Hid (y = lth l j) := hy
        rw [← hy] at g0 g1 g2 g3 g4
        clear hy
        obtain ⟨c0, c1, c2⟩ := (Blk.keep HK1.out hB).three
        have s2 : w.heap.size < wr.heap.size := Nat.lt_of_lt_of_le s1 hB.size
        have hszq : Hid (wq.heap.size ≤ wr.heap.size) := hB.size
        clear hB hO
        obtain ⟨d1, p1, a1, r1, x1⟩ := y
        simp only at g0 g1 g2 g3 g4
        have hlt1 : (j : Int) < l.length := by omega
        have hg : Hid (goesB 1 d p (d1, p1, a1, r1, x1) = true) := goes1 d p (d1, p1, a1, r1, x1)
        have HK : Hid (kpt l 1 d p (j + 1) = kpt l 1 d p j) := kpt_gone hlt (by rw [← HY.out]; exact hg.out)
        go_wp2
        exact ⟨⟨j + 1, _, _, by omega, by go_num, by rw [HK.out], by rw [HK.out]; exact OwnL.alloc HO.out _, bel_alloc HB.out _⟩, by simp [intOf]; omega⟩
      · obtain rfl : j = l.length := by omega
        clear hB hO
        go_wp2
        refine bodyPost_ret (v := .tuple #[.slice a9 (kpt l 1 d p l.length).length c9, .int .i64 0]) (by simp [results, Try.results77, go_sem]) rfl ⟨⟨_, by rw [HE.out], ?_⟩, bel_trans HB2.out HB.out⟩
        rw [HF.out]
        exact OwnL.ls HO.out

set_option maxHeartbeats 1000000 in
theorem dropped_2 (v : Value) (l : List Ln) (d p : Int) (w : World) (h : Ls w v l) (hc : chkC l = 0) :
    Calls Try.prog 77 #[v, .agg #[.int .i64 (2 : Int), .int .i64 d, .int .i64 p]] w fun e w' => (∃ v', e = .returned (.tuple #[v', .int .i64 (drE l (2 : Int))]) ∧ Ls w' v' (drC l (2 : Int) d p)) ∧ Below w.heap.size w w' := by
  have HL : Hid (Ls w v l) := h
  have h6 : l.length ≤ 6 := (chkC_zero.1 hc).1
  obtain ⟨a0, cap, rfl, hl, hm, h⟩ := h
  unfold maxLen at hm
  have HE : Hid (drE l 2 = 0) := (drC_ok (d := d) (p := p) hc (by omega)).1
  have HF : Hid (drC l 2 d p = kpt l 2 d p l.length) := (drC_ok hc (by omega)).2
  have hin : inB (2 : Int) 0 3 = true := by decide
  go_enter Try.func77, Try.ntmps77
  go_wp2_with fail
  refine (checkCache_any _ l _ (HL.out.keep (bel_alloc (Below.refl _ _) _))).mono ?_
  rw [hc]
  rintro e wp0 ⟨rfl, b1⟩
  have K1 := (Blk.new w #[.int .i64 (2 : Int), .int .i64 d, .int .i64 p] 23 (0, 0)).keep b1
  have HB2 : Hid (Below w.heap.size w wp0) := bel_trans (bel_alloc (Below.refl _ _) _) b1
  obtain ⟨c0, c1, c2⟩ := K1.three
  have s1 := K1.lt
  have HK1 : Hid _ := K1
  clear b1 K1
  go_wp2_with fail
  refine (cIn_any _ _ _ _).mono ?_
  rw [hin]
  rintro e wq ⟨rfl, rfl⟩
  have HLq : Hid (Ls wq (.slice a0 l.length cap) l) := HL.out.keep HB2.out
  clear HL c0 c1 c2
  rcases h with rfl | ⟨b, o, rfl, hb, _⟩
  · go_wp2
    go_loopw [7, 9, 10, 22] (fun v9 _ _ i w' => v9 = .slice none 0 0 ∧ i = .int .i64 0 ∧ w' = wq) (fun _ _ _ i _ => 0)
    case atStart => exact ⟨rfl, rfl, rfl⟩
    case round =>
      obtain ⟨rfl, rfl, rfl⟩ := hrel
      go_wp2
      refine bodyPost_ret (v := .tuple #[.slice none 0 0, .int .i64 0]) (by simp [results, Try.results77, go_sem]) rfl ⟨⟨_, by rw [HE.out], ?_⟩, HB2.out⟩
      rw [HF.out]
      exact Ls.nothing _
  · go_wp2
    go_loopw [7, 9, 10, 22] (fun v9 _ _ i w' => ∃ (j : Nat) (a9 : Option Addr) (c9 : Nat), j ≤ l.length ∧ i = .int .i64 j ∧ v9 = .slice a9 (kpt l 2 d p j).length c9 ∧ OwnL w' wq.heap.size v9 (kpt l 2 d p j) ∧ Below wq.heap.size wq w') (fun _ _ _ i _ => l.length - (intOf i).toNat)
    case atStart => exact ⟨0, _, _, Nat.zero_le _, rfl, by rw [kpt_zero]; rfl, by rw [kpt_zero]; exact OwnL.nothing _ _, Below.refl _ _⟩
    case round =>
      obtain ⟨j, a9, c9, hj, rfl, rfl, hO, hB⟩ := hrel
      have HO : Hid (OwnL wr wq.heap.size (.slice a9 (kpt l 2 d p j).length c9) (kpt l 2 d p j)) := hO
      have HB : Hid (Below wq.heap.size wq wr) := hB
      have hkl : (kpt l 2 d p j).length ≤ 6 := Nat.le_trans (kpt_len _ _ _ _ _) h6
      by_cases hlt : j < l.length
      · have hx := HLq.out.keep hB
        obtain ⟨a', cap', e', _, _, hx⟩ := hx
        rcases hx with hx | ⟨b', o', e2, hb', hc'⟩
        · rw [hx] at hlt; exact absurd hlt (Nat.not_lt_zero _)
        simp only [Value.slice.injEq] at e'
        obtain ⟨rfl, _, rfl⟩ := e'
        simp only [Option.some.injEq, Addr.mk.injEq, and_true] at e2
        obtain ⟨rfl, rfl⟩ := e2
        obtain ⟨g0, g1, g2, g3, g4⟩ := hc' j hlt
        clear hc'
        obtain ⟨y, hy⟩ : ∃ y, y = lth l j := ⟨_, rfl⟩
        have HY : Hid (y = lth l j) := hy
        rw [← hy] at g0 g1 g2 g3 g4
        clear hy
        obtain ⟨c0, c1, c2⟩ := (Blk.keep HK1.out hB).three
        have s2 : w.heap.size < wr.heap.size := Nat.lt_of_lt_of_le s1 hB.size
        have hszq : Hid (wq.heap.size ≤ wr.heap.size) := hB.size
        clear hB hO
        obtain ⟨d1, p1, a1, r1, x1⟩ := y
        simp only at g0 g1 g2 g3 g4
        have hlt1 : (j : Int) < l.length := by omega
        by_cases e1 : d1 = d
        · have hg : Hid (goesB 2 d p (d1, p1, a1, r1, x1) = true) := by show _ = _; rw [goes2]; simp [e1]
          have q1 : (d1 == d) = true := by simpa using e1
          clear e1
          have HK : Hid (kpt l 2 d p (j + 1) = kpt l 2 d p j) := kpt_gone hlt (by rw [← HY.out]; exact hg.out)
          go_wp2
          exact ⟨⟨j + 1, _, _, by omega, by go_num, by rw [HK.out], by rw [HK.out]; exact OwnL.alloc HO.out _, bel_alloc HB.out _⟩, by simp [intOf]; omega⟩
        · have hg : Hid (goesB 2 d p (d1, p1, a1, r1, x1) = false) := by show _ = _; rw [goes2]; simp [e1]
          have q1 : (d1 == d) = false := by simpa using e1
          clear e1
          have HK : Hid (kpt l 2 d p (j + 1) = kpt l 2 d p j ++ [(d1, p1, a1, r1, x1)]) := by show _ = _; rw [kpt_kept hlt (by rw [← HY.out]; exact hg.out), ← HY.out]
          generalize hkj : kpt l 2 d p j = kj at *
          go_wp2_with (first | (at_builtin; refine wpList_append_L rfl (.tmp 62) (.tmp 64) rfl wq.heap.size _ _ kj [(d1, p1, a1, r1, x1)] rfl rfl ((HO.out.alloc _).alloc _) (ls_oneAt (by simp) _ _ _ _ _ _) (by simp; omega) (by have := hszq.out; simp; omega) (.inr (by simp)) ?_))
          intro g9 cg9 w9 hown9 _ hbel9 _
          have HN9 : Hid ((kj ++ [(d1, p1, a1, r1, x1)]).length = kj.length + 1) := by show _ = _; simp
          have HO9 : Hid (OwnL w9 wq.heap.size (.slice (some ⟨g9, 0, none⟩) (kj.length + 1) cg9) (kj ++ [(d1, p1, a1, r1, x1)])) := hown9
          have HB9 : Hid (Below wq.heap.size wq w9) := (bel_alloc (bel_alloc HB.out _) _).trans hbel9
          clear hown9 hbel9
          go_wp2
          exact ⟨⟨j + 1, some ⟨g9, 0, none⟩, cg9, by omega, by go_num, by rw [HK.out, HN9.out], by rw [HK.out]; exact HO9.out, HB9.out⟩, by simp [intOf]; omega⟩
      · obtain rfl : j = l.length := by omega
        clear hB hO
        go_wp2
        refine bodyPost_ret (v := .tuple #[.slice a9 (kpt l 2 d p l.length).length c9, .int .i64 0]) (by simp [results, Try.results77, go_sem]) rfl ⟨⟨_, by rw [HE.out], ?_⟩, bel_trans HB2.out HB.out⟩
        rw [HF.out]
        exact OwnL.ls HO.out

set_option maxHeartbeats 1000000 in
theorem dropped_3 (v : Value) (l : List Ln) (d p : Int) (w : World) (h : Ls w v l) (hc : chkC l = 0) :
    Calls Try.prog 77 #[v, .agg #[.int .i64 (3 : Int), .int .i64 d, .int .i64 p]] w fun e w' => (∃ v', e = .returned (.tuple #[v', .int .i64 (drE l (3 : Int))]) ∧ Ls w' v' (drC l (3 : Int) d p)) ∧ Below w.heap.size w w' := by
  have HL : Hid (Ls w v l) := h
  have h6 : l.length ≤ 6 := (chkC_zero.1 hc).1
  obtain ⟨a0, cap, rfl, hl, hm, h⟩ := h
  unfold maxLen at hm
  have HE : Hid (drE l 3 = 0) := (drC_ok (d := d) (p := p) hc (by omega)).1
  have HF : Hid (drC l 3 d p = kpt l 3 d p l.length) := (drC_ok hc (by omega)).2
  have hin : inB (3 : Int) 0 3 = true := by decide
  go_enter Try.func77, Try.ntmps77
  go_wp2_with fail
  refine (checkCache_any _ l _ (HL.out.keep (bel_alloc (Below.refl _ _) _))).mono ?_
  rw [hc]
  rintro e wp0 ⟨rfl, b1⟩
  have K1 := (Blk.new w #[.int .i64 (3 : Int), .int .i64 d, .int .i64 p] 23 (0, 0)).keep b1
  have HB2 : Hid (Below w.heap.size w wp0) := bel_trans (bel_alloc (Below.refl _ _) _) b1
  obtain ⟨c0, c1, c2⟩ := K1.three
  have s1 := K1.lt
  have HK1 : Hid _ := K1
  clear b1 K1
  go_wp2_with fail
  refine (cIn_any _ _ _ _).mono ?_
  rw [hin]
  rintro e wq ⟨rfl, rfl⟩
  have HLq : Hid (Ls wq (.slice a0 l.length cap) l) := HL.out.keep HB2.out
  clear HL c0 c1 c2
  rcases h with rfl | ⟨b, o, rfl, hb, _⟩
  · go_wp2
    go_loopw [7, 9, 10, 22] (fun v9 _ _ i w' => v9 = .slice none 0 0 ∧ i = .int .i64 0 ∧ w' = wq) (fun _ _ _ i _ => 0)
    case atStart => exact ⟨rfl, rfl, rfl⟩
    case round =>
      obtain ⟨rfl, rfl, rfl⟩ := hrel
      go_wp2
      refine bodyPost_ret (v := .tuple #[.slice none 0 0, .int .i64 0]) (by simp [results, Try.results77, go_sem]) rfl ⟨⟨_, by rw [HE.out], ?_⟩, HB2.out⟩
      rw [HF.out]
      exact Ls.nothing _
  · go_wp2
    go_loopw [7, 9, 10, 22] (fun v9 _ _ i w' => ∃ (j : Nat) (a9 : Option Addr) (c9 : Nat), j ≤ l.length ∧ i = .int .i64 j ∧ v9 = .slice a9 (kpt l 3 d p j).length c9 ∧ OwnL w' wq.heap.size v9 (kpt l 3 d p j) ∧ Below wq.heap.size wq w') (fun _ _ _ i _ => l.length - (intOf i).toNat)
    case atStart => exact ⟨0, _, _, Nat.zero_le _, rfl, by rw [kpt_zero]; rfl, by rw [kpt_zero]; exact OwnL.nothing _ _, Below.refl _ _⟩
    case round =>
      obtain ⟨j, a9, c9, hj, rfl, rfl, hO, hB⟩ := hrel
      have HO : Hid (OwnL wr wq.heap.size (.slice a9 (kpt l 3 d p j).length c9) (kpt l 3 d p j)) := hO
      have HB : Hid (Below wq.heap.size wq wr) := hB
      have hkl : (kpt l 3 d p j).length ≤ 6 := Nat.le_trans (kpt_len _ _ _ _ _) h6
      by_cases hlt : j < l.length
      · have hx := HLq.out.keep hB
        obtain ⟨a', cap', e', _, _, hx⟩ := hx
        rcases hx with hx | ⟨b', o', e2, hb', hc'⟩
        · rw [hx] at hlt; exact absurd hlt (Nat.not_lt_zero _)
        simp only [Value.slice.injEq] at e'
        obtain ⟨rfl, _, rfl⟩ := e'
        simp only [Option.some.injEq, Addr.mk.injEq, and_true] at e2
        obtain ⟨rfl, rfl⟩ := e2
        obtain ⟨g0, g1, g2, g3, g4⟩ := hc' j hlt
        clear hc'
        obtain ⟨y, hy⟩ : ∃ y, y = lth l j := ⟨_, rfl⟩
        have HY : Hid (y = lth l j) := hy
        rw [← hy] at g0 g1 g2 g3 g4
        clear hy
        obtain ⟨c0, c1, c2⟩ := (Blk.keep HK1.out hB).three
        have s2 : w.heap.size < wr.heap.size := Nat.lt_of_lt_of_le s1 hB.size
        have hszq : Hid (wq.heap.size ≤ wr.heap.size) := hB.size
        clear hB hO
        obtain ⟨d1, p1, a1, r1, x1⟩ := y
        simp only at g0 g1 g2 g3 g4
        have hlt1 : (j : Int) < l.length := by omega
        by_cases e1 : d1 = d
        · by_cases e2 : p1 = p
          · have hg : Hid (goesB 3 d p (d1, p1, a1, r1, x1) = true) := by show _ = _; rw [goes3]; simp [hasB, e1, e2]
            have q1 : (d1 == d) = true := by simpa using e1
            have q2 : (p1 == p) = true := by simpa using e2
            clear e1 e2
            have HK : Hid (kpt l 3 d p (j + 1) = kpt l 3 d p j) := kpt_gone hlt (by rw [← HY.out]; exact hg.out)
            go_wp2
            exact ⟨⟨j + 1, _, _, by omega, by go_num, by rw [HK.out], by rw [HK.out]; exact OwnL.alloc HO.out _, bel_alloc HB.out _⟩, by simp [intOf]; omega⟩
          · have hg : Hid (goesB 3 d p (d1, p1, a1, r1, x1) = false) := by show _ = _; rw [goes3]; simp [hasB, e2]
            have q1 : (d1 == d) = true := by simpa using e1
            have q2 : (p1 == p) = false := by simpa using e2
            clear e1 e2
            have HK : Hid (kpt l 3 d p (j + 1) = kpt l 3 d p j ++ [(d1, p1, a1, r1, x1)]) := by show _ = _; rw [kpt_kept hlt (by rw [← HY.out]; exact hg.out), ← HY.out]
            generalize hkj : kpt l 3 d p j = kj at *
            go_wp2_with (first | (at_builtin; refine wpList_append_L rfl (.tmp 62) (.tmp 64) rfl wq.heap.size _ _ kj [(d1, p1, a1, r1, x1)] rfl rfl ((HO.out.alloc _).alloc _) (ls_oneAt (by simp) _ _ _ _ _ _) (by simp; omega) (by have := hszq.out; simp; omega) (.inr (by simp)) ?_))
            intro g9 cg9 w9 hown9 _ hbel9 _
            have HN9 : Hid ((kj ++ [(d1, p1, a1, r1, x1)]).length = kj.length + 1) := by show _ = _; simp
            have HO9 : Hid (OwnL w9 wq.heap.size (.slice (some ⟨g9, 0, none⟩) (kj.length + 1) cg9) (kj ++ [(d1, p1, a1, r1, x1)])) := hown9
            have HB9 : Hid (Below wq.heap.size wq w9) := (bel_alloc (bel_alloc HB.out _) _).trans hbel9
            clear hown9 hbel9
            go_wp2
            exact ⟨⟨j + 1, some ⟨g9, 0, none⟩, cg9, by omega, by go_num, by rw [HK.out, HN9.out], by rw [HK.out]; exact HO9.out, HB9.out⟩, by simp [intOf]; omega⟩
        · have hg : Hid (goesB 3 d p (d1, p1, a1, r1, x1) = false) := by show _ = _; rw [goes3]; simp [hasB, e1]
          have q1 : (d1 == d) = false := by simpa using e1
          clear e1
          have HK : Hid (kpt l 3 d p (j + 1) = kpt l 3 d p j ++ [(d1, p1, a1, r1, x1)]) := by show _ = _; rw [kpt_kept hlt (by rw [← HY.out]; exact hg.out), ← HY.out]
          generalize hkj : kpt l 3 d p j = kj at *
          go_wp2_with (first | (at_builtin; refine wpList_append_L rfl (.tmp 62) (.tmp 64) rfl wq.heap.size _ _ kj [(d1, p1, a1, r1, x1)] rfl rfl ((HO.out.alloc _).alloc _) (ls_oneAt (by simp) _ _ _ _ _ _) (by simp; omega) (by have := hszq.out; simp; omega) (.inr (by simp)) ?_))
          intro g9 cg9 w9 hown9 _ hbel9 _
          have HN9 : Hid ((kj ++ [(d1, p1, a1, r1, x1)]).length = kj.length + 1) := by show _ = _; simp
          have HO9 : Hid (OwnL w9 wq.heap.size (.slice (some ⟨g9, 0, none⟩) (kj.length + 1) cg9) (kj ++ [(d1, p1, a1, r1, x1)])) := hown9
          have HB9 : Hid (Below wq.heap.size wq w9) := (bel_alloc (bel_alloc HB.out _) _).trans hbel9
          clear hown9 hbel9
          go_wp2
          exact ⟨⟨j + 1, some ⟨g9, 0, none⟩, cg9, by omega, by go_num, by rw [HK.out, HN9.out], by rw [HK.out]; exact HO9.out, HB9.out⟩, by simp [intOf]; omega⟩
      · obtain rfl : j = l.length := by omega
        clear hB hO
        go_wp2
        refine bodyPost_ret (v := .tuple #[.slice a9 (kpt l 3 d p l.length).length c9, .int .i64 0]) (by simp [results, Try.results77, go_sem]) rfl ⟨⟨_, by rw [HE.out], ?_⟩, bel_trans HB2.out HB.out⟩
        rw [HF.out]
        exact OwnL.ls HO.out

/-- What Dropped answers, whatever it is handed. -/
theorem dropped_any (v : Value) (l : List Ln) (k d p : Int) (w : World) (h : Ls w v l) :
    Calls Try.prog 77 #[v, .agg #[.int .i64 k, .int .i64 d, .int .i64 p]] w fun e w' => (∃ v', e = .returned (.tuple #[v', .int .i64 (drE l k)]) ∧ Ls w' v' (drC l k d p)) ∧ Below w.heap.size w w' := by
  by_cases hc : chkC l = 0
  · by_cases hk : 0 ≤ k ∧ k ≤ 3
    · have : k = 0 ∨ k = 1 ∨ k = 2 ∨ k = 3 := by omega
      rcases this with rfl | rfl | rfl | rfl
      · exact dropped_0 v l d p w h hc
      · exact dropped_1 v l d p w h hc
      · exact dropped_2 v l d p w h hc
      · exact dropped_3 v l d p w h hc
    · exact dropped_bad v l k d p w h hc hk
  · exact dropped_err v l k d p w h hc
end Go.Proofs.Ytefcdcneenjbgab
/-
  slices.Equal on two slices of lines answers whether they read as one list, whatever they are; it only reads.
-/
namespace Go.Proofs.Ytefcdcneenjbgab
open Go.RowKit

theorem lines_ext {xs ys : List Ln} (hl : xs.length = ys.length) (h : ∀ i, i < xs.length → lth xs i = lth ys i) : xs = ys := by
  apply List.ext_getElem hl
  intro i h1 h2
  have := h i h1
  rwa [lth_get h1, lth_get h2] at this
theorem lines_ne {xs ys : List Ln} {i : Nat} (h : ¬ lth xs i = lth ys i) : ¬ xs = ys := fun e => h (by rw [e])
/-- Where two lines part first. -/
theorem line_diff {a b c : Int} {d e : Bool} {a' b' c' : Int} {d' e' : Bool} (h : ¬ (a, b, c, d, e) = (a', b', c', d', e')) :
    ¬ a = a' ∨ (a = a' ∧ ¬ b = b') ∨ (a = a' ∧ b = b' ∧ ¬ c = c') ∨ (a = a' ∧ b = b' ∧ c = c' ∧ ¬ d = d') ∨ (a = a' ∧ b = b' ∧ c = c' ∧ d = d' ∧ ¬ e = e') := by
  simp only [Prod.mk.injEq] at h
  by_cases h1 : a = a'
  · by_cases h2 : b = b'
    · by_cases h3 : c = c'
      · by_cases h4 : d = d'
        · by_cases h5 : e = e'
          · exact absurd ⟨h1, h2, h3, h4, h5⟩ h
          · exact .inr (.inr (.inr (.inr ⟨h1, h2, h3, h4, h5⟩)))
        · exact .inr (.inr (.inr (.inl ⟨h1, h2, h3, h4⟩)))
      · exact .inr (.inr (.inl ⟨h1, h2, h3⟩))
    · exact .inr (.inl ⟨h1, h2⟩)
  · exact .inl h1

set_option maxHeartbeats 1000000 in
theorem equalL_any (v1 v2 : Value) (xs ys : List Ln) (w : World) (h1 : Ls w v1 xs) (h2 : Ls w v2 ys) :
    Calls Try.prog 42 #[v1, v2] w fun e w' => e = .returned (.bool (decide (xs = ys))) ∧ ∃ n, w' = w.drewN n := by
  obtain ⟨a1, c1, rfl, n1, l1, h1⟩ := h1
  obtain ⟨a2, c2, rfl, n2, l2, h2⟩ := h2
  unfold maxLen at l1 l2
  by_cases hl : xs.length = ys.length
  · have hne : ((xs.length : Int) != (ys.length : Int)) = false := by simp [hl]
    rcases h1 with rfl | ⟨b1, o1, rfl, hb1, hc1⟩
    · obtain rfl : ys = [] := List.eq_nil_of_length_eq_zero hl.symm
      go_enter Try.func42, Try.ntmps42
      go_wp2
      go_loopw [5, 13] (fun _ i w' => i = .int .i64 0 ∧ w' = w) (fun _ i _ => 0)
      case atStart => exact ⟨rfl, rfl⟩
      case round =>
        obtain ⟨rfl, rfl⟩ := hrel
        go_wp2
        go_ret
        exact ⟨rfl, 0, rfl⟩
    · rcases h2 with rfl | ⟨b2, o2, rfl, hb2, hc2⟩
      · obtain rfl : xs = [] := List.eq_nil_of_length_eq_zero hl
        go_enter Try.func42, Try.ntmps42
        go_wp2
        go_loopw [5, 13] (fun _ i w' => i = .int .i64 0 ∧ w' = w) (fun _ i _ => 0)
        case atStart => exact ⟨rfl, rfl⟩
        case round =>
          obtain ⟨rfl, rfl⟩ := hrel
          go_wp2
          go_ret
          exact ⟨rfl, 0, rfl⟩
      have Hl : Hid (xs.length = ys.length) := hl
      have hle : (xs.length : Int) ≤ ys.length := by omega
      have H1 := hc1
      have H2 := hc2
      clear hl hc1 hc2
      have HC1 : Hid _ := H1
      have HC2 : Hid _ := H2
      clear H1 H2
      go_enter Try.func42, Try.ntmps42
      go_wp2
      go_loopw [5, 13] (fun _ i w' => ∃ k : Nat, k ≤ xs.length ∧ i = .int .i64 k ∧ (∀ j, j < k → lth xs j = lth ys j) ∧ ∃ n, w' = w.drewN n) (fun _ i _ => xs.length - (intOf i).toNat)
      case atStart => exact ⟨0, Nat.zero_le _, rfl, fun j hj => absurd hj (Nat.not_lt_zero _), 0, rfl⟩
      case round =>
        obtain ⟨k, hk, rfl, hpre, n, rfl⟩ := hrel
        have HP : Hid (∀ j, j < k → lth xs j = lth ys j) := hpre
        clear hpre
        by_cases hlt : k < xs.length
        · obtain ⟨g0, g1, g2, g3, g4⟩ := HC1.out k hlt
          obtain ⟨f0, f1, f2, f3, f4⟩ := HC2.out k (by have := Hl.out; omega)
          have hlt1 : (k : Int) < xs.length := by omega
          have hlt2 : (k : Int) < ys.length := by omega
          obtain ⟨y, hy⟩ : ∃ y, y = lth xs k := ⟨_, rfl⟩
          obtain ⟨z, hz⟩ : ∃ z, z = lth ys k := ⟨_, rfl⟩
          have HY : Hid (y = lth xs k) := hy
          have HZ : Hid (z = lth ys k) := hz
          rw [← hy] at g0 g1 g2 g3 g4
          rw [← hz] at f0 f1 f2 f3 f4
          clear hy hz
          obtain ⟨d1, p1, a1, r1, x1⟩ := y
          obtain ⟨d2, p2, a2, r2, x2⟩ := z
          simp only at g0 g1 g2 g3 g4 f0 f1 f2 f3 f4
          by_cases hq : (d1, p1, a1, r1, x1) = ((d2, p2, a2, r2, x2) : Ln)
          · have HQ : Hid (lth xs k = lth ys k) := by show _ = _; rw [← HY.out, ← HZ.out]; exact hq
            simp only [Prod.mk.injEq] at hq
            obtain ⟨rfl, rfl, rfl, rfl, rfl⟩ := hq
            go_wp2
            go_quiet (fail)
            go_wp2
            exact ⟨⟨k + 1, by omega, by go_num, upto_next HP.out HQ.out, _, rfl⟩, by simp [intOf]; omega⟩
          · have HN : Hid (decide (xs = ys) = false) := decide_eq_false (lines_ne (i := k) (by rw [← HY.out, ← HZ.out]; exact hq))
            rcases line_diff hq with e1 | ⟨rfl, e1⟩ | ⟨rfl, rfl, e1⟩ | ⟨rfl, rfl, rfl, e1⟩ | ⟨rfl, rfl, rfl, rfl, e1⟩
            all_goals
              clear hq
              go_wp2
              go_quiet (fail)
              go_wp2
              go_ret
              exact ⟨ret_bool HN.out.symm, n + nq, World.drewN_drewN _ _ _⟩
        · have HD : Hid (decide (xs = ys) = true) := decide_eq_true (lines_ext Hl.out fun i hi => HP.out i (by omega))
          go_wp2
          go_ret
          exact ⟨ret_bool HD.out.symm, _, rfl⟩
  · have hne : ((xs.length : Int) != (ys.length : Int)) = true := by simp; omega
    have hd : decide (xs = ys) = false := by simp; intro e; exact hl (by rw [e])
    rw [hd]
    go_enter Try.func42, Try.ntmps42
    go_wp2
    go_ret
    exact ⟨rfl, 0, rfl⟩
end Go.Proofs.Ytefcdcneenjbgab
/-
  drawbridgelaw.CacheSays returns true at whatever lines, line, order, device and page; nothing that was there turns.
-/
namespace Go.Proofs.Ytefcdcneenjbgab
open Go.RowKit

theorem filled_at {v : Value} {l : List Ln} {d p a : Int} {r x : Bool} {w : World} (h : Ls w v l) :
    Calls Try.prog 72 #[v, .agg #[.int .i64 d, .int .i64 p, .int .i64 a, .bool r, .bool x]] w fun e w' => ∃ b cap, e = .returned (.tuple #[.slice b (flC l (d, p, a, r, x)).length cap, .int .i64 (flE l (d, p, a, r, x))]) ∧ Ls w' (.slice b (flC l (d, p, a, r, x)).length cap) (flC l (d, p, a, r, x)) ∧ Below w.heap.size w w' := by
  refine (filled_any v l d p a r x w h).mono ?_
  rintro e w' ⟨⟨v', rfl, hs, -⟩, hb⟩
  obtain ⟨b, cap, rfl, hs'⟩ := hs.shape
  exact ⟨b, cap, rfl, hs', hb⟩
theorem dropped_at {v : Value} {l : List Ln} {k d p : Int} {w : World} (h : Ls w v l) :
    Calls Try.prog 77 #[v, .agg #[.int .i64 k, .int .i64 d, .int .i64 p]] w fun e w' => ∃ b cap, e = .returned (.tuple #[.slice b (drC l k d p).length cap, .int .i64 (drE l k)]) ∧ Ls w' (.slice b (drC l k d p).length cap) (drC l k d p) ∧ Below w.heap.size w w' := by
  refine (dropped_any v l k d p w h).mono ?_
  rintro e w' ⟨⟨v', rfl, hs⟩, hb⟩
  obtain ⟨b, cap, rfl, hs'⟩ := hs.shape
  exact ⟨b, cap, rfl, hs', hb⟩

end Go.Proofs.Ytefcdcneenjbgab
/-
  drawbridgeref's GoesTo: what it answers, of right things; nothing that was there turns.
-/
namespace Go.Proofs.Ytefcdcneenjbgab
open Go.RowKit

theorem filled_at2 {v : Value} {l : List Ln} {d p a : Int} {r x : Bool} {w : World} (h : Ls w v l) {e0 : Int} {c : List Ln} (hE : flE l (d, p, a, r, x) = e0) (hC : flC l (d, p, a, r, x) = c) :
    Calls Try.prog 72 #[v, .agg #[.int .i64 d, .int .i64 p, .int .i64 a, .bool r, .bool x]] w fun e w' => ∃ b cap, e = .returned (.tuple #[.slice b c.length cap, .int .i64 e0]) ∧ Ls w' (.slice b c.length cap) c ∧ Below w.heap.size w w' ∧ Fresh w.heap.size (.slice b c.length cap) := by
  subst hE hC
  refine (filled_any v l d p a r x w h).mono ?_
  rintro e w' ⟨⟨v', rfl, hs, hn⟩, hb⟩
  obtain ⟨b, cap, rfl, hs'⟩ := hs.shape
  exact ⟨b, cap, rfl, hs', hb, hn⟩

set_option maxHeartbeats 8000000 in
theorem goesTo_anyF (v : Value) (zs : List Int) (mo ba op oh ot fe fp fh ft : Int) (st lo : Bool) (vc : Value) (l : List Ln) (d p : Int) (wt : Bool) (w : World) (hs : Sl w v zs) (h : Ls w vc l) (hE : thE zs ⟨mo, ba, l, op, oh, ot, st, fe, fp, fh, ft, lo⟩ d p = 0) :
    Calls Try.prog 32 #[.agg #[v], .agg #[.int .i64 mo, .int .i64 ba, vc, .int .i64 op, .int .i64 oh, .int .i64 ot, .bool st, .int .i64 fe, .int .i64 fp, .int .i64 fh, .int .i64 ft, .bool lo], .int .i64 d, .int .i64 p, .bool wt] w fun e w' =>
      ∃ vc1 l1 k f, e = .returned (.tuple #[.agg #[.int .i64 mo, .int .i64 ba, vc1, .int .i64 op, .int .i64 oh, .int .i64 ot, .bool st, .int .i64 fe, .int .i64 fp, .int .i64 fh, .int .i64 ft, .bool lo], .int .i64 k, .int .i64 f]) ∧ goT zs ⟨mo, ba, l, op, oh, ot, st, fe, fp, fh, ft, lo⟩ d p wt = (⟨mo, ba, l1, op, oh, ot, st, fe, fp, fh, ft, lo⟩, k, f) ∧ Ls w' vc1 l1 ∧ Below w.heap.size w w' ∧ (vc1 = vc ∨ Fresh w.heap.size vc1) := by
  obtain ⟨hk, hb, hd, hp⟩ := thE_ok hE
  obtain ⟨hmo, hba, _, hc, _, _⟩ := chkB_ok hb
  dsimp only at hmo hba hc
  have HS : Hid (Ls w vc l) := h
  obtain ⟨va, vk, rfl, -⟩ := h.shape
  have HM : Hid (Sl w v zs) := hs
  obtain ⟨b, o, cap, rfl, hbb, hcs⟩ := hs.open512 (chk_ok hk).1
  have HC : Hid (chkC l = 0) := hc
  have HK : Hid (chk zs = 0) := hk
  have HP : Hid (0 ≤ p ∧ p ≤ 63) := hp
  have HD : Hid (0 ≤ d ∧ d ≤ 7) := hd
  have HB : Hid (0 ≤ ba ∧ ba ≤ 63) := hba
  have HCS : Hid (∀ i, i < 512 → w.cell? ⟨b, o + i, none⟩ = some (.int .i64 (nth zs i))) := hcs
  have hl6 : l.length ≤ 6 := chkC_len hc
  clear h hs hcs hk hc hp hd hba hE hb
  by_cases hm0 : mo = 0
  · subst hm0
    have HT : Hid (goT zs ⟨0, ba, l, op, oh, ot, st, fe, fp, fh, ft, lo⟩ d p wt = (⟨0, ba, l, op, oh, ot, st, fe, fp, fh, ft, lo⟩, 0, 1)) := rfl
    have B1 : Hid (Below w.heap.size w w) := Below.refl _ _
    go_enter Try.func32, Try.ntmps32
    go_wp2
    refine bodyPost_ret (v := .tuple #[.agg #[.int .i64 0, .int .i64 ba, .slice va l.length vk, .int .i64 op, .int .i64 oh, .int .i64 ot, .bool st, .int .i64 fe, .int .i64 fp, .int .i64 fh, .int .i64 ft, .bool lo], .int .i64 0, .int .i64 1]) (by simp [results, Try.results32, go_sem, *]) rfl ⟨_, _, _, _, rfl, HT.out, HS.out.keep ?_, ?_, .inl rfl⟩
    all_goals (repeat (first | with_reducible exact B1.out | with_reducible refine Below.drew ?_ | with_reducible refine bel_alloc ?_ _ | (with_reducible refine bel_set12 ?_ ?_ _ _ _ _ _ _ _ _ _ _ _ _; (focus omega))))
  by_cases hm1 : mo = 1
  · subst hm1
    have HT : Hid (goT zs ⟨1, ba, l, op, oh, ot, st, fe, fp, fh, ft, lo⟩ d p wt = (⟨1, ba, l, op, oh, ot, st, fe, fp, fh, ft, lo⟩, p, 0)) := rfl
    have B1 : Hid (Below w.heap.size w w) := Below.refl _ _
    clear hm0
    go_enter Try.func32, Try.ntmps32
    go_wp2
    refine bodyPost_ret (v := .tuple #[.agg #[.int .i64 1, .int .i64 ba, .slice va l.length vk, .int .i64 op, .int .i64 oh, .int .i64 ot, .bool st, .int .i64 fe, .int .i64 fp, .int .i64 fh, .int .i64 ft, .bool lo], .int .i64 p, .int .i64 0]) (by simp [results, Try.results32, go_sem, *]) rfl ⟨_, _, _, _, rfl, HT.out, HS.out.keep ?_, ?_, .inl rfl⟩
    all_goals (repeat (first | with_reducible exact B1.out | with_reducible refine Below.drew ?_ | with_reducible refine bel_alloc ?_ _ | (with_reducible refine bel_set12 ?_ ?_ _ _ _ _ _ _ _ _ _ _ _ _; (focus omega))))
  have hm2 : mo = 2 := by omega
  subst hm2
  have HG : Hid (∀ X, goT zs ⟨2, ba, l, op, oh, ot, st, fe, fp, fh, ft, lo⟩ d p wt = X ↔ (if 0 ≤ fndC l d p then (if (wt && !(lineC l d p).2.2.2.2) = true then (⟨2, ba, l, op, oh, ot, st, fe, fp, fh, ft, lo⟩, 0, 5) else (⟨2, ba, l, op, oh, ot, st, fe, fp, fh, ft, lo⟩, (lineC l d p).2.2.1, 0)) else byT zs ⟨2, ba, l, op, oh, ot, st, fe, fp, fh, ft, lo⟩ d p wt) = X) := fun X => Iff.rfl
  clear hm0 hm1 hmo
  go_enter Try.func32, Try.ntmps32
  go_wp2
  go_loopw [14, 32] (fun _ i wx => ∃ k : Nat, k ≤ l.length ∧ i = .int .i64 k ∧ (∀ j, j < k → hasB d p (lth l j) = false) ∧ Box wx w.heap.size 39 #[.slice (some ⟨b, o, none⟩) 512 cap] ∧ Box wx (w.heap.size + 1) 44 #[.int .i64 2, .int .i64 ba, .slice va l.length vk, .int .i64 op, .int .i64 oh, .int .i64 ot, .bool st, .int .i64 fe, .int .i64 fp, .int .i64 fh, .int .i64 ft, .bool lo] ∧ Box wx (w.heap.size + 1 + 1) 44 #[.int .i64 0, .int .i64 0, .slice none 0 0, .int .i64 0, .int .i64 0, .int .i64 0, .bool false, .int .i64 0, .int .i64 0, .int .i64 0, .int .i64 0, .bool false] ∧ Below w.heap.size w wx) (fun _ i _ => l.length - (intOf i).toNat)
  case atStart =>
    refine ⟨0, Nat.zero_le _, rfl, fun j hj => absurd hj (Nat.not_lt_zero _), ?_, ?_, ?_, bel_alloc (bel_alloc (bel_alloc (Below.refl _ _) _) _) _⟩
    · exact ((Box.newAt (n := w.heap.size) rfl 39 #[.slice (some ⟨b, o, none⟩) 512 cap]).past _).past _
    · exact (Box.newAt (n := w.heap.size + 1) (by simp) 44 #[.int .i64 2, .int .i64 ba, .slice va l.length vk, .int .i64 op, .int .i64 oh, .int .i64 ot, .bool st, .int .i64 fe, .int .i64 fp, .int .i64 fh, .int .i64 ft, .bool lo]).past _
    · exact Box.newAt (n := w.heap.size + 1 + 1) (by simp) 44 #[.int .i64 0, .int .i64 0, .slice none 0 0, .int .i64 0, .int .i64 0, .int .i64 0, .bool false, .int .i64 0, .int .i64 0, .int .i64 0, .int .i64 0, .bool false]
  case round =>
    obtain ⟨k, hk, rfl, hpre, X0, X1, X2, hB⟩ := hrel
    have HPR : Hid _ := hpre
    have B1 : Hid (Below w.heap.size w wr) := hB
    clear hpre
    obtain ⟨⟨q0, q1, q2, q3, q4, q5, q6, q7, q8, q9, q10, q11⟩, s1⟩ := X1.twelve
    obtain ⟨⟨u0, u1, u2, u3, u4, u5, u6, u7, u8, u9, u10, u11⟩, s2⟩ := X2.twelve
    obtain ⟨y0, y1, y2, y3, y4, y5, y6, y7, y8, y9, y10, y11⟩ := X2.marks
    by_cases hlt : k < l.length
    · obtain ⟨lb, lo', lk, he, hlb, hat⟩ := (HS.out.keep hB).at hlt
      simp only [Value.slice.injEq, true_and] at he
      obtain ⟨rfl, rfl⟩ := he
      obtain ⟨g0, g1, g2, g3, g4⟩ := hat
      obtain ⟨y, hy⟩ : ∃ y, y = lth l k := ⟨_, rfl⟩
      have HY : Hid _ := hy
      rw [← hy] at g0 g1 g2 g3 g4
      clear hy hB
      obtain ⟨d1, p1, a1, r1, x1⟩ := y
      simp only at g0 g1 g2 g3 g4
      have hlt1 : (k : Int) < l.length := by omega
      by_cases e1 : d1 = d
      · by_cases e2 : p1 = p
        · subst e1 e2
          have hF : fndC l d1 p1 = k := fndC_at hlt (by rw [← HY.out]; simp [hasB]) HPR.out
          have hL : lineC l d1 p1 = (d1, p1, a1, r1, x1) := by rw [lineC, hF, Int.toNat_natCast]; exact HY.out.symm
          have HT0 : Hid (∀ X, goT zs ⟨2, ba, l, op, oh, ot, st, fe, fp, fh, ft, lo⟩ d1 p1 wt = X ↔ (if (wt && !x1) = true then (⟨2, ba, l, op, oh, ot, st, fe, fp, fh, ft, lo⟩, 0, 5) else (⟨2, ba, l, op, oh, ot, st, fe, fp, fh, ft, lo⟩, a1, 0)) = X) := fun X => by
            rw [HG.out, if_pos (by rw [hF]; omega), hL]
          clear hF hL
          cases wt
          · have HT : Hid (goT zs ⟨2, ba, l, op, oh, ot, st, fe, fp, fh, ft, lo⟩ d1 p1 false = (⟨2, ba, l, op, oh, ot, st, fe, fp, fh, ft, lo⟩, a1, 0)) := (HT0.out _).2 rfl
            go_wp2
            go_region
            go_wp2
            refine bodyPost_ret (v := .tuple #[.agg #[.int .i64 2, .int .i64 ba, .slice (some ⟨lb, lo', none⟩) l.length vk, .int .i64 op, .int .i64 oh, .int .i64 ot, .bool st, .int .i64 fe, .int .i64 fp, .int .i64 fh, .int .i64 ft, .bool lo], .int .i64 a1, .int .i64 0]) (by simp [results, Try.results32, go_sem, *]) rfl ⟨_, _, _, _, rfl, HT.out, HS.out.keep ?_, ?_, .inl rfl⟩
            all_goals (repeat (first | with_reducible exact B1.out | with_reducible refine Below.drew ?_ | with_reducible refine bel_alloc ?_ _ | (with_reducible refine bel_set12 ?_ ?_ _ _ _ _ _ _ _ _ _ _ _ _; (focus omega))))
          · cases x1
            · have HT : Hid (goT zs ⟨2, ba, l, op, oh, ot, st, fe, fp, fh, ft, lo⟩ d1 p1 true = (⟨2, ba, l, op, oh, ot, st, fe, fp, fh, ft, lo⟩, 0, 5)) := (HT0.out _).2 rfl
              go_wp2
              refine bodyPost_ret (v := .tuple #[.agg #[.int .i64 2, .int .i64 ba, .slice (some ⟨lb, lo', none⟩) l.length vk, .int .i64 op, .int .i64 oh, .int .i64 ot, .bool st, .int .i64 fe, .int .i64 fp, .int .i64 fh, .int .i64 ft, .bool lo], .int .i64 0, .int .i64 5]) (by simp [results, Try.results32, go_sem, *]) rfl ⟨_, _, _, _, rfl, HT.out, HS.out.keep ?_, ?_, .inl rfl⟩
              all_goals (repeat (first | with_reducible exact B1.out | with_reducible refine Below.drew ?_ | with_reducible refine bel_alloc ?_ _ | (with_reducible refine bel_set12 ?_ ?_ _ _ _ _ _ _ _ _ _ _ _ _; (focus omega))))
            · have HT : Hid (goT zs ⟨2, ba, l, op, oh, ot, st, fe, fp, fh, ft, lo⟩ d1 p1 true = (⟨2, ba, l, op, oh, ot, st, fe, fp, fh, ft, lo⟩, a1, 0)) := (HT0.out _).2 rfl
              go_wp2
              go_region
              go_wp2
              refine bodyPost_ret (v := .tuple #[.agg #[.int .i64 2, .int .i64 ba, .slice (some ⟨lb, lo', none⟩) l.length vk, .int .i64 op, .int .i64 oh, .int .i64 ot, .bool st, .int .i64 fe, .int .i64 fp, .int .i64 fh, .int .i64 ft, .bool lo], .int .i64 a1, .int .i64 0]) (by simp [results, Try.results32, go_sem, *]) rfl ⟨_, _, _, _, rfl, HT.out, HS.out.keep ?_, ?_, .inl rfl⟩
              all_goals (repeat (first | with_reducible exact B1.out | with_reducible refine Below.drew ?_ | with_reducible refine bel_alloc ?_ _ | (with_reducible refine bel_set12 ?_ ?_ _ _ _ _ _ _ _ _ _ _ _ _; (focus omega))))
        · have q1' : (d1 == d) = true := by simpa using e1
          have q2' : (p1 == p) = false := by simpa using e2
          have HN : Hid (hasB d p (lth l k) = false) := by show _ = _; rw [← HY.out]; simp [hasB, e2]
          clear e1 e2
          go_wp2
          exact ⟨⟨k + 1, by omega, by go_num, upto_next HPR.out HN.out, X0.past _, X1.past _, X2.past _, bel_alloc B1.out _⟩, by simp [intOf]; omega⟩
      · have q1' : (d1 == d) = false := by simpa using e1
        have HN : Hid (hasB d p (lth l k) = false) := by show _ = _; rw [← HY.out]; simp [hasB, e1]
        clear e1
        go_wp2
        exact ⟨⟨k + 1, by omega, by go_num, upto_next HPR.out HN.out, X0.past _, X1.past _, X2.past _, bel_alloc B1.out _⟩, by simp [intOf]; omega⟩
    have hF : fndC l d p = -1 := fndC_none fun j hj => HPR.out j (by omega)
    have HFN : Hid (¬ 0 ≤ fndC l d p) := by show ¬ _; rw [hF]; decide
    have HT1 : Hid (∀ X, goT zs ⟨2, ba, l, op, oh, ot, st, fe, fp, fh, ft, lo⟩ d p wt = X ↔ byT zs ⟨2, ba, l, op, oh, ot, st, fe, fp, fh, ft, lo⟩ d p wt = X) := fun X => by rw [HG.out, if_neg HFN.out]
    clear hF
    obtain ⟨qm, -, s0⟩ := X0.one
    obtain ⟨ba0, ba1⟩ := HB.out
    obtain ⟨d0, d1⟩ := HD.out
    have gk := HCS.out (8 * ba + d).toNat (by omega)
    rw [← hB.cell (p := ⟨b, o + (8 * ba + d).toNat, none⟩) hbb] at gk
    obtain ⟨z, hz⟩ : ∃ z, nth zs (8 * ba + d).toNat = z := ⟨_, rfl⟩
    rw [hz] at gk
    have HZ : Hid (ctxW zs ⟨2, ba, l, op, oh, ot, st, fe, fp, fh, ft, lo⟩ d = z) := hz
    have k0 : 0 ≤ 8 * ba + d := by omega
    have k1 : 8 * ba + d < 512 := by omega
    have hb1 : b < wr.heap.size := Nat.lt_of_lt_of_le hbb hB.size
    clear hz hB
    go_wp2_with fail
    refine (contextOf_any z _).mono ?_
    rintro e w2 ⟨rfl, b2⟩
    clear q0 q1 q2 q3 q4 q5 q6 q7 q8 q9 q10 q11 u0 u1 u2 u3 u4 u5 u6 u7 u8 u9 u10 u11 y0 y1 y2 y3 y4 y5 y6 y7 y8 y9 y10 y11 s1 s2
    clear qm s0 gk hb1 k0 k1
    have X0 := X0.keep b2
    have X1 := X1.keep b2
    have X2 := X2.keep b2
    have B2 : Hid (Below w.heap.size w w2) := bel_trans B1.out b2
    clear b2 B1
    obtain ⟨qm, -, s0⟩ := X0.one
    obtain ⟨⟨q0, q1, q2, q3, q4, q5, q6, q7, q8, q9, q10, q11⟩, s1⟩ := X1.twelve
    obtain ⟨⟨u0, u1, u2, u3, u4, u5, u6, u7, u8, u9, u10, u11⟩, s2⟩ := X2.twelve
    obtain ⟨y0, y1, y2, y3, y4, y5, y6, y7, y8, y9, y10, y11⟩ := X2.marks
    cases hv : vC z
    · have HT : Hid (goT zs ⟨2, ba, l, op, oh, ot, st, fe, fp, fh, ft, lo⟩ d p wt = (⟨2, ba, l, op, oh, ot, st, fe, fp, fh, ft, lo⟩, 0, 2)) := by show _ = _; rw [HT1.out, byT, HZ.out, hv]; rfl
      cases ho : okC z
      all_goals
        go_wp2
        refine bodyPost_ret (v := .tuple #[.agg #[.int .i64 2, .int .i64 ba, .slice va l.length vk, .int .i64 op, .int .i64 oh, .int .i64 ot, .bool st, .int .i64 fe, .int .i64 fp, .int .i64 fh, .int .i64 ft, .bool lo], .int .i64 0, .int .i64 2]) (by simp [results, Try.results32, go_sem, *]) rfl ⟨_, _, _, _, rfl, HT.out, HS.out.keep ?_, ?_, .inl rfl⟩
        all_goals (repeat (first | with_reducible exact B2.out | with_reducible refine Below.drew ?_ | with_reducible refine bel_alloc ?_ _ | (with_reducible refine bel_set12 ?_ ?_ _ _ _ _ _ _ _ _ _ _ _ _; (focus omega))))
    have ho : okC z = true := by
      cases ho : okC z
      · simp [vC, ho] at hv
      · rfl
    cases ha : aC z
    rotate_left
    · have HT : Hid (goT zs ⟨2, ba, l, op, oh, ot, st, fe, fp, fh, ft, lo⟩ d p wt = (⟨2, ba, l, op, oh, ot, st, fe, fp, fh, ft, lo⟩, p, 0)) := by show _ = _; rw [HT1.out, byT, HZ.out, if_pos hv, if_pos ha]
      go_wp2
      refine bodyPost_ret (v := .tuple #[.agg #[.int .i64 2, .int .i64 ba, .slice va l.length vk, .int .i64 op, .int .i64 oh, .int .i64 ot, .bool st, .int .i64 fe, .int .i64 fp, .int .i64 fh, .int .i64 ft, .bool lo], .int .i64 p, .int .i64 0]) (by simp [results, Try.results32, go_sem, *]) rfl ⟨_, _, _, _, rfl, HT.out, HS.out.keep ?_, ?_, .inl rfl⟩
      all_goals (repeat (first | with_reducible exact B2.out | with_reducible refine Below.drew ?_ | with_reducible refine bel_alloc ?_ _ | (with_reducible refine bel_set12 ?_ ?_ _ _ _ _ _ _ _ _ _ _ _ _; (focus omega))))
    have HA : Hid (¬ aC z = true) := by show ¬ _; rw [ha]; decide
    have HV : Hid (vC z = true) := hv
    rcases wkd_two (wr := wt) HK.out (pC_page z) (page_of HP.out) with ⟨f, hff, hwk⟩ | ⟨x, a, haa, hx, hwk⟩
    · have HT : Hid (goT zs ⟨2, ba, l, op, oh, ot, st, fe, fp, fh, ft, lo⟩ d p wt = (⟨2, ba, l, op, oh, ot, st, fe, fp, fh, ft, lo⟩, 0, f)) := by
        show _ = _; rw [HT1.out, byT, HZ.out, if_pos HV.out, if_neg HA.out, hwk]; exact if_neg (show ¬ f = 0 by omega)
      have hfq : (f == 0) = false := by simp; omega
      have HW : Hid (_ = _) := hwk
      clear hwk hff
      go_wp2_with fail
      refine (walkedR_at HW.out (HM.out.keep (bel_alloc B2.out _)) HK.out).mono ?_
      rintro e w3 ⟨rfl, b3⟩
      clear q0 q1 q2 q3 q4 q5 q6 q7 q8 q9 q10 q11 u0 u1 u2 u3 u4 u5 u6 u7 u8 u9 u10 u11 y0 y1 y2 y3 y4 y5 y6 y7 y8 y9 y10 y11 s1 s2
      clear qm s0
      have X1 := (X1.past _).keep b3
      have X2 := (X2.past _).keep b3
      have B3 : Hid (Below w.heap.size w w3) := bel_trans (bel_alloc B2.out _) b3
      clear b3 B2
      obtain ⟨⟨q0, q1, q2, q3, q4, q5, q6, q7, q8, q9, q10, q11⟩, s1⟩ := X1.twelve
      obtain ⟨⟨u0, u1, u2, u3, u4, u5, u6, u7, u8, u9, u10, u11⟩, s2⟩ := X2.twelve
      obtain ⟨y0, y1, y2, y3, y4, y5, y6, y7, y8, y9, y10, y11⟩ := X2.marks
      go_wp2
      go_region
      go_wp2
      refine bodyPost_ret (v := .tuple #[.agg #[.int .i64 2, .int .i64 ba, .slice va l.length vk, .int .i64 op, .int .i64 oh, .int .i64 ot, .bool st, .int .i64 fe, .int .i64 fp, .int .i64 fh, .int .i64 ft, .bool lo], .int .i64 0, .int .i64 f]) (by simp [results, Try.results32, go_sem, *]) rfl ⟨_, _, _, _, rfl, HT.out, HS.out.keep ?_, ?_, .inl rfl⟩
      all_goals (repeat (first | with_reducible exact B3.out | with_reducible refine Below.drew ?_ | with_reducible refine bel_alloc ?_ _ | (with_reducible refine bel_set12 ?_ ?_ _ _ _ _ _ _ _ _ _ _ _ _; (focus omega))))
    obtain ⟨c, hfc⟩ : ∃ c, flC l (d, p, a, true, x) = c := ⟨_, rfl⟩
    have HT : Hid (goT zs ⟨2, ba, l, op, oh, ot, st, fe, fp, fh, ft, lo⟩ d p wt = (⟨2, ba, c, op, oh, ot, st, fe, fp, fh, ft, lo⟩, a, 0)) := by
      show _ = _; rw [HT1.out, byT, HZ.out, if_pos HV.out, if_neg HA.out, hwk]; simp only [if_true, hfc]; rfl
    have HF : Hid (flE l (d, p, a, true, x) = 0) := fl_ok HC.out HD.out HP.out haa (by have := HFN.out; omega)
    have HFC : Hid (flC l (d, p, a, true, x) = c) := hfc
    have HW : Hid (_ = _) := hwk
    clear hwk hx haa hfc
    go_wp2_with fail
    refine (walkedR_at HW.out (HM.out.keep (bel_alloc B2.out _)) HK.out).mono ?_
    rintro e w3 ⟨rfl, b3⟩
    clear q0 q1 q2 q3 q4 q5 q6 q7 q8 q9 q10 q11 u0 u1 u2 u3 u4 u5 u6 u7 u8 u9 u10 u11 y0 y1 y2 y3 y4 y5 y6 y7 y8 y9 y10 y11 s1 s2
    clear qm s0
    have X1 := (X1.past _).keep b3
    have X2 := (X2.past _).keep b3
    have B3 : Hid (Below w.heap.size w w3) := bel_trans (bel_alloc B2.out _) b3
    clear b3 B2
    obtain ⟨⟨q0, q1, q2, q3, q4, q5, q6, q7, q8, q9, q10, q11⟩, s1⟩ := X1.twelve
    obtain ⟨⟨u0, u1, u2, u3, u4, u5, u6, u7, u8, u9, u10, u11⟩, s2⟩ := X2.twelve
    obtain ⟨y0, y1, y2, y3, y4, y5, y6, y7, y8, y9, y10, y11⟩ := X2.marks
    go_wp2_with fail
    refine (filled_at2 (HS.out.keep (bel_alloc B3.out _)) HF.out HFC.out).mono ?_
    rintro e w4 ⟨b', cap', rfl, hS4, b4, hN4⟩
    have HN4 : Hid (Fresh w.heap.size (.slice b' c.length cap')) := hN4.mono (bel_alloc B3.out _).size
    clear hN4
    have n2 : ¬ w3.heap.size = w.heap.size + 1 + 1 := by omega
    have n1 : ¬ w3.heap.size = w.heap.size + 1 := by omega
    clear q0 q1 q2 q3 q4 q5 q6 q7 q8 q9 q10 q11 u0 u1 u2 u3 u4 u5 u6 u7 u8 u9 u10 u11 y0 y1 y2 y3 y4 y5 y6 y7 y8 y9 y10 y11 s1 s2
    have X1 := (X1.past _).keep b4
    have X2 := (X2.past _).keep b4
    have X3 := (Box.newAt (w := w3) rfl 108 #[.bool true, .bool true, .bool x, .bool true, .int .i64 a]).keep b4
    have B4 : Hid (Below w.heap.size w w4) := bel_trans (bel_alloc B3.out _) b4
    clear b4 B3
    have AP1 : Hid (Apart _ _ _) := hS4.apart X1
    have AP2 : Hid (Apart _ _ _) := hS4.apart X2
    have H4 : Hid (Ls _ _ _) := hS4
    clear hS4
    obtain ⟨⟨q0, q1, q2, q3, q4, q5, q6, q7, q8, q9, q10, q11⟩, s1⟩ := X1.twelve
    obtain ⟨⟨u0, u1, u2, u3, u4, u5, u6, u7, u8, u9, u10, u11⟩, s2⟩ := X2.twelve
    obtain ⟨y0, y1, y2, y3, y4, y5, y6, y7, y8, y9, y10, y11⟩ := X2.marks
    obtain ⟨-, -, z2, -⟩ := X1.marks
    have e4 : w4.cell? ⟨w3.heap.size, 4, none⟩ = some (.int .i64 a) := X3.cell 4
    have s3 := X3.lt
    go_wp2
    go_region
    go_wp2
    refine bodyPost_ret (v := .tuple #[.agg #[.int .i64 2, .int .i64 ba, .slice b' c.length cap', .int .i64 op, .int .i64 oh, .int .i64 ot, .bool st, .int .i64 fe, .int .i64 fp, .int .i64 fh, .int .i64 ft, .bool lo], .int .i64 a, .int .i64 0]) (by simp [results, Try.results32, go_sem, *]) rfl ⟨_, _, _, _, rfl, HT.out, ?_, ?_, .inr HN4.out⟩
    · (repeat (first | with_reducible exact H4.out | with_reducible refine Ls.drew ?_ | with_reducible refine Ls.put12 ?_ AP2.out _ _ _ _ _ _ _ _ _ _ _ _ | with_reducible refine Ls.putAt ?_ AP1.out _ _))
    · (repeat (first | with_reducible exact B4.out | with_reducible refine Below.drew ?_ | (with_reducible refine bel_set12 ?_ ?_ _ _ _ _ _ _ _ _ _ _ _ _; (focus omega)) | (with_reducible refine bel_set ?_ ?_ _; (focus (dsimp only; omega)))))
theorem goesTo_any (v : Value) (zs : List Int) (mo ba op oh ot fe fp fh ft : Int) (st lo : Bool) (vc : Value) (l : List Ln) (d p : Int) (wt : Bool) (w : World) (hs : Sl w v zs) (h : Ls w vc l) (hE : thE zs ⟨mo, ba, l, op, oh, ot, st, fe, fp, fh, ft, lo⟩ d p = 0) :
    Calls Try.prog 32 #[.agg #[v], .agg #[.int .i64 mo, .int .i64 ba, vc, .int .i64 op, .int .i64 oh, .int .i64 ot, .bool st, .int .i64 fe, .int .i64 fp, .int .i64 fh, .int .i64 ft, .bool lo], .int .i64 d, .int .i64 p, .bool wt] w fun e w' =>
      ∃ vc1 l1 k f, e = .returned (.tuple #[.agg #[.int .i64 mo, .int .i64 ba, vc1, .int .i64 op, .int .i64 oh, .int .i64 ot, .bool st, .int .i64 fe, .int .i64 fp, .int .i64 fh, .int .i64 ft, .bool lo], .int .i64 k, .int .i64 f]) ∧ goT zs ⟨mo, ba, l, op, oh, ot, st, fe, fp, fh, ft, lo⟩ d p wt = (⟨mo, ba, l1, op, oh, ot, st, fe, fp, fh, ft, lo⟩, k, f) ∧ Ls w' vc1 l1 ∧ Below w.heap.size w w' := by
  refine (goesTo_anyF v zs mo ba op oh ot fe fp fh ft st lo vc l d p wt w hs h hE).mono ?_
  rintro e w' ⟨vc1, l1, k, f, he, hg, hl, hb, -⟩
  exact ⟨vc1, l1, k, f, he, hg, hl, hb⟩
end Go.Proofs.Ytefcdcneenjbgab
/-
  drawbridgeref's CheckRing, LengthOf, Pushed, Popped: what they answer; nothing that was there turns.
-/
namespace Go.Proofs.Ytefcdcneenjbgab
open Go.RowKit

theorem between_page (z : Int) : betweenB 0 63 z = pageR z := by unfold betweenB pageR; exact decide_eq_decide.2 (by omega)
theorem between_step (z : Int) : betweenB 0 7 z = stepR z := by unfold betweenB stepR; exact decide_eq_decide.2 (by omega)

set_option maxHeartbeats 1000000 in
theorem checkRing_any (p h t : Int) (w : World) :
    Calls Try.prog 65 #[.agg #[.int .i64 p, .int .i64 h, .int .i64 t]] w fun e w' => e = .returned (.int .i64 (chkR p h t)) ∧ w' = w.alloc (ringB p h t) := by
  cases a : pageR p
  · have : chkR p h t = 2 := by simp [chkR, a]
    rw [this]
    go_enter Try.func65, Try.ntmps65
    go_wp2_with (go_at_call 58; refine (in_any _ _ _ _).mono ?_; rintro e w' ⟨rfl, rfl⟩; first | rw [between_page] | rw [between_step])
    go_ret
    exact ⟨rfl, rfl⟩
  cases b : stepR h
  · have : chkR p h t = 2 := by simp [chkR, a, b]
    rw [this]
    go_enter Try.func65, Try.ntmps65
    go_wp2_with (go_at_call 58; refine (in_any _ _ _ _).mono ?_; rintro e w' ⟨rfl, rfl⟩; first | rw [between_page] | rw [between_step])
    go_ret
    exact ⟨rfl, rfl⟩
  cases c : stepR t
  · have : chkR p h t = 2 := by simp [chkR, a, b, c]
    rw [this]
    go_enter Try.func65, Try.ntmps65
    go_wp2_with (go_at_call 58; refine (in_any _ _ _ _).mono ?_; rintro e w' ⟨rfl, rfl⟩; first | rw [between_page] | rw [between_step])
    go_ret
    exact ⟨rfl, rfl⟩
  have : chkR p h t = 0 := by simp [chkR, a, b, c]
  rw [this]
  go_enter Try.func65, Try.ntmps65
  go_wp2_with (go_at_call 58; refine (in_any _ _ _ _).mono ?_; rintro e w' ⟨rfl, rfl⟩; first | rw [between_page] | rw [between_step])
  go_ret
  exact ⟨rfl, rfl⟩

set_option maxHeartbeats 1000000 in
/-- LengthOf a right ring. -/
theorem lengthOf_any (p h t : Int) (w : World) (hh : 0 ≤ h ∧ h < 8) (ht : 0 ≤ t ∧ t < 8) :
    Calls Try.prog 75 #[.agg #[.int .i64 p, .int .i64 h, .int .i64 t]] w fun e w' => e = .returned (.int .i64 (lenR h t)) ∧ w' = w.alloc (ringB p h t) := by
  have HH : Hid (0 ≤ h ∧ h < 8) := hh
  have HT : Hid (0 ≤ t ∧ t < 8) := ht
  have HL : Hid (lenR h t = (t - h + 8) % 8) := rfl
  clear hh ht
  go_enter Try.func75, Try.ntmps75
  go_wp2
  go_loop [3, 4] (fun a b => ∃ i : Nat, a = .int .i64 i ∧ b = .int .i64 ((h + i) % 8) ∧ (i : Int) ≤ lenR h t) (fun a _ => 8 - (intOf a).toNat)
  case atStart =>
    obtain ⟨h0, h1⟩ := HH.out
    refine ⟨0, rfl, ?_, ?_⟩
    · congr 1; simp; omega
    · rw [HL.out]; simp; omega
  case round =>
    obtain ⟨i, rfl, rfl, hi⟩ := hrel
    obtain ⟨h0, h1⟩ := HH.out
    obtain ⟨t0, t1⟩ := HT.out
    have hl := HL.out
    have Hl : Hid (lenR h t = (t - h + 8) % 8) := HL.out
    have Hi : Hid ((i : Int) ≤ lenR h t) := hi
    by_cases he : (h + i) % 8 = t
    · have hq : ((h + (i : Int)) % 8 != t) = false := by simpa using he
      have HD : Hid ((i : Int) = lenR h t) := by show _ = _; omega
      clear he hl hi
      go_wp2
      go_ret
      exact ⟨ret_int HD.out, rfl⟩
    · have hq : ((h + (i : Int)) % 8 != t) = true := by simpa using he
      have HD : Hid ((i : Int) + 1 ≤ lenR h t ∧ lenR h t < 8 ∧ ((h + i) % 8 + 1) % 8 = (h + ((i + 1 : Nat) : Int)) % 8) := by refine ⟨?_, ?_, ?_⟩ <;> omega
      have k0 : 0 ≤ (h + (i : Int)) % 8 := by omega
      have k1 : (h + (i : Int)) % 8 < 8 := by omega
      clear he hl hi
      generalize hk : (h + (i : Int)) % 8 = k at *
      have hi8 : (i : Int) < 8 := by have := HD.out; omega
      go_wp2
      refine ⟨⟨i + 1, by go_num, ?_, by have := HD.out; omega⟩, by simp [intOf]; omega⟩
      rw [← HD.out.2.2]
end Go.Proofs.Ytefcdcneenjbgab
