/-
  drawbridgeref's Dropped: lines without those that an order makes the bridge forget; nothing that was there turns.
-/
import Derived.Test.YthejgilgcokngaaDropC
import Derived.Test.YthejgilgcokngaaCheckCR
namespace Go.Proofs.Ythejgilgcokngaa
open Go.RowKit

set_option maxHeartbeats 1000000 in
theorem dropped_err (v : Value) (l : List Ln) (k d p : Int) (w : World) (h : Ls w v l) (hc : ¬ chkC l = 0) :
    Calls Try.prog 38 #[v, .agg #[.int .i64 k, .int .i64 d, .int .i64 p]] w fun e w' => (∃ v', e = .returned (.tuple #[v', .int .i64 (drE l k)]) ∧ Ls w' v' (drC l k d p)) ∧ Below w.heap.size w w' := by
  have HL : Hid (Ls w v l) := h
  obtain ⟨a0, cap, rfl, hl, hm, h⟩ := h
  have hq : (chkC l != 0) = true := by simpa using hc
  have HE : Hid (drE l k = chkC l) := by unfold drE; exact if_neg hc
  have HF : Hid (drC l k d p = []) := by unfold drC; exact if_neg (by rw [HE.out]; exact hc)
  clear hc
  go_enter Try.func38, Try.ntmps38
  go_wp2_with fail
  refine (checkCache_any _ l _ (HL.out.keep (bel_alloc (Below.refl _ _) _))).mono ?_
  rintro e w1 ⟨rfl, b1⟩
  have B1 : Hid (Below w.heap.size w w1) := bel_trans (bel_alloc (Below.refl _ _) _) b1
  clear b1
  generalize chkC l = z at *
  go_wp2
  refine bodyPost_ret (v := .tuple #[.slice none 0 0, .int .i64 z]) (by simp [results, Try.results38, go_sem]) rfl ⟨⟨_, by rw [HE.out], by rw [HF.out]; exact Ls.nothing _⟩, B1.out⟩

set_option maxHeartbeats 1000000 in
theorem dropped_bad (v : Value) (l : List Ln) (k d p : Int) (w : World) (h : Ls w v l) (hc : chkC l = 0) (hk : ¬ (0 ≤ k ∧ k ≤ 3)) :
    Calls Try.prog 38 #[v, .agg #[.int .i64 k, .int .i64 d, .int .i64 p]] w fun e w' => (∃ v', e = .returned (.tuple #[v', .int .i64 (drE l k)]) ∧ Ls w' v' (drC l k d p)) ∧ Below w.heap.size w w' := by
  have HL : Hid (Ls w v l) := h
  have h6 : l.length ≤ 6 := (chkC_zero.1 hc).1
  obtain ⟨a0, cap, rfl, hl, hm, h⟩ := h
  unfold maxLen at hm
  have HE : Hid (drE l k = 3) := by unfold drE; rw [if_pos hc, if_neg hk]; rfl
  have HF : Hid (drC l k d p = []) := by unfold drC; exact if_neg (by rw [HE.out]; decide)
  have hin : inB k 0 3 = false := by unfold inB; exact decide_eq_false hk
  go_enter Try.func38, Try.ntmps38
  go_wp2_with fail
  refine (checkCache_any _ l _ (HL.out.keep (bel_alloc (Below.refl _ _) _))).mono ?_
  rw [hc]
  rintro e wp0 ⟨rfl, b1⟩
  have K1 := (Blk.new w #[.int .i64 k, .int .i64 d, .int .i64 p] 61 (0, 0)).keep b1
  have HB2 : Hid (Below w.heap.size w wp0) := bel_trans (bel_alloc (Below.refl _ _) _) b1
  obtain ⟨c0, c1, c2⟩ := K1.three
  have s1 := K1.lt
  have HK1 : Hid _ := K1
  clear b1 K1
  go_wp2_with fail
  refine (cIn_any _ _ _ _).mono ?_
  rw [hin]
  rintro e wq ⟨rfl, rfl⟩
  go_wp2
  refine bodyPost_ret (v := .tuple #[.slice none 0 0, .int .i64 3]) (by simp [results, Try.results38, go_sem]) rfl ⟨⟨_, by rw [HE.out], by rw [HF.out]; exact Ls.nothing _⟩, HB2.out⟩

set_option maxHeartbeats 1000000 in
theorem dropped_0 (v : Value) (l : List Ln) (d p : Int) (w : World) (h : Ls w v l) (hc : chkC l = 0) :
    Calls Try.prog 38 #[v, .agg #[.int .i64 (0 : Int), .int .i64 d, .int .i64 p]] w fun e w' => (∃ v', e = .returned (.tuple #[v', .int .i64 (drE l (0 : Int))]) ∧ Ls w' v' (drC l (0 : Int) d p)) ∧ Below w.heap.size w w' := by
  have HL : Hid (Ls w v l) := h
  have h6 : l.length ≤ 6 := (chkC_zero.1 hc).1
  obtain ⟨a0, cap, rfl, hl, hm, h⟩ := h
  unfold maxLen at hm
  have HE : Hid (drE l 0 = 0) := (drC_ok (d := d) (p := p) hc (by omega)).1
  have HF : Hid (drC l 0 d p = kpt l 0 d p l.length) := (drC_ok hc (by omega)).2
  have hin : inB (0 : Int) 0 3 = true := by decide
  go_enter Try.func38, Try.ntmps38
  go_wp2_with fail
  refine (checkCache_any _ l _ (HL.out.keep (bel_alloc (Below.refl _ _) _))).mono ?_
  rw [hc]
  rintro e wp0 ⟨rfl, b1⟩
  have K1 := (Blk.new w #[.int .i64 (0 : Int), .int .i64 d, .int .i64 p] 61 (0, 0)).keep b1
  have HB2 : Hid (Below w.heap.size w wp0) := bel_trans (bel_alloc (Below.refl _ _) _) b1
  obtain ⟨c0, c1, c2⟩ := K1.three
  have s1 := K1.lt
  have HK1 : Hid _ := K1
  clear b1 K1
  go_wp2_with fail
  refine (cIn_any _ _ _ _).mono ?_
  rw [hin]
  rintro e wq ⟨rfl, rfl⟩
  have HLq : Hid (Ls wq (.slice a0 l.length cap) l) := HL.out.keep HB2.out
  clear HL c0 c1 c2
  rcases h with rfl | ⟨b, o, rfl, hb, _⟩
  · go_wp2
    go_loopw [7, 9, 10, 22] (fun v9 _ _ i w' => v9 = .slice none 0 0 ∧ i = .int .i64 0 ∧ w' = wq) (fun _ _ _ i _ => 0)
    case atStart => exact ⟨rfl, rfl, rfl⟩
    case round =>
      obtain ⟨rfl, rfl, rfl⟩ := hrel
      go_wp2
      refine bodyPost_ret (v := .tuple #[.slice none 0 0, .int .i64 0]) (by simp [results, Try.results38, go_sem]) rfl ⟨⟨_, by rw [HE.out], ?_⟩, HB2.out⟩
      rw [HF.out]
      exact Ls.nothing _
  · go_wp2
    go_loopw [7, 9, 10, 22] (fun v9 _ _ i w' => ∃ (j : Nat) (a9 : Option Addr) (c9 : Nat), j ≤ l.length ∧ i = .int .i64 j ∧ v9 = .slice a9 (kpt l 0 d p j).length c9 ∧ OwnL w' wq.heap.size v9 (kpt l 0 d p j) ∧ Below wq.heap.size wq w') (fun _ _ _ i _ => l.length - (intOf i).toNat)
    case atStart => exact ⟨0, _, _, Nat.zero_le _, rfl, by rw [kpt_zero]; rfl, by rw [kpt_zero]; exact OwnL.nothing _ _, Below.refl _ _⟩
    case round =>
      obtain ⟨j, a9, c9, hj, rfl, rfl, hO, hB⟩ := hrel
      have HO : Hid (OwnL wr wq.heap.size (.slice a9 (kpt l 0 d p j).length c9) (kpt l 0 d p j)) := hO
      have HB : Hid (Below wq.heap.size wq wr) := hB
      have hkl : (kpt l 0 d p j).length ≤ 6 := Nat.le_trans (kpt_len _ _ _ _ _) h6
      by_cases hlt : j < l.length
      · have hx := HLq.out.keep hB
        obtain ⟨a', cap', e', _, _, hx⟩ := hx
        rcases hx with hx | ⟨b', o', e2, hb', hc'⟩
        · rw [hx] at hlt; exact absurd hlt (Nat.not_lt_zero _)
        simp only [Value.slice.injEq] at e'
        obtain ⟨rfl, _, rfl⟩ := e'
        simp only [Option.some.injEq, Addr.mk.injEq, and_true] at e2
        obtain ⟨rfl, rfl⟩ := e2
        obtain ⟨g0, g1, g2, g3, g4⟩ := hc' j hlt
        clear hc'
        obtain ⟨y, hy⟩ : ∃ y, y = lth l j := ⟨_, rfl⟩
        have HY : Hid (y = lth l j) := hy
        rw [← hy] at g0 g1 g2 g3 g4
        clear hy
        obtain ⟨c0, c1, c2⟩ := (Blk.keep HK1.out hB).three
        have s2 : w.heap.size < wr.heap.size := Nat.lt_of_lt_of_le s1 hB.size
        have hszq : Hid (wq.heap.size ≤ wr.heap.size) := hB.size
        clear hB hO
        obtain ⟨d1, p1, a1, r1, x1⟩ := y
        simp only at g0 g1 g2 g3 g4
        have hlt1 : (j : Int) < l.length := by omega
        have hg : Hid (goesB 0 d p (d1, p1, a1, r1, x1) = false) := goes0 d p (d1, p1, a1, r1, x1)
        have HK : Hid (kpt l 0 d p (j + 1) = kpt l 0 d p j ++ [(d1, p1, a1, r1, x1)]) := by show _ = _; rw [kpt_kept hlt (by rw [← HY.out]; exact hg.out), ← HY.out]
        generalize hkj : kpt l 0 d p j = kj at *
        go_wp2_with (first | (at_builtin; refine wpList_append_L rfl (.tmp 62) (.tmp 64) rfl wq.heap.size _ _ kj [(d1, p1, a1, r1, x1)] rfl rfl ((HO.out.alloc _).alloc _) (ls_oneAt (by simp) _ _ _ _ _ _) (by simp; omega) (by have := hszq.out; simp; omega) (.inr (by simp)) ?_))
        intro g9 cg9 w9 hown9 _ hbel9 _
        have HN9 : Hid ((kj ++ [(d1, p1, a1, r1, x1)]).length = kj.length + 1) := by show _ = _; simp
        have HO9 : Hid (OwnL w9 wq.heap.size (.slice (some ⟨g9, 0, none⟩) (kj.length + 1) cg9) (kj ++ [(d1, p1, a1, r1, x1)])) := hown9
        have HB9 : Hid (Below wq.heap.size wq w9) := (bel_alloc (bel_alloc HB.out _) _).trans hbel9
        clear hown9 hbel9
        go_wp2
        exact ⟨⟨j + 1, some ⟨g9, 0, none⟩, cg9, by omega, by go_num, by rw [HK.out, HN9.out], by rw [HK.out]; exact HO9.out, HB9.out⟩, by simp [intOf]; omega⟩
      · obtain rfl : j = l.length := by omega
        clear hB hO
        go_wp2
        refine bodyPost_ret (v := .tuple #[.slice a9 (kpt l 0 d p l.length).length c9, .int .i64 0]) (by simp [results, Try.results38, go_sem]) rfl ⟨⟨_, by rw [HE.out], ?_⟩, bel_trans HB2.out HB.out⟩
        rw [HF.out]
        exact OwnL.ls HO.out

set_option maxHeartbeats 1000000 in
theorem dropped_1 (v : Value) (l : List Ln) (d p : Int) (w : World) (h : Ls w v l) (hc : chkC l = 0) :
    Calls Try.prog 38 #[v, .agg #[.int .i64 (1 : Int), .int .i64 d, .int .i64 p]] w fun e w' => (∃ v', e = .returned (.tuple #[v', .int .i64 (drE l (1 : Int))]) ∧ Ls w' v' (drC l (1 : Int) d p)) ∧ Below w.heap.size w w' := by
  have HL : Hid (Ls w v l) := h
  have h6 : l.length ≤ 6 := (chkC_zero.1 hc).1
  obtain ⟨a0, cap, rfl, hl, hm, h⟩ := h
  unfold maxLen at hm
  have HE : Hid (drE l 1 = 0) := (drC_ok (d := d) (p := p) hc (by omega)).1
  have HF : Hid (drC l 1 d p = kpt l 1 d p l.length) := (drC_ok hc (by omega)).2
  have hin : inB (1 : Int) 0 3 = true := by decide
  go_enter Try.func38, Try.ntmps38
  go_wp2_with fail
  refine (checkCache_any _ l _ (HL.out.keep (bel_alloc (Below.refl _ _) _))).mono ?_
  rw [hc]
  rintro e wp0 ⟨rfl, b1⟩
  have K1 := (Blk.new w #[.int .i64 (1 : Int), .int .i64 d, .int .i64 p] 61 (0, 0)).keep b1
  have HB2 : Hid (Below w.heap.size w wp0) := bel_trans (bel_alloc (Below.refl _ _) _) b1
  obtain ⟨c0, c1, c2⟩ := K1.three
  have s1 := K1.lt
  have HK1 : Hid _ := K1
  clear b1 K1
  go_wp2_with fail
  refine (cIn_any _ _ _ _).mono ?_
  rw [hin]
  rintro e wq ⟨rfl, rfl⟩
  have HLq : Hid (Ls wq (.slice a0 l.length cap) l) := HL.out.keep HB2.out
  clear HL c0 c1 c2
  rcases h with rfl | ⟨b, o, rfl, hb, _⟩
  · go_wp2
    go_loopw [7, 9, 10, 22] (fun v9 _ _ i w' => v9 = .slice none 0 0 ∧ i = .int .i64 0 ∧ w' = wq) (fun _ _ _ i _ => 0)
    case atStart => exact ⟨rfl, rfl, rfl⟩
    case round =>
      obtain ⟨rfl, rfl, rfl⟩ := hrel
      go_wp2
      refine bodyPost_ret (v := .tuple #[.slice none 0 0, .int .i64 0]) (by simp [results, Try.results38, go_sem]) rfl ⟨⟨_, by rw [HE.out], ?_⟩, HB2.out⟩
      rw [HF.out]
      exact Ls.nothing _
  · go_wp2
    go_loopw [7, 9, 10, 22] (fun v9 _ _ i w' => ∃ (j : Nat) (a9 : Option Addr) (c9 : Nat), j ≤ l.length ∧ i = .int .i64 j ∧ v9 = .slice a9 (kpt l 1 d p j).length c9 ∧ OwnL w' wq.heap.size v9 (kpt l 1 d p j) ∧ Below wq.heap.size wq w') (fun _ _ _ i _ => l.length - (intOf i).toNat)
    case atStart => exact ⟨0, _, _, Nat.zero_le _, rfl, by rw [kpt_zero]; rfl, by rw [kpt_zero]; exact OwnL.nothing _ _, Below.refl _ _⟩
    case round =>
      obtain ⟨j, a9, c9, hj, rfl, rfl, hO, hB⟩ := hrel
      have HO : Hid (OwnL wr wq.heap.size (.slice a9 (kpt l 1 d p j).length c9) (kpt l 1 d p j)) := hO
      have HB : Hid (Below wq.heap.size wq wr) := hB
      have hkl : (kpt l 1 d p j).length ≤ 6 := Nat.le_trans (kpt_len _ _ _ _ _) h6
      by_cases hlt : j < l.length
      · have hx := HLq.out.keep hB
        obtain ⟨a', cap', e', _, _, hx⟩ := hx
        rcases hx with hx | ⟨b', o', e2, hb', hc'⟩
        · rw [hx] at hlt; exact absurd hlt (Nat.not_lt_zero _)
        simp only [Value.slice.injEq] at e'
        obtain ⟨rfl, _, rfl⟩ := e'
        simp only [Option.some.injEq, Addr.mk.injEq, and_true] at e2
        obtain ⟨rfl, rfl⟩ := e2
        obtain ⟨g0, g1, g2, g3, g4⟩ := hc' j hlt
        clear hc'
        obtain ⟨y, hy⟩ : ∃ y, y = lth l j := ⟨_, rfl⟩
        have HY : Hid (y = lth l j) := hy
        rw [← hy] at g0 g1 g2 g3 g4
        clear hy
        obtain ⟨c0, c1, c2⟩ := (Blk.keep HK1.out hB).three
        have s2 : w.heap.size < wr.heap.size := Nat.lt_of_lt_of_le s1 hB.size
        have hszq : Hid (wq.heap.size ≤ wr.heap.size) := hB.size
        clear hB hO
        obtain ⟨d1, p1, a1, r1, x1⟩ := y
        simp only at g0 g1 g2 g3 g4
        have hlt1 : (j : Int) < l.length := by omega
        have hg : Hid (goesB 1 d p (d1, p1, a1, r1, x1) = true) := goes1 d p (d1, p1, a1, r1, x1)
        have HK : Hid (kpt l 1 d p (j + 1) = kpt l 1 d p j) := kpt_gone hlt (by rw [← HY.out]; exact hg.out)
        go_wp2
        exact ⟨⟨j + 1, _, _, by omega, by go_num, by rw [HK.out], by rw [HK.out]; exact OwnL.alloc HO.out _, bel_alloc HB.out _⟩, by simp [intOf]; omega⟩
      · obtain rfl : j = l.length := by omega
        clear hB hO
        go_wp2
        refine bodyPost_ret (v := .tuple #[.slice a9 (kpt l 1 d p l.length).length c9, .int .i64 0]) (by simp [results, Try.results38, go_sem]) rfl ⟨⟨_, by rw [HE.out], ?_⟩, bel_trans HB2.out HB.out⟩
        rw [HF.out]
        exact OwnL.ls HO.out

set_option maxHeartbeats 1000000 in
theorem dropped_2 (v : Value) (l : List Ln) (d p : Int) (w : World) (h : Ls w v l) (hc : chkC l = 0) :
    Calls Try.prog 38 #[v, .agg #[.int .i64 (2 : Int), .int .i64 d, .int .i64 p]] w fun e w' => (∃ v', e = .returned (.tuple #[v', .int .i64 (drE l (2 : Int))]) ∧ Ls w' v' (drC l (2 : Int) d p)) ∧ Below w.heap.size w w' := by
  have HL : Hid (Ls w v l) := h
  have h6 : l.length ≤ 6 := (chkC_zero.1 hc).1
  obtain ⟨a0, cap, rfl, hl, hm, h⟩ := h
  unfold maxLen at hm
  have HE : Hid (drE l 2 = 0) := (drC_ok (d := d) (p := p) hc (by omega)).1
  have HF : Hid (drC l 2 d p = kpt l 2 d p l.length) := (drC_ok hc (by omega)).2
  have hin : inB (2 : Int) 0 3 = true := by decide
  go_enter Try.func38, Try.ntmps38
  go_wp2_with fail
  refine (checkCache_any _ l _ (HL.out.keep (bel_alloc (Below.refl _ _) _))).mono ?_
  rw [hc]
  rintro e wp0 ⟨rfl, b1⟩
  have K1 := (Blk.new w #[.int .i64 (2 : Int), .int .i64 d, .int .i64 p] 61 (0, 0)).keep b1
  have HB2 : Hid (Below w.heap.size w wp0) := bel_trans (bel_alloc (Below.refl _ _) _) b1
  obtain ⟨c0, c1, c2⟩ := K1.three
  have s1 := K1.lt
  have HK1 : Hid _ := K1
  clear b1 K1
  go_wp2_with fail
  refine (cIn_any _ _ _ _).mono ?_
  rw [hin]
  rintro e wq ⟨rfl, rfl⟩
  have HLq : Hid (Ls wq (.slice a0 l.length cap) l) := HL.out.keep HB2.out
  clear HL c0 c1 c2
  rcases h with rfl | ⟨b, o, rfl, hb, _⟩
  · go_wp2
    go_loopw [7, 9, 10, 22] (fun v9 _ _ i w' => v9 = .slice none 0 0 ∧ i = .int .i64 0 ∧ w' = wq) (fun _ _ _ i _ => 0)
    case atStart => exact ⟨rfl, rfl, rfl⟩
    case round =>
      obtain ⟨rfl, rfl, rfl⟩ := hrel
      go_wp2
      refine bodyPost_ret (v := .tuple #[.slice none 0 0, .int .i64 0]) (by simp [results, Try.results38, go_sem]) rfl ⟨⟨_, by rw [HE.out], ?_⟩, HB2.out⟩
      rw [HF.out]
      exact Ls.nothing _
  · go_wp2
    go_loopw [7, 9, 10, 22] (fun v9 _ _ i w' => ∃ (j : Nat) (a9 : Option Addr) (c9 : Nat), j ≤ l.length ∧ i = .int .i64 j ∧ v9 = .slice a9 (kpt l 2 d p j).length c9 ∧ OwnL w' wq.heap.size v9 (kpt l 2 d p j) ∧ Below wq.heap.size wq w') (fun _ _ _ i _ => l.length - (intOf i).toNat)
    case atStart => exact ⟨0, _, _, Nat.zero_le _, rfl, by rw [kpt_zero]; rfl, by rw [kpt_zero]; exact OwnL.nothing _ _, Below.refl _ _⟩
    case round =>
      obtain ⟨j, a9, c9, hj, rfl, rfl, hO, hB⟩ := hrel
      have HO : Hid (OwnL wr wq.heap.size (.slice a9 (kpt l 2 d p j).length c9) (kpt l 2 d p j)) := hO
      have HB : Hid (Below wq.heap.size wq wr) := hB
      have hkl : (kpt l 2 d p j).length ≤ 6 := Nat.le_trans (kpt_len _ _ _ _ _) h6
      by_cases hlt : j < l.length
      · have hx := HLq.out.keep hB
        obtain ⟨a', cap', e', _, _, hx⟩ := hx
        rcases hx with hx | ⟨b', o', e2, hb', hc'⟩
        · rw [hx] at hlt; exact absurd hlt (Nat.not_lt_zero _)
        simp only [Value.slice.injEq] at e'
        obtain ⟨rfl, _, rfl⟩ := e'
        simp only [Option.some.injEq, Addr.mk.injEq, and_true] at e2
        obtain ⟨rfl, rfl⟩ := e2
        obtain ⟨g0, g1, g2, g3, g4⟩ := hc' j hlt
        clear hc'
        obtain ⟨y, hy⟩ : ∃ y, y = lth l j := ⟨_, rfl⟩
        have HY : Hid (y = lth l j) := hy
        rw [← hy] at g0 g1 g2 g3 g4
        clear hy
        obtain ⟨c0, c1, c2⟩ := (Blk.keep HK1.out hB).three
        have s2 : w.heap.size < wr.heap.size := Nat.lt_of_lt_of_le s1 hB.size
        have hszq : Hid (wq.heap.size ≤ wr.heap.size) := hB.size
        clear hB hO
        obtain ⟨d1, p1, a1, r1, x1⟩ := y
        simp only at g0 g1 g2 g3 g4
        have hlt1 : (j : Int) < l.length := by omega
        by_cases e1 : d1 = d
        · have hg : Hid (goesB 2 d p (d1, p1, a1, r1, x1) = true) := by show _ = _; rw [goes2]; simp [e1]
          have q1 : (d1 == d) = true := by simpa using e1
          clear e1
          have HK : Hid (kpt l 2 d p (j + 1) = kpt l 2 d p j) := kpt_gone hlt (by rw [← HY.out]; exact hg.out)
          go_wp2
          exact ⟨⟨j + 1, _, _, by omega, by go_num, by rw [HK.out], by rw [HK.out]; exact OwnL.alloc HO.out _, bel_alloc HB.out _⟩, by simp [intOf]; omega⟩
        · have hg : Hid (goesB 2 d p (d1, p1, a1, r1, x1) = false) := by show _ = _; rw [goes2]; simp [e1]
          have q1 : (d1 == d) = false := by simpa using e1
          clear e1
          have HK : Hid (kpt l 2 d p (j + 1) = kpt l 2 d p j ++ [(d1, p1, a1, r1, x1)]) := by show _ = _; rw [kpt_kept hlt (by rw [← HY.out]; exact hg.out), ← HY.out]
          generalize hkj : kpt l 2 d p j = kj at *
          go_wp2_with (first | (at_builtin; refine wpList_append_L rfl (.tmp 62) (.tmp 64) rfl wq.heap.size _ _ kj [(d1, p1, a1, r1, x1)] rfl rfl ((HO.out.alloc _).alloc _) (ls_oneAt (by simp) _ _ _ _ _ _) (by simp; omega) (by have := hszq.out; simp; omega) (.inr (by simp)) ?_))
          intro g9 cg9 w9 hown9 _ hbel9 _
          have HN9 : Hid ((kj ++ [(d1, p1, a1, r1, x1)]).length = kj.length + 1) := by show _ = _; simp
          have HO9 : Hid (OwnL w9 wq.heap.size (.slice (some ⟨g9, 0, none⟩) (kj.length + 1) cg9) (kj ++ [(d1, p1, a1, r1, x1)])) := hown9
          have HB9 : Hid (Below wq.heap.size wq w9) := (bel_alloc (bel_alloc HB.out _) _).trans hbel9
          clear hown9 hbel9
          go_wp2
          exact ⟨⟨j + 1, some ⟨g9, 0, none⟩, cg9, by omega, by go_num, by rw [HK.out, HN9.out], by rw [HK.out]; exact HO9.out, HB9.out⟩, by simp [intOf]; omega⟩
      · obtain rfl : j = l.length := by omega
        clear hB hO
        go_wp2
        refine bodyPost_ret (v := .tuple #[.slice a9 (kpt l 2 d p l.length).length c9, .int .i64 0]) (by simp [results, Try.results38, go_sem]) rfl ⟨⟨_, by rw [HE.out], ?_⟩, bel_trans HB2.out HB.out⟩
        rw [HF.out]
        exact OwnL.ls HO.out

set_option maxHeartbeats 1000000 in
theorem dropped_3 (v : Value) (l : List Ln) (d p : Int) (w : World) (h : Ls w v l) (hc : chkC l = 0) :
    Calls Try.prog 38 #[v, .agg #[.int .i64 (3 : Int), .int .i64 d, .int .i64 p]] w fun e w' => (∃ v', e = .returned (.tuple #[v', .int .i64 (drE l (3 : Int))]) ∧ Ls w' v' (drC l (3 : Int) d p)) ∧ Below w.heap.size w w' := by
  have HL : Hid (Ls w v l) := h
  have h6 : l.length ≤ 6 := (chkC_zero.1 hc).1
  obtain ⟨a0, cap, rfl, hl, hm, h⟩ := h
  unfold maxLen at hm
  have HE : Hid (drE l 3 = 0) := (drC_ok (d := d) (p := p) hc (by omega)).1
  have HF : Hid (drC l 3 d p = kpt l 3 d p l.length) := (drC_ok hc (by omega)).2
  have hin : inB (3 : Int) 0 3 = true := by decide
  go_enter Try.func38, Try.ntmps38
  go_wp2_with fail
  refine (checkCache_any _ l _ (HL.out.keep (bel_alloc (Below.refl _ _) _))).mono ?_
  rw [hc]
  rintro e wp0 ⟨rfl, b1⟩
  have K1 := (Blk.new w #[.int .i64 (3 : Int), .int .i64 d, .int .i64 p] 61 (0, 0)).keep b1
  have HB2 : Hid (Below w.heap.size w wp0) := bel_trans (bel_alloc (Below.refl _ _) _) b1
  obtain ⟨c0, c1, c2⟩ := K1.three
  have s1 := K1.lt
  have HK1 : Hid _ := K1
  clear b1 K1
  go_wp2_with fail
  refine (cIn_any _ _ _ _).mono ?_
  rw [hin]
  rintro e wq ⟨rfl, rfl⟩
  have HLq : Hid (Ls wq (.slice a0 l.length cap) l) := HL.out.keep HB2.out
  clear HL c0 c1 c2
  rcases h with rfl | ⟨b, o, rfl, hb, _⟩
  · go_wp2
    go_loopw [7, 9, 10, 22] (fun v9 _ _ i w' => v9 = .slice none 0 0 ∧ i = .int .i64 0 ∧ w' = wq) (fun _ _ _ i _ => 0)
    case atStart => exact ⟨rfl, rfl, rfl⟩
    case round =>
      obtain ⟨rfl, rfl, rfl⟩ := hrel
      go_wp2
      refine bodyPost_ret (v := .tuple #[.slice none 0 0, .int .i64 0]) (by simp [results, Try.results38, go_sem]) rfl ⟨⟨_, by rw [HE.out], ?_⟩, HB2.out⟩
      rw [HF.out]
      exact Ls.nothing _
  · go_wp2
    go_loopw [7, 9, 10, 22] (fun v9 _ _ i w' => ∃ (j : Nat) (a9 : Option Addr) (c9 : Nat), j ≤ l.length ∧ i = .int .i64 j ∧ v9 = .slice a9 (kpt l 3 d p j).length c9 ∧ OwnL w' wq.heap.size v9 (kpt l 3 d p j) ∧ Below wq.heap.size wq w') (fun _ _ _ i _ => l.length - (intOf i).toNat)
    case atStart => exact ⟨0, _, _, Nat.zero_le _, rfl, by rw [kpt_zero]; rfl, by rw [kpt_zero]; exact OwnL.nothing _ _, Below.refl _ _⟩
    case round =>
      obtain ⟨j, a9, c9, hj, rfl, rfl, hO, hB⟩ := hrel
      have HO : Hid (OwnL wr wq.heap.size (.slice a9 (kpt l 3 d p j).length c9) (kpt l 3 d p j)) := hO
      have HB : Hid (Below wq.heap.size wq wr) := hB
      have hkl : (kpt l 3 d p j).length ≤ 6 := Nat.le_trans (kpt_len _ _ _ _ _) h6
      by_cases hlt : j < l.length
      · have hx := HLq.out.keep hB
        obtain ⟨a', cap', e', _, _, hx⟩ := hx
        rcases hx with hx | ⟨b', o', e2, hb', hc'⟩
        · rw [hx] at hlt; exact absurd hlt (Nat.not_lt_zero _)
        simp only [Value.slice.injEq] at e'
        obtain ⟨rfl, _, rfl⟩ := e'
        simp only [Option.some.injEq, Addr.mk.injEq, and_true] at e2
        obtain ⟨rfl, rfl⟩ := e2
        obtain ⟨g0, g1, g2, g3, g4⟩ := hc' j hlt
        clear hc'
        obtain ⟨y, hy⟩ : ∃ y, y = lth l j := ⟨_, rfl⟩
        have HY : Hid (y = lth l j) := hy
        rw [← hy] at g0 g1 g2 g3 g4
        clear hy
        obtain ⟨c0, c1, c2⟩ := (Blk.keep HK1.out hB).three
        have s2 : w.heap.size < wr.heap.size := Nat.lt_of_lt_of_le s1 hB.size
        have hszq : Hid (wq.heap.size ≤ wr.heap.size) := hB.size
        clear hB hO
        obtain ⟨d1, p1, a1, r1, x1⟩ := y
        simp only at g0 g1 g2 g3 g4
        have hlt1 : (j : Int) < l.length := by omega
        by_cases e1 : d1 = d
        · by_cases e2 : p1 = p
          · have hg : Hid (goesB 3 d p (d1, p1, a1, r1, x1) = true) := by show _ = _; rw [goes3]; simp [hasB, e1, e2]
            have q1 : (d1 == d) = true := by simpa using e1
            have q2 : (p1 == p) = true := by simpa using e2
            clear e1 e2
            have HK : Hid (kpt l 3 d p (j + 1) = kpt l 3 d p j) := kpt_gone hlt (by rw [← HY.out]; exact hg.out)
            go_wp2
            exact ⟨⟨j + 1, _, _, by omega, by go_num, by rw [HK.out], by rw [HK.out]; exact OwnL.alloc HO.out _, bel_alloc HB.out _⟩, by simp [intOf]; omega⟩
          · have hg : Hid (goesB 3 d p (d1, p1, a1, r1, x1) = false) := by show _ = _; rw [goes3]; simp [hasB, e2]
            have q1 : (d1 == d) = true := by simpa using e1
            have q2 : (p1 == p) = false := by simpa using e2
            clear e1 e2
            have HK : Hid (kpt l 3 d p (j + 1) = kpt l 3 d p j ++ [(d1, p1, a1, r1, x1)]) := by show _ = _; rw [kpt_kept hlt (by rw [← HY.out]; exact hg.out), ← HY.out]
            generalize hkj : kpt l 3 d p j = kj at *
            go_wp2_with (first | (at_builtin; refine wpList_append_L rfl (.tmp 62) (.tmp 64) rfl wq.heap.size _ _ kj [(d1, p1, a1, r1, x1)] rfl rfl ((HO.out.alloc _).alloc _) (ls_oneAt (by simp) _ _ _ _ _ _) (by simp; omega) (by have := hszq.out; simp; omega) (.inr (by simp)) ?_))
            intro g9 cg9 w9 hown9 _ hbel9 _
            have HN9 : Hid ((kj ++ [(d1, p1, a1, r1, x1)]).length = kj.length + 1) := by show _ = _; simp
            have HO9 : Hid (OwnL w9 wq.heap.size (.slice (some ⟨g9, 0, none⟩) (kj.length + 1) cg9) (kj ++ [(d1, p1, a1, r1, x1)])) := hown9
            have HB9 : Hid (Below wq.heap.size wq w9) := (bel_alloc (bel_alloc HB.out _) _).trans hbel9
            clear hown9 hbel9
            go_wp2
            exact ⟨⟨j + 1, some ⟨g9, 0, none⟩, cg9, by omega, by go_num, by rw [HK.out, HN9.out], by rw [HK.out]; exact HO9.out, HB9.out⟩, by simp [intOf]; omega⟩
        · have hg : Hid (goesB 3 d p (d1, p1, a1, r1, x1) = false) := by show _ = _; rw [goes3]; simp [hasB, e1]
          have q1 : (d1 == d) = false := by simpa using e1
          clear e1
          have HK : Hid (kpt l 3 d p (j + 1) = kpt l 3 d p j ++ [(d1, p1, a1, r1, x1)]) := by show _ = _; rw [kpt_kept hlt (by rw [← HY.out]; exact hg.out), ← HY.out]
          generalize hkj : kpt l 3 d p j = kj at *
          go_wp2_with (first | (at_builtin; refine wpList_append_L rfl (.tmp 62) (.tmp 64) rfl wq.heap.size _ _ kj [(d1, p1, a1, r1, x1)] rfl rfl ((HO.out.alloc _).alloc _) (ls_oneAt (by simp) _ _ _ _ _ _) (by simp; omega) (by have := hszq.out; simp; omega) (.inr (by simp)) ?_))
          intro g9 cg9 w9 hown9 _ hbel9 _
          have HN9 : Hid ((kj ++ [(d1, p1, a1, r1, x1)]).length = kj.length + 1) := by show _ = _; simp
          have HO9 : Hid (OwnL w9 wq.heap.size (.slice (some ⟨g9, 0, none⟩) (kj.length + 1) cg9) (kj ++ [(d1, p1, a1, r1, x1)])) := hown9
          have HB9 : Hid (Below wq.heap.size wq w9) := (bel_alloc (bel_alloc HB.out _) _).trans hbel9
          clear hown9 hbel9
          go_wp2
          exact ⟨⟨j + 1, some ⟨g9, 0, none⟩, cg9, by omega, by go_num, by rw [HK.out, HN9.out], by rw [HK.out]; exact HO9.out, HB9.out⟩, by simp [intOf]; omega⟩
      · obtain rfl : j = l.length := by omega
        clear hB hO
        go_wp2
        refine bodyPost_ret (v := .tuple #[.slice a9 (kpt l 3 d p l.length).length c9, .int .i64 0]) (by simp [results, Try.results38, go_sem]) rfl ⟨⟨_, by rw [HE.out], ?_⟩, bel_trans HB2.out HB.out⟩
        rw [HF.out]
        exact OwnL.ls HO.out

/-- What Dropped answers, whatever it is handed. -/
theorem dropped_any (v : Value) (l : List Ln) (k d p : Int) (w : World) (h : Ls w v l) :
    Calls Try.prog 38 #[v, .agg #[.int .i64 k, .int .i64 d, .int .i64 p]] w fun e w' => (∃ v', e = .returned (.tuple #[v', .int .i64 (drE l k)]) ∧ Ls w' v' (drC l k d p)) ∧ Below w.heap.size w w' := by
  by_cases hc : chkC l = 0
  · by_cases hk : 0 ≤ k ∧ k ≤ 3
    · have : k = 0 ∨ k = 1 ∨ k = 2 ∨ k = 3 := by omega
      rcases this with rfl | rfl | rfl | rfl
      · exact dropped_0 v l d p w h hc
      · exact dropped_1 v l d p w h hc
      · exact dropped_2 v l d p w h hc
      · exact dropped_3 v l d p w h hc
    · exact dropped_bad v l k d p w h hc hk
  · exact dropped_err v l k d p w h hc
end Go.Proofs.Ythejgilgcokngaa
