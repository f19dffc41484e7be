/-
  Laid together: DropC, Kept, Bridge1, CopyB.
-/
import Derived.Test.YtefcdcneenjbgabT5
/-
  cache.Drop: lines without those that an order makes the bridge forget; nothing that was there turns.
-/
namespace Go.Proofs.Ytefcdcneenjbgab
open Go.RowKit

/-- What is left of the first so many lines. -/
def kpt (l : List Ln) (k d p : Int) (j : Nat) : List Ln := (l.take j).filter (fun x => !goesB k d p x)
theorem kpt_zero (l : List Ln) (k d p : Int) : kpt l k d p 0 = [] := by simp [kpt]
theorem kpt_gone {l : List Ln} {k d p : Int} {j : Nat} (hj : j < l.length) (h : goesB k d p (lth l j) = true) : kpt l k d p (j + 1) = kpt l k d p j := by
  rw [lth_get hj] at h
  unfold kpt
  rw [List.take_succ_eq_append_getElem hj, List.filter_append]
  simp [h]
theorem kpt_kept {l : List Ln} {k d p : Int} {j : Nat} (hj : j < l.length) (h : goesB k d p (lth l j) = false) : kpt l k d p (j + 1) = kpt l k d p j ++ [lth l j] := by
  rw [lth_get hj] at h ⊢
  unfold kpt
  rw [List.take_succ_eq_append_getElem hj, List.filter_append]
  simp [h]
theorem kpt_all (l : List Ln) (k d p : Int) : kpt l k d p l.length = l.filter (fun x => !goesB k d p x) := by simp [kpt]
theorem kpt_len (l : List Ln) (k d p : Int) (j : Nat) : (kpt l k d p j).length ≤ l.length := by
  unfold kpt
  exact Nat.le_trans (List.length_filter_le _ _) (by simp; omega)
theorem goes0 (d p : Int) (x : Ln) : goesB 0 d p x = false := by simp [goesB]
theorem goes1 (d p : Int) (x : Ln) : goesB 1 d p x = true := by simp [goesB]
theorem goes2 (d p : Int) (x : Ln) : goesB 2 d p x = decide (x.1 = d) := by simp [goesB]
theorem goes3 (d p : Int) (x : Ln) : goesB 3 d p x = hasB d p x := by simp [goesB, hasB]
theorem drC_ok {l : List Ln} {k d p : Int} (hc : chkC l = 0) (h : 0 ≤ k ∧ k ≤ 3) : drE l k = 0 ∧ drC l k d p = kpt l k d p l.length := by
  have he : drE l k = 0 := by unfold drE; rw [if_pos hc, if_pos h]
  exact ⟨he, by rw [drC, if_pos he, kpt_all]⟩
/-- Three cells that are read, and nothing that has turned. -/
theorem keep3 {W w' : World} {n : Nat} {u0 u1 u2 : Value} (h0 : W.cell? ⟨n, 0, none⟩ = some u0) (h1 : W.cell? ⟨n, 1, none⟩ = some u1) (h2 : W.cell? ⟨n, 2, none⟩ = some u2) (hn : n < W.heap.size) (hb : Below W.heap.size W w') :
    w'.cell? ⟨n, 0, none⟩ = some u0 ∧ w'.cell? ⟨n, 1, none⟩ = some u1 ∧ w'.cell? ⟨n, 2, none⟩ = some u2 ∧ Below W.heap.size W w' :=
  ⟨((bcell hb).1 n 0 hn).trans h0, ((bcell hb).1 n 1 hn).trans h1, ((bcell hb).1 n 2 hn).trans h2, hb⟩
theorem limb3 {A B C D : Prop} (h : A ∧ B ∧ C ∧ D) : D := h.2.2.2

set_option maxHeartbeats 1000000 in
theorem drop_err (v : Value) (l : List Ln) (k d p : Int) (w : World) (h : Ls w v l) (hc : ¬ chkC l = 0) :
    Calls Try.prog 41 #[v, .agg #[.int .i64 k, .int .i64 d, .int .i64 p]] w fun e w' => (∃ v', e = .returned (.tuple #[v', .int .i64 (drE l k)]) ∧ Ls w' v' (drC l k d p)) ∧ Below w.heap.size w w' := by
  have HL : Hid (Ls w v l) := h
  obtain ⟨a0, cap, rfl, hl, hm, h⟩ := h
  have hq : (chkC l != 0) = true := by simpa using hc
  have HE : Hid (drE l k = chkC l) := by unfold drE; exact if_neg hc
  have HF : Hid (drC l k d p = []) := by unfold drC; exact if_neg (by rw [HE.out]; exact hc)
  clear hc
  go_enter Try.func41, Try.ntmps41
  go_wp2_with fail
  refine (cCheck_any _ l _ (HL.out.keep (bel_alloc (Below.refl _ _) _))).mono ?_
  rintro e w1 ⟨rfl, b1⟩
  have B1 : Hid (Below w.heap.size w w1) := bel_trans (bel_alloc (Below.refl _ _) _) b1
  clear b1
  generalize chkC l = z at *
  go_wp2
  refine bodyPost_ret (v := .tuple #[.slice none 0 0, .int .i64 z]) (by simp [results, Try.results41, go_sem]) rfl ⟨⟨_, by rw [HE.out], by rw [HF.out]; exact Ls.nothing _⟩, B1.out⟩

set_option maxHeartbeats 1000000 in
theorem drop_bad (v : Value) (l : List Ln) (k d p : Int) (w : World) (h : Ls w v l) (hc : chkC l = 0) (k0 : -9223372036854775808 ≤ k) (k1 : k ≤ 9223372036854775807) (hk : ¬ (0 ≤ k ∧ k ≤ 3)) :
    Calls Try.prog 41 #[v, .agg #[.int .i64 k, .int .i64 d, .int .i64 p]] w fun e w' => (∃ v', e = .returned (.tuple #[v', .int .i64 (drE l k)]) ∧ Ls w' v' (drC l k d p)) ∧ Below w.heap.size w w' := by
  have HL : Hid (Ls w v l) := h
  have h6 : l.length ≤ 6 := (chkC_zero.1 hc).1
  obtain ⟨a0, cap, rfl, hl, hm, h⟩ := h
  unfold maxLen at hm
  have HE : Hid (drE l k = 3) := by unfold drE; rw [if_pos hc, if_neg hk]; rfl
  have HF : Hid (drC l k d p = []) := by unfold drC; exact if_neg (by rw [HE.out]; decide)
  go_enter Try.func41, Try.ntmps41
  go_wp2_with fail
  refine (cCheck_any _ l _ (HL.out.keep (bel_alloc (Below.refl _ _) _))).mono ?_
  rw [hc]
  rintro e wx ⟨rfl, b1⟩
  have K1 := (Blk.new w #[.int .i64 k, .int .i64 d, .int .i64 p] 23 (0, 0)).keep b1
  have B1 : Hid (Below w.heap.size w wx) := bel_trans (bel_alloc (Below.refl _ _) _) b1
  obtain ⟨c0, c1, c2⟩ := K1.three
  have s1 := K1.lt
  clear b1 K1
  go_wp2
  go_region_held3 (fun w' => w'.cell? ⟨w.heap.size, 0, none⟩ = some (.int .i64 k) ∧ w'.cell? ⟨w.heap.size, 1, none⟩ = some (.int .i64 d) ∧ w'.cell? ⟨w.heap.size, 2, none⟩ = some (.int .i64 p) ∧ Below wx.heap.size wx w')
    (with_reducible refine keep3 (by assumption) (by assumption) (by assumption) (by assumption) ?_; (repeat (first | with_reducible assumption | (with_reducible (refine limb3 (?_ : _ ∧ _ ∧ _ ∧ _); assumption)) | with_reducible exact Below.refl _ _ | with_reducible refine Below.drew ?_ | with_reducible refine bel_drewN ?_ _ | with_reducible refine bel_alloc ?_ _ | with_reducible refine bel_trans ?_ (by assumption))))
    (first | (go_at_call 81; refine (questions_any k d p _).mono ?_; rintro e wq ⟨⟨bq, rfl, hq⟩, bb⟩; have hlook := hq.no k0 k1 hk))
  rename_i hH
  have HB2 : Hid (Below w.heap.size w wq) := bel_trans B1.out (limb3 hH)
  clear hH bb hq c0 c1 c2 s1 B1
  go_wp2
  refine bodyPost_ret (v := .tuple #[.slice none 0 0, .int .i64 3]) (by simp [results, Try.results41, go_sem]) rfl ⟨⟨_, by rw [HE.out], by rw [HF.out]; exact Ls.nothing _⟩, HB2.out⟩

set_option maxHeartbeats 1000000 in
theorem drop_0 (v : Value) (l : List Ln) (d p : Int) (w : World) (h : Ls w v l) (hc : chkC l = 0) :
    Calls Try.prog 41 #[v, .agg #[.int .i64 (0 : Int), .int .i64 d, .int .i64 p]] w fun e w' => (∃ v', e = .returned (.tuple #[v', .int .i64 (drE l (0 : Int))]) ∧ Ls w' v' (drC l (0 : Int) d p)) ∧ Below w.heap.size w w' := by
  have HL : Hid (Ls w v l) := h
  have h6 : l.length ≤ 6 := (chkC_zero.1 hc).1
  obtain ⟨a0, cap, rfl, hl, hm, h⟩ := h
  unfold maxLen at hm
  have HE : Hid (drE l 0 = 0) := (drC_ok (d := d) (p := p) hc (by omega)).1
  have HF : Hid (drC l 0 d p = kpt l 0 d p l.length) := (drC_ok hc (by omega)).2
  go_enter Try.func41, Try.ntmps41
  go_wp2_with fail
  refine (cCheck_any _ l _ (HL.out.keep (bel_alloc (Below.refl _ _) _))).mono ?_
  rw [hc]
  rintro e wx ⟨rfl, b1⟩
  have K1 := (Blk.new w #[.int .i64 (0 : Int), .int .i64 d, .int .i64 p] 23 (0, 0)).keep b1
  have B1 : Hid (Below w.heap.size w wx) := bel_trans (bel_alloc (Below.refl _ _) _) b1
  obtain ⟨c0, c1, c2⟩ := K1.three
  have s1 := K1.lt
  clear b1 K1
  go_wp2
  go_region_held3 (fun w' => w'.cell? ⟨w.heap.size, 0, none⟩ = some (.int .i64 (0 : Int)) ∧ w'.cell? ⟨w.heap.size, 1, none⟩ = some (.int .i64 d) ∧ w'.cell? ⟨w.heap.size, 2, none⟩ = some (.int .i64 p) ∧ Below wx.heap.size wx w')
    (with_reducible refine keep3 (by assumption) (by assumption) (by assumption) (by assumption) ?_; (repeat (first | with_reducible assumption | (with_reducible (refine limb3 (?_ : _ ∧ _ ∧ _ ∧ _); assumption)) | with_reducible exact Below.refl _ _ | with_reducible refine Below.drew ?_ | with_reducible refine bel_drewN ?_ _ | with_reducible refine bel_alloc ?_ _ | with_reducible refine bel_trans ?_ (by assumption))))
    (first | (go_at_call 81; refine (questions_any (0 : Int) d p _).mono ?_; rintro e wq ⟨⟨bq, rfl, hq⟩, bb⟩; have hlook := hq.at0))
  rename_i hH
  have HB2 : Hid (Below w.heap.size w wq) := bel_trans B1.out (limb3 hH)
  clear hH bb hq c0 c1 c2 s1 B1
  have HLq : Hid (Ls wq (.slice a0 l.length cap) l) := HL.out.keep HB2.out
  have HO0 : Hid (OwnL (wq.alloc (.cells #[] 68)) wq.heap.size (.slice (some ⟨wq.heap.size, 0, none⟩) 0 0) []) := OwnL.lit wq _ (Nat.le_refl _)
  clear HL hlook
  rcases h with rfl | ⟨b, o, rfl, hb, _⟩
  · go_wp2
    go_loopw [9, 11, 30] (fun v9 _ i w' => v9 = .slice (some ⟨wq.heap.size, 0, none⟩) 0 0 ∧ i = .int .i64 0 ∧ w' = wq.alloc (.cells #[] 68)) (fun _ _ i _ => 0)
    case atStart => exact ⟨rfl, rfl, rfl⟩
    case round =>
      obtain ⟨rfl, rfl, rfl⟩ := hrel
      go_wp2
      refine bodyPost_ret (v := .tuple #[.slice (some ⟨wq.heap.size, 0, none⟩) 0 0, .int .i64 0]) (by simp [results, Try.results41, go_sem]) rfl ⟨⟨_, by rw [HE.out], ?_⟩, bel_alloc HB2.out _⟩
      rw [HF.out]
      exact OwnL.ls HO0.out
  · go_wp2
    go_loopw [9, 11, 30] (fun v9 _ i w' => ∃ (j : Nat) (a9 : Option Addr) (c9 : Nat), j ≤ l.length ∧ i = .int .i64 j ∧ v9 = .slice a9 (kpt l 0 d p j).length c9 ∧ OwnL w' wq.heap.size v9 (kpt l 0 d p j) ∧ Below wq.heap.size wq w') (fun _ _ i _ => l.length - (intOf i).toNat)
    case atStart => exact ⟨0, _, _, Nat.zero_le _, rfl, by rw [kpt_zero]; rfl, by rw [kpt_zero]; exact HO0.out, bel_alloc (Below.refl _ _) _⟩
    case round =>
      obtain ⟨j, a9, c9, hj, rfl, rfl, hO, hB⟩ := hrel
      have HO : Hid (OwnL wr wq.heap.size (.slice a9 (kpt l 0 d p j).length c9) (kpt l 0 d p j)) := hO
      have HB : Hid (Below wq.heap.size wq wr) := hB
      have hkl : (kpt l 0 d p j).length ≤ 6 := Nat.le_trans (kpt_len _ _ _ _ _) h6
      by_cases hlt : j < l.length
      · have hx := HLq.out.keep hB
        obtain ⟨a', cap', e', _, _, hx⟩ := hx
        rcases hx with hx | ⟨b', o', e2, hb', hc'⟩
        · rw [hx] at hlt; exact absurd hlt (Nat.not_lt_zero _)
        simp only [Value.slice.injEq] at e'
        obtain ⟨rfl, _, rfl⟩ := e'
        simp only [Option.some.injEq, Addr.mk.injEq, and_true] at e2
        obtain ⟨rfl, rfl⟩ := e2
        obtain ⟨g0, g1, g2, g3, g4⟩ := hc' j hlt
        clear hc'
        obtain ⟨y, hy⟩ : ∃ y, y = lth l j := ⟨_, rfl⟩
        have HY : Hid (y = lth l j) := hy
        rw [← hy] at g0 g1 g2 g3 g4
        clear hy
        have hszq : Hid (wq.heap.size ≤ wr.heap.size) := hB.size
        clear hB hO
        obtain ⟨d1, p1, a1, r1, x1⟩ := y
        simp only at g0 g1 g2 g3 g4
        have hlt1 : (j : Int) < l.length := by omega
        go_wp2_with fail
        refine (q0_any d1 p1 a1 r1 x1 _).mono ?_
        rintro e w1 ⟨rfl, ob, rfl⟩
        have hg := goes0 d p (d1, p1, a1, r1, x1)
        have HK : Hid (kpt l 0 d p (j + 1) = kpt l 0 d p j ++ [(d1, p1, a1, r1, x1)]) := by show _ = _; rw [kpt_kept hlt (by rw [← HY.out]; exact hg), ← HY.out]
        generalize hkj : kpt l 0 d p j = kj at *
        go_wp2_with (first | (at_builtin; refine wpList_append_L rfl (.tmp 38) (.tmp 40) rfl wq.heap.size _ _ kj [(d1, p1, a1, r1, x1)] rfl rfl (((HO.out.alloc _).alloc _).alloc _) (ls_oneAt (by simp) _ _ _ _ _ _) (by simp; omega) (by have := hszq.out; simp; omega) (.inr (by simp)) ?_))
        intro g9 cg9 w9 hown9 _ hbel9 _
        have HN9 : Hid ((kj ++ [(d1, p1, a1, r1, x1)]).length = kj.length + 1) := by show _ = _; simp
        have HO9 : Hid (OwnL w9 wq.heap.size (.slice (some ⟨g9, 0, none⟩) (kj.length + 1) cg9) (kj ++ [(d1, p1, a1, r1, x1)])) := hown9
        have HB9 : Hid (Below wq.heap.size wq w9) := (bel_alloc (bel_alloc (bel_alloc HB.out _) _) _).trans hbel9
        clear hown9 hbel9
        go_wp2
        exact ⟨⟨j + 1, some ⟨g9, 0, none⟩, cg9, by omega, by go_num, by rw [HK.out, HN9.out], by rw [HK.out]; exact HO9.out, HB9.out⟩, by simp [intOf]; omega⟩
      · obtain rfl : j = l.length := by omega
        clear hB hO
        go_wp2
        refine bodyPost_ret (v := .tuple #[.slice a9 (kpt l 0 d p l.length).length c9, .int .i64 0]) (by simp [results, Try.results41, go_sem]) rfl ⟨⟨_, by rw [HE.out], ?_⟩, bel_trans HB2.out HB.out⟩
        rw [HF.out]
        exact OwnL.ls HO.out

set_option maxHeartbeats 1000000 in
theorem drop_1 (v : Value) (l : List Ln) (d p : Int) (w : World) (h : Ls w v l) (hc : chkC l = 0) :
    Calls Try.prog 41 #[v, .agg #[.int .i64 (1 : Int), .int .i64 d, .int .i64 p]] w fun e w' => (∃ v', e = .returned (.tuple #[v', .int .i64 (drE l (1 : Int))]) ∧ Ls w' v' (drC l (1 : Int) d p)) ∧ Below w.heap.size w w' := by
  have HL : Hid (Ls w v l) := h
  have h6 : l.length ≤ 6 := (chkC_zero.1 hc).1
  obtain ⟨a0, cap, rfl, hl, hm, h⟩ := h
  unfold maxLen at hm
  have HE : Hid (drE l 1 = 0) := (drC_ok (d := d) (p := p) hc (by omega)).1
  have HF : Hid (drC l 1 d p = kpt l 1 d p l.length) := (drC_ok hc (by omega)).2
  go_enter Try.func41, Try.ntmps41
  go_wp2_with fail
  refine (cCheck_any _ l _ (HL.out.keep (bel_alloc (Below.refl _ _) _))).mono ?_
  rw [hc]
  rintro e wx ⟨rfl, b1⟩
  have K1 := (Blk.new w #[.int .i64 (1 : Int), .int .i64 d, .int .i64 p] 23 (0, 0)).keep b1
  have B1 : Hid (Below w.heap.size w wx) := bel_trans (bel_alloc (Below.refl _ _) _) b1
  obtain ⟨c0, c1, c2⟩ := K1.three
  have s1 := K1.lt
  clear b1 K1
  go_wp2
  go_region_held3 (fun w' => w'.cell? ⟨w.heap.size, 0, none⟩ = some (.int .i64 (1 : Int)) ∧ w'.cell? ⟨w.heap.size, 1, none⟩ = some (.int .i64 d) ∧ w'.cell? ⟨w.heap.size, 2, none⟩ = some (.int .i64 p) ∧ Below wx.heap.size wx w')
    (with_reducible refine keep3 (by assumption) (by assumption) (by assumption) (by assumption) ?_; (repeat (first | with_reducible assumption | (with_reducible (refine limb3 (?_ : _ ∧ _ ∧ _ ∧ _); assumption)) | with_reducible exact Below.refl _ _ | with_reducible refine Below.drew ?_ | with_reducible refine bel_drewN ?_ _ | with_reducible refine bel_alloc ?_ _ | with_reducible refine bel_trans ?_ (by assumption))))
    (first | (go_at_call 81; refine (questions_any (1 : Int) d p _).mono ?_; rintro e wq ⟨⟨bq, rfl, hq⟩, bb⟩; have hlook := hq.at1))
  rename_i hH
  have HB2 : Hid (Below w.heap.size w wq) := bel_trans B1.out (limb3 hH)
  clear hH bb hq c0 c1 c2 s1 B1
  have HLq : Hid (Ls wq (.slice a0 l.length cap) l) := HL.out.keep HB2.out
  have HO0 : Hid (OwnL (wq.alloc (.cells #[] 68)) wq.heap.size (.slice (some ⟨wq.heap.size, 0, none⟩) 0 0) []) := OwnL.lit wq _ (Nat.le_refl _)
  clear HL hlook
  rcases h with rfl | ⟨b, o, rfl, hb, _⟩
  · go_wp2
    go_loopw [9, 11, 30] (fun v9 _ i w' => v9 = .slice (some ⟨wq.heap.size, 0, none⟩) 0 0 ∧ i = .int .i64 0 ∧ w' = wq.alloc (.cells #[] 68)) (fun _ _ i _ => 0)
    case atStart => exact ⟨rfl, rfl, rfl⟩
    case round =>
      obtain ⟨rfl, rfl, rfl⟩ := hrel
      go_wp2
      refine bodyPost_ret (v := .tuple #[.slice (some ⟨wq.heap.size, 0, none⟩) 0 0, .int .i64 0]) (by simp [results, Try.results41, go_sem]) rfl ⟨⟨_, by rw [HE.out], ?_⟩, bel_alloc HB2.out _⟩
      rw [HF.out]
      exact OwnL.ls HO0.out
  · go_wp2
    go_loopw [9, 11, 30] (fun v9 _ i w' => ∃ (j : Nat) (a9 : Option Addr) (c9 : Nat), j ≤ l.length ∧ i = .int .i64 j ∧ v9 = .slice a9 (kpt l 1 d p j).length c9 ∧ OwnL w' wq.heap.size v9 (kpt l 1 d p j) ∧ Below wq.heap.size wq w') (fun _ _ i _ => l.length - (intOf i).toNat)
    case atStart => exact ⟨0, _, _, Nat.zero_le _, rfl, by rw [kpt_zero]; rfl, by rw [kpt_zero]; exact HO0.out, bel_alloc (Below.refl _ _) _⟩
    case round =>
      obtain ⟨j, a9, c9, hj, rfl, rfl, hO, hB⟩ := hrel
      have HO : Hid (OwnL wr wq.heap.size (.slice a9 (kpt l 1 d p j).length c9) (kpt l 1 d p j)) := hO
      have HB : Hid (Below wq.heap.size wq wr) := hB
      have hkl : (kpt l 1 d p j).length ≤ 6 := Nat.le_trans (kpt_len _ _ _ _ _) h6
      by_cases hlt : j < l.length
      · have hx := HLq.out.keep hB
        obtain ⟨a', cap', e', _, _, hx⟩ := hx
        rcases hx with hx | ⟨b', o', e2, hb', hc'⟩
        · rw [hx] at hlt; exact absurd hlt (Nat.not_lt_zero _)
        simp only [Value.slice.injEq] at e'
        obtain ⟨rfl, _, rfl⟩ := e'
        simp only [Option.some.injEq, Addr.mk.injEq, and_true] at e2
        obtain ⟨rfl, rfl⟩ := e2
        obtain ⟨g0, g1, g2, g3, g4⟩ := hc' j hlt
        clear hc'
        obtain ⟨y, hy⟩ : ∃ y, y = lth l j := ⟨_, rfl⟩
        have HY : Hid (y = lth l j) := hy
        rw [← hy] at g0 g1 g2 g3 g4
        clear hy
        have hszq : Hid (wq.heap.size ≤ wr.heap.size) := hB.size
        clear hB hO
        obtain ⟨d1, p1, a1, r1, x1⟩ := y
        simp only at g0 g1 g2 g3 g4
        have hlt1 : (j : Int) < l.length := by omega
        go_wp2_with fail
        refine (q1_any d1 p1 a1 r1 x1 _).mono ?_
        rintro e w1 ⟨rfl, ob, rfl⟩
        have hg := goes1 d p (d1, p1, a1, r1, x1)
        have HK : Hid (kpt l 1 d p (j + 1) = kpt l 1 d p j) := kpt_gone hlt (by rw [← HY.out]; exact hg)
        go_wp2
        exact ⟨⟨j + 1, _, _, by omega, by go_num, by rw [HK.out], by rw [HK.out]; exact (OwnL.alloc HO.out _).alloc _, bel_alloc (bel_alloc HB.out _) _⟩, by simp [intOf]; omega⟩
      · obtain rfl : j = l.length := by omega
        clear hB hO
        go_wp2
        refine bodyPost_ret (v := .tuple #[.slice a9 (kpt l 1 d p l.length).length c9, .int .i64 0]) (by simp [results, Try.results41, go_sem]) rfl ⟨⟨_, by rw [HE.out], ?_⟩, bel_trans HB2.out HB.out⟩
        rw [HF.out]
        exact OwnL.ls HO.out

set_option maxHeartbeats 1000000 in
theorem drop_2 (v : Value) (l : List Ln) (d p : Int) (w : World) (h : Ls w v l) (hc : chkC l = 0) :
    Calls Try.prog 41 #[v, .agg #[.int .i64 (2 : Int), .int .i64 d, .int .i64 p]] w fun e w' => (∃ v', e = .returned (.tuple #[v', .int .i64 (drE l (2 : Int))]) ∧ Ls w' v' (drC l (2 : Int) d p)) ∧ Below w.heap.size w w' := by
  have HL : Hid (Ls w v l) := h
  have h6 : l.length ≤ 6 := (chkC_zero.1 hc).1
  obtain ⟨a0, cap, rfl, hl, hm, h⟩ := h
  unfold maxLen at hm
  have HE : Hid (drE l 2 = 0) := (drC_ok (d := d) (p := p) hc (by omega)).1
  have HF : Hid (drC l 2 d p = kpt l 2 d p l.length) := (drC_ok hc (by omega)).2
  go_enter Try.func41, Try.ntmps41
  go_wp2_with fail
  refine (cCheck_any _ l _ (HL.out.keep (bel_alloc (Below.refl _ _) _))).mono ?_
  rw [hc]
  rintro e wx ⟨rfl, b1⟩
  have K1 := (Blk.new w #[.int .i64 (2 : Int), .int .i64 d, .int .i64 p] 23 (0, 0)).keep b1
  have B1 : Hid (Below w.heap.size w wx) := bel_trans (bel_alloc (Below.refl _ _) _) b1
  obtain ⟨c0, c1, c2⟩ := K1.three
  have s1 := K1.lt
  clear b1 K1
  go_wp2
  go_region_held3 (fun w' => w'.cell? ⟨w.heap.size, 0, none⟩ = some (.int .i64 (2 : Int)) ∧ w'.cell? ⟨w.heap.size, 1, none⟩ = some (.int .i64 d) ∧ w'.cell? ⟨w.heap.size, 2, none⟩ = some (.int .i64 p) ∧ Below wx.heap.size wx w')
    (with_reducible refine keep3 (by assumption) (by assumption) (by assumption) (by assumption) ?_; (repeat (first | with_reducible assumption | (with_reducible (refine limb3 (?_ : _ ∧ _ ∧ _ ∧ _); assumption)) | with_reducible exact Below.refl _ _ | with_reducible refine Below.drew ?_ | with_reducible refine bel_drewN ?_ _ | with_reducible refine bel_alloc ?_ _ | with_reducible refine bel_trans ?_ (by assumption))))
    (first | (go_at_call 81; refine (questions_any (2 : Int) d p _).mono ?_; rintro e wq ⟨⟨bq, rfl, hq⟩, bb⟩; obtain ⟨nq, hlook, hcq, hlq⟩ := hq.at2))
  rename_i hH
  have HB2 : Hid (Below w.heap.size w wq) := bel_trans B1.out (limb3 hH)
  clear hH bb hq c0 c1 c2 s1 B1
  have HCq : Hid (wq.cell? ⟨nq, 1, none⟩ = some (.int .i64 d)) := hcq
  clear hcq
  have HLq : Hid (Ls wq (.slice a0 l.length cap) l) := HL.out.keep HB2.out
  have HO0 : Hid (OwnL (wq.alloc (.cells #[] 68)) wq.heap.size (.slice (some ⟨wq.heap.size, 0, none⟩) 0 0) []) := OwnL.lit wq _ (Nat.le_refl _)
  clear HL hlook
  rcases h with rfl | ⟨b, o, rfl, hb, _⟩
  · go_wp2
    go_loopw [9, 11, 30] (fun v9 _ i w' => v9 = .slice (some ⟨wq.heap.size, 0, none⟩) 0 0 ∧ i = .int .i64 0 ∧ w' = wq.alloc (.cells #[] 68)) (fun _ _ i _ => 0)
    case atStart => exact ⟨rfl, rfl, rfl⟩
    case round =>
      obtain ⟨rfl, rfl, rfl⟩ := hrel
      go_wp2
      refine bodyPost_ret (v := .tuple #[.slice (some ⟨wq.heap.size, 0, none⟩) 0 0, .int .i64 0]) (by simp [results, Try.results41, go_sem]) rfl ⟨⟨_, by rw [HE.out], ?_⟩, bel_alloc HB2.out _⟩
      rw [HF.out]
      exact OwnL.ls HO0.out
  · go_wp2
    go_loopw [9, 11, 30] (fun v9 _ i w' => ∃ (j : Nat) (a9 : Option Addr) (c9 : Nat), j ≤ l.length ∧ i = .int .i64 j ∧ v9 = .slice a9 (kpt l 2 d p j).length c9 ∧ OwnL w' wq.heap.size v9 (kpt l 2 d p j) ∧ Below wq.heap.size wq w') (fun _ _ i _ => l.length - (intOf i).toNat)
    case atStart => exact ⟨0, _, _, Nat.zero_le _, rfl, by rw [kpt_zero]; rfl, by rw [kpt_zero]; exact HO0.out, bel_alloc (Below.refl _ _) _⟩
    case round =>
      obtain ⟨j, a9, c9, hj, rfl, rfl, hO, hB⟩ := hrel
      have HO : Hid (OwnL wr wq.heap.size (.slice a9 (kpt l 2 d p j).length c9) (kpt l 2 d p j)) := hO
      have HB : Hid (Below wq.heap.size wq wr) := hB
      have hkl : (kpt l 2 d p j).length ≤ 6 := Nat.le_trans (kpt_len _ _ _ _ _) h6
      by_cases hlt : j < l.length
      · have hx := HLq.out.keep hB
        obtain ⟨a', cap', e', _, _, hx⟩ := hx
        rcases hx with hx | ⟨b', o', e2, hb', hc'⟩
        · rw [hx] at hlt; exact absurd hlt (Nat.not_lt_zero _)
        simp only [Value.slice.injEq] at e'
        obtain ⟨rfl, _, rfl⟩ := e'
        simp only [Option.some.injEq, Addr.mk.injEq, and_true] at e2
        obtain ⟨rfl, rfl⟩ := e2
        obtain ⟨g0, g1, g2, g3, g4⟩ := hc' j hlt
        clear hc'
        obtain ⟨y, hy⟩ : ∃ y, y = lth l j := ⟨_, rfl⟩
        have HY : Hid (y = lth l j) := hy
        rw [← hy] at g0 g1 g2 g3 g4
        clear hy
        have cq : Hid (wr.cell? ⟨nq, 1, none⟩ = some (.int .i64 d)) := ((bcell hB).1 nq 1 hlq).trans HCq.out
        have lq : nq < wr.heap.size := Nat.lt_of_lt_of_le hlq hB.size
        have hszq : Hid (wq.heap.size ≤ wr.heap.size) := hB.size
        clear hB hO
        obtain ⟨d1, p1, a1, r1, x1⟩ := y
        simp only at g0 g1 g2 g3 g4
        have hlt1 : (j : Int) < l.length := by omega
        go_wp2_with fail
        refine (q2_any nq d d1 p1 a1 r1 x1 _ (by rw [World.cell?_alloc_past _ _ _ lq]; exact cq.out) (by simp; omega)).mono ?_
        rintro e w1 ⟨rfl, ob, rfl⟩
        have hgo := (goes2 d p (d1, p1, a1, r1, x1)).symm
        simp only at hgo
        rw [hgo]
        clear hgo
        cases hg : goesB 2 d p (d1, p1, a1, r1, x1)
        · have HK : Hid (kpt l 2 d p (j + 1) = kpt l 2 d p j ++ [(d1, p1, a1, r1, x1)]) := by show _ = _; rw [kpt_kept hlt (by rw [← HY.out]; exact hg), ← HY.out]
          generalize hkj : kpt l 2 d p j = kj at *
          go_wp2_with (first | (at_builtin; refine wpList_append_L rfl (.tmp 38) (.tmp 40) rfl wq.heap.size _ _ kj [(d1, p1, a1, r1, x1)] rfl rfl (((HO.out.alloc _).alloc _).alloc _) (ls_oneAt (by simp) _ _ _ _ _ _) (by simp; omega) (by have := hszq.out; simp; omega) (.inr (by simp)) ?_))
          intro g9 cg9 w9 hown9 _ hbel9 _
          have HN9 : Hid ((kj ++ [(d1, p1, a1, r1, x1)]).length = kj.length + 1) := by show _ = _; simp
          have HO9 : Hid (OwnL w9 wq.heap.size (.slice (some ⟨g9, 0, none⟩) (kj.length + 1) cg9) (kj ++ [(d1, p1, a1, r1, x1)])) := hown9
          have HB9 : Hid (Below wq.heap.size wq w9) := (bel_alloc (bel_alloc (bel_alloc HB.out _) _) _).trans hbel9
          clear hown9 hbel9
          go_wp2
          exact ⟨⟨j + 1, some ⟨g9, 0, none⟩, cg9, by omega, by go_num, by rw [HK.out, HN9.out], by rw [HK.out]; exact HO9.out, HB9.out⟩, by simp [intOf]; omega⟩
        · have HK : Hid (kpt l 2 d p (j + 1) = kpt l 2 d p j) := kpt_gone hlt (by rw [← HY.out]; exact hg)
          go_wp2
          exact ⟨⟨j + 1, _, _, by omega, by go_num, by rw [HK.out], by rw [HK.out]; exact (OwnL.alloc HO.out _).alloc _, bel_alloc (bel_alloc HB.out _) _⟩, by simp [intOf]; omega⟩
      · obtain rfl : j = l.length := by omega
        clear hB hO
        go_wp2
        refine bodyPost_ret (v := .tuple #[.slice a9 (kpt l 2 d p l.length).length c9, .int .i64 0]) (by simp [results, Try.results41, go_sem]) rfl ⟨⟨_, by rw [HE.out], ?_⟩, bel_trans HB2.out HB.out⟩
        rw [HF.out]
        exact OwnL.ls HO.out

set_option maxHeartbeats 1000000 in
theorem drop_3 (v : Value) (l : List Ln) (d p : Int) (w : World) (h : Ls w v l) (hc : chkC l = 0) :
    Calls Try.prog 41 #[v, .agg #[.int .i64 (3 : Int), .int .i64 d, .int .i64 p]] w fun e w' => (∃ v', e = .returned (.tuple #[v', .int .i64 (drE l (3 : Int))]) ∧ Ls w' v' (drC l (3 : Int) d p)) ∧ Below w.heap.size w w' := by
  have HL : Hid (Ls w v l) := h
  have h6 : l.length ≤ 6 := (chkC_zero.1 hc).1
  obtain ⟨a0, cap, rfl, hl, hm, h⟩ := h
  unfold maxLen at hm
  have HE : Hid (drE l 3 = 0) := (drC_ok (d := d) (p := p) hc (by omega)).1
  have HF : Hid (drC l 3 d p = kpt l 3 d p l.length) := (drC_ok hc (by omega)).2
  go_enter Try.func41, Try.ntmps41
  go_wp2_with fail
  refine (cCheck_any _ l _ (HL.out.keep (bel_alloc (Below.refl _ _) _))).mono ?_
  rw [hc]
  rintro e wx ⟨rfl, b1⟩
  have K1 := (Blk.new w #[.int .i64 (3 : Int), .int .i64 d, .int .i64 p] 23 (0, 0)).keep b1
  have B1 : Hid (Below w.heap.size w wx) := bel_trans (bel_alloc (Below.refl _ _) _) b1
  obtain ⟨c0, c1, c2⟩ := K1.three
  have s1 := K1.lt
  clear b1 K1
  go_wp2
  go_region_held3 (fun w' => w'.cell? ⟨w.heap.size, 0, none⟩ = some (.int .i64 (3 : Int)) ∧ w'.cell? ⟨w.heap.size, 1, none⟩ = some (.int .i64 d) ∧ w'.cell? ⟨w.heap.size, 2, none⟩ = some (.int .i64 p) ∧ Below wx.heap.size wx w')
    (with_reducible refine keep3 (by assumption) (by assumption) (by assumption) (by assumption) ?_; (repeat (first | with_reducible assumption | (with_reducible (refine limb3 (?_ : _ ∧ _ ∧ _ ∧ _); assumption)) | with_reducible exact Below.refl _ _ | with_reducible refine Below.drew ?_ | with_reducible refine bel_drewN ?_ _ | with_reducible refine bel_alloc ?_ _ | with_reducible refine bel_trans ?_ (by assumption))))
    (first | (go_at_call 81; refine (questions_any (3 : Int) d p _).mono ?_; rintro e wq ⟨⟨bq, rfl, hq⟩, bb⟩; obtain ⟨uq, vq, hlook, ⟨hcu, hlu⟩, ⟨hcv, hlv⟩⟩ := hq.at3))
  rename_i hH
  have HB2 : Hid (Below w.heap.size w wq) := bel_trans B1.out (limb3 hH)
  clear hH bb hq c0 c1 c2 s1 B1
  have HCu : Hid (wq.cell? ⟨uq, 0, none⟩ = some (.int .i64 d)) := hcu
  have HCv : Hid (wq.cell? ⟨vq, 0, none⟩ = some (.int .i64 p)) := hcv
  clear hcu hcv
  have HLq : Hid (Ls wq (.slice a0 l.length cap) l) := HL.out.keep HB2.out
  have HO0 : Hid (OwnL (wq.alloc (.cells #[] 68)) wq.heap.size (.slice (some ⟨wq.heap.size, 0, none⟩) 0 0) []) := OwnL.lit wq _ (Nat.le_refl _)
  clear HL hlook
  rcases h with rfl | ⟨b, o, rfl, hb, _⟩
  · go_wp2
    go_loopw [9, 11, 30] (fun v9 _ i w' => v9 = .slice (some ⟨wq.heap.size, 0, none⟩) 0 0 ∧ i = .int .i64 0 ∧ w' = wq.alloc (.cells #[] 68)) (fun _ _ i _ => 0)
    case atStart => exact ⟨rfl, rfl, rfl⟩
    case round =>
      obtain ⟨rfl, rfl, rfl⟩ := hrel
      go_wp2
      refine bodyPost_ret (v := .tuple #[.slice (some ⟨wq.heap.size, 0, none⟩) 0 0, .int .i64 0]) (by simp [results, Try.results41, go_sem]) rfl ⟨⟨_, by rw [HE.out], ?_⟩, bel_alloc HB2.out _⟩
      rw [HF.out]
      exact OwnL.ls HO0.out
  · go_wp2
    go_loopw [9, 11, 30] (fun v9 _ i w' => ∃ (j : Nat) (a9 : Option Addr) (c9 : Nat), j ≤ l.length ∧ i = .int .i64 j ∧ v9 = .slice a9 (kpt l 3 d p j).length c9 ∧ OwnL w' wq.heap.size v9 (kpt l 3 d p j) ∧ Below wq.heap.size wq w') (fun _ _ i _ => l.length - (intOf i).toNat)
    case atStart => exact ⟨0, _, _, Nat.zero_le _, rfl, by rw [kpt_zero]; rfl, by rw [kpt_zero]; exact HO0.out, bel_alloc (Below.refl _ _) _⟩
    case round =>
      obtain ⟨j, a9, c9, hj, rfl, rfl, hO, hB⟩ := hrel
      have HO : Hid (OwnL wr wq.heap.size (.slice a9 (kpt l 3 d p j).length c9) (kpt l 3 d p j)) := hO
      have HB : Hid (Below wq.heap.size wq wr) := hB
      have hkl : (kpt l 3 d p j).length ≤ 6 := Nat.le_trans (kpt_len _ _ _ _ _) h6
      by_cases hlt : j < l.length
      · have hx := HLq.out.keep hB
        obtain ⟨a', cap', e', _, _, hx⟩ := hx
        rcases hx with hx | ⟨b', o', e2, hb', hc'⟩
        · rw [hx] at hlt; exact absurd hlt (Nat.not_lt_zero _)
        simp only [Value.slice.injEq] at e'
        obtain ⟨rfl, _, rfl⟩ := e'
        simp only [Option.some.injEq, Addr.mk.injEq, and_true] at e2
        obtain ⟨rfl, rfl⟩ := e2
        obtain ⟨g0, g1, g2, g3, g4⟩ := hc' j hlt
        clear hc'
        obtain ⟨y, hy⟩ : ∃ y, y = lth l j := ⟨_, rfl⟩
        have HY : Hid (y = lth l j) := hy
        rw [← hy] at g0 g1 g2 g3 g4
        clear hy
        have cu : Hid (wr.cell? ⟨uq, 0, none⟩ = some (.int .i64 d)) := ((bcell hB).1 uq 0 hlu).trans HCu.out
        have lu : uq < wr.heap.size := Nat.lt_of_lt_of_le hlu hB.size
        have cv : Hid (wr.cell? ⟨vq, 0, none⟩ = some (.int .i64 p)) := ((bcell hB).1 vq 0 hlv).trans HCv.out
        have lv : vq < wr.heap.size := Nat.lt_of_lt_of_le hlv hB.size
        have hszq : Hid (wq.heap.size ≤ wr.heap.size) := hB.size
        clear hB hO
        obtain ⟨d1, p1, a1, r1, x1⟩ := y
        simp only at g0 g1 g2 g3 g4
        have hlt1 : (j : Int) < l.length := by omega
        go_wp2_with fail
        refine (is_any uq vq d p d1 p1 a1 r1 x1 _ (by rw [World.cell?_alloc_past _ _ _ lu]; exact cu.out) (by rw [World.cell?_alloc_past _ _ _ lv]; exact cv.out) (by simp; omega) (by simp; omega)).mono ?_
        rintro e w1 ⟨rfl, ob, rfl⟩
        rw [← goes3 d p (d1, p1, a1, r1, x1)]
        cases hg : goesB 3 d p (d1, p1, a1, r1, x1)
        · have HK : Hid (kpt l 3 d p (j + 1) = kpt l 3 d p j ++ [(d1, p1, a1, r1, x1)]) := by show _ = _; rw [kpt_kept hlt (by rw [← HY.out]; exact hg), ← HY.out]
          generalize hkj : kpt l 3 d p j = kj at *
          go_wp2_with (first | (at_builtin; refine wpList_append_L rfl (.tmp 38) (.tmp 40) rfl wq.heap.size _ _ kj [(d1, p1, a1, r1, x1)] rfl rfl (((HO.out.alloc _).alloc _).alloc _) (ls_oneAt (by simp) _ _ _ _ _ _) (by simp; omega) (by have := hszq.out; simp; omega) (.inr (by simp)) ?_))
          intro g9 cg9 w9 hown9 _ hbel9 _
          have HN9 : Hid ((kj ++ [(d1, p1, a1, r1, x1)]).length = kj.length + 1) := by show _ = _; simp
          have HO9 : Hid (OwnL w9 wq.heap.size (.slice (some ⟨g9, 0, none⟩) (kj.length + 1) cg9) (kj ++ [(d1, p1, a1, r1, x1)])) := hown9
          have HB9 : Hid (Below wq.heap.size wq w9) := (bel_alloc (bel_alloc (bel_alloc HB.out _) _) _).trans hbel9
          clear hown9 hbel9
          go_wp2
          exact ⟨⟨j + 1, some ⟨g9, 0, none⟩, cg9, by omega, by go_num, by rw [HK.out, HN9.out], by rw [HK.out]; exact HO9.out, HB9.out⟩, by simp [intOf]; omega⟩
        · have HK : Hid (kpt l 3 d p (j + 1) = kpt l 3 d p j) := kpt_gone hlt (by rw [← HY.out]; exact hg)
          go_wp2
          exact ⟨⟨j + 1, _, _, by omega, by go_num, by rw [HK.out], by rw [HK.out]; exact (OwnL.alloc HO.out _).alloc _, bel_alloc (bel_alloc HB.out _) _⟩, by simp [intOf]; omega⟩
      · obtain rfl : j = l.length := by omega
        clear hB hO
        go_wp2
        refine bodyPost_ret (v := .tuple #[.slice a9 (kpt l 3 d p l.length).length c9, .int .i64 0]) (by simp [results, Try.results41, go_sem]) rfl ⟨⟨_, by rw [HE.out], ?_⟩, bel_trans HB2.out HB.out⟩
        rw [HF.out]
        exact OwnL.ls HO.out

/-- What Drop answers, whatever it is handed. -/
theorem drop_any (v : Value) (l : List Ln) (k d p : Int) (w : World) (h : Ls w v l) (k0 : -9223372036854775808 ≤ k) (k1 : k ≤ 9223372036854775807) :
    Calls Try.prog 41 #[v, .agg #[.int .i64 k, .int .i64 d, .int .i64 p]] w fun e w' => (∃ v', e = .returned (.tuple #[v', .int .i64 (drE l k)]) ∧ Ls w' v' (drC l k d p)) ∧ Below w.heap.size w w' := by
  by_cases hc : chkC l = 0
  · by_cases hk : 0 ≤ k ∧ k ≤ 3
    · have : k = 0 ∨ k = 1 ∨ k = 2 ∨ k = 3 := by omega
      rcases this with rfl | rfl | rfl | rfl
      · exact drop_0 v l d p w h hc
      · exact drop_1 v l d p w h hc
      · exact drop_2 v l d p w h hc
      · exact drop_3 v l d p w h hc
    · exact drop_bad v l k d p w h hc k0 k1 hk
  · exact drop_err v l k d p w h hc
end Go.Proofs.Ytefcdcneenjbgab
/-
  The closed fact kept holds; Fill, Filled, Drop, Dropped where their answers are known.
-/
namespace Go.Proofs.Ytefcdcneenjbgab
open Go.RowKit

theorem Ls.shape {w : World} {v : Value} {l : List Ln} (h : Ls w v l) : ∃ a cap, v = .slice a l.length cap ∧ Ls w (.slice a l.length cap) l := by
  have h' := h
  obtain ⟨a, cap, rfl, _⟩ := h
  exact ⟨a, cap, rfl, h'⟩
theorem fill_at {v : Value} {l : List Ln} {d p a : Int} {r x : Bool} {w : World} (h : Ls w v l) {e0 : Int} {c : List Ln} (hE : flE l (d, p, a, r, x) = e0) (hC : flC l (d, p, a, r, x) = c) :
    Calls Try.prog 97 #[v, .agg #[.int .i64 d, .int .i64 p, .int .i64 a, .bool r, .bool x]] w fun e w' => ∃ b cap, e = .returned (.tuple #[.slice b c.length cap, .int .i64 e0]) ∧ Ls w' (.slice b c.length cap) c ∧ Below w.heap.size w w' := by
  subst hE hC
  refine (fill_any v l d p a r x w h).mono ?_
  rintro e w' ⟨⟨v', rfl, hs, -⟩, hb⟩
  obtain ⟨b, cap, rfl, hs'⟩ := hs.shape
  exact ⟨b, cap, rfl, hs', hb⟩
theorem fill_atF {v : Value} {l : List Ln} {d p a : Int} {r x : Bool} {w : World} (h : Ls w v l) {e0 : Int} {c : List Ln} (hE : flE l (d, p, a, r, x) = e0) (hC : flC l (d, p, a, r, x) = c) :
    Calls Try.prog 97 #[v, .agg #[.int .i64 d, .int .i64 p, .int .i64 a, .bool r, .bool x]] w fun e w' => ∃ b cap, e = .returned (.tuple #[.slice b c.length cap, .int .i64 e0]) ∧ Ls w' (.slice b c.length cap) c ∧ Fresh w.heap.size (.slice b c.length cap) ∧ Below w.heap.size w w' := by
  subst hE hC
  refine (fill_any v l d p a r x w h).mono ?_
  rintro e w' ⟨⟨v', rfl, hs, hn⟩, hb⟩
  obtain ⟨b, cap, rfl, hs'⟩ := hs.shape
  exact ⟨b, cap, rfl, hs', hn, hb⟩
theorem drop_at' {v : Value} {l : List Ln} {k d p : Int} {w : World} (h : Ls w v l) (k0 : -9223372036854775808 ≤ k) (k1 : k ≤ 9223372036854775807) {e0 : Int} {c : List Ln} (hE : drE l k = e0) (hC : drC l k d p = c) :
    Calls Try.prog 41 #[v, .agg #[.int .i64 k, .int .i64 d, .int .i64 p]] w fun e w' => ∃ b cap, e = .returned (.tuple #[.slice b c.length cap, .int .i64 e0]) ∧ Ls w' (.slice b c.length cap) c ∧ Below w.heap.size w w' := by
  subst hE hC
  refine (drop_any v l k d p w h k0 k1).mono ?_
  rintro e w' ⟨⟨v', rfl, hs⟩, hb⟩
  obtain ⟨b, cap, rfl, hs'⟩ := hs.shape
  exact ⟨b, cap, rfl, hs', hb⟩

def lA : Ln := (1, 2, 3, true, false)
def lB : Ln := (4, 2, 9, true, false)
theorem kA1 : flE [] (1, 2, 3, true, false) = 0 ∧ flC [] (1, 2, 3, true, false) = [lA] := by decide
theorem kA2 : flE [lA] (4, 2, 9, true, false) = 0 ∧ flC [lA] (4, 2, 9, true, false) = [lA, lB] := by decide
theorem kA3 : drE [lA, lB] 2 = 0 ∧ drC [lA, lB] 2 1 0 = [lB] := by decide
theorem kA4 : flE [lA, lB] (1, 2, 5, true, false) = 5 ∧ flC [lA, lB] (1, 2, 5, true, false) = [] := by decide
theorem kA5 : fndC [lA, lB] 4 2 = 1 ∧ fndC [lB] 4 2 = 0 ∧ chkC [lA, lB] = 0 := by decide

end Go.Proofs.Ytefcdcneenjbgab
/-
  Package bridge: what isDev, isPage, isFences, Check, checkBoth, byLine answer; none turns memory that was there.
-/
namespace Go.Proofs.Ytefcdcneenjbgab
open Go.RowKit

def fenR (z : Int) : Bool := decide (0 ≤ z ∧ z < 1000)
theorem fenR_in {z : Int} (h : fenR z = true) : 0 ≤ z ∧ z < 1000 := by simpa [fenR] using h

theorem isPageB_any (z : Int) (w : World) : Calls Try.prog 61 #[.int .i64 z] w fun e w' => e = .returned (.bool (pageR z)) ∧ w' = w := by
  by_cases h1 : 0 ≤ z
  · by_cases h2 : z < 64
    · have : pageR z = true := by simp [pageR, h1, h2]
      rw [this]
      go_enter Try.func61, Try.ntmps61
      go_wp2
      go_ret
      exact ⟨rfl, rfl⟩
    · have : pageR z = false := by simp [pageR, h2]
      rw [this]
      go_enter Try.func61, Try.ntmps61
      go_wp2
      go_ret
      exact ⟨rfl, rfl⟩
  · have : pageR z = false := by simp [pageR, h1]
    rw [this]
    go_enter Try.func61, Try.ntmps61
    go_wp2
    go_ret
    exact ⟨rfl, rfl⟩
theorem isDevB_any (z : Int) (w : World) : Calls Try.prog 60 #[.int .i64 z] w fun e w' => e = .returned (.bool (stepR z)) ∧ w' = w := by
  by_cases h1 : 0 ≤ z
  · by_cases h2 : z < 8
    · have : stepR z = true := by simp [stepR, h1, h2]
      rw [this]
      go_enter Try.func60, Try.ntmps60
      go_wp2
      go_ret
      exact ⟨rfl, rfl⟩
    · have : stepR z = false := by simp [stepR, h2]
      rw [this]
      go_enter Try.func60, Try.ntmps60
      go_wp2
      go_ret
      exact ⟨rfl, rfl⟩
  · have : stepR z = false := by simp [stepR, h1]
    rw [this]
    go_enter Try.func60, Try.ntmps60
    go_wp2
    go_ret
    exact ⟨rfl, rfl⟩
theorem isFences_any (z : Int) (w : World) : Calls Try.prog 67 #[.int .i64 z] w fun e w' => e = .returned (.bool (fenR z)) ∧ w' = w := by
  by_cases h1 : 0 ≤ z
  · by_cases h2 : z < 1000
    · have : fenR z = true := by simp [fenR, h1, h2]
      rw [this]
      go_enter Try.func67, Try.ntmps67
      go_wp2
      go_ret
      exact ⟨rfl, rfl⟩
    · have : fenR z = false := by simp [fenR, h2]
      rw [this]
      go_enter Try.func67, Try.ntmps67
      go_wp2
      go_ret
      exact ⟨rfl, rfl⟩
  · have : fenR z = false := by simp [fenR, h1]
    rw [this]
    go_enter Try.func67, Try.ntmps67
    go_wp2
    go_ret
    exact ⟨rfl, rfl⟩

/-- The four ways in which the numbers of a bridge are wrong. -/
theorem rngBr_ways {b : Br} : (rngBr b = true ∧ ¬ b.mode < 0 ∧ ¬ 2 < b.mode ∧ pageR b.base = true ∧ fenR b.fen = true) ∨
    (rngBr b = false ∧ (b.mode < 0 ∨ (¬ b.mode < 0 ∧ 2 < b.mode) ∨ (¬ b.mode < 0 ∧ ¬ 2 < b.mode ∧ pageR b.base = false) ∨ (¬ b.mode < 0 ∧ ¬ 2 < b.mode ∧ pageR b.base = true ∧ fenR b.fen = false))) := by
  simp only [rngBr, pageR, fenR]
  by_cases h1 : b.mode < 0
  · exact .inr ⟨by simp; omega, .inl h1⟩
  by_cases h2 : 2 < b.mode
  · exact .inr ⟨by simp; omega, .inr (.inl ⟨h1, h2⟩)⟩
  by_cases h3 : 0 ≤ b.base ∧ b.base < 64
  · by_cases h4 : 0 ≤ b.fen ∧ b.fen < 1000
    · exact .inl ⟨by simp; omega, h1, h2, by simp [h3], by simp [h4]⟩
    · exact .inr ⟨by simp; omega, .inr (.inr (.inr ⟨h1, h2, by simp [h3], by simpa using h4⟩))⟩
  · exact .inr ⟨by simp; omega, .inr (.inr (.inl ⟨h1, h2, by simpa using h3⟩))⟩

set_option maxHeartbeats 2000000 in
theorem bCheck_any (mo ba op oh ot fe fp fh ft : Int) (st lo : Bool) (vc : Value) (l : List Ln) (w : World) (h : Ls w vc l) :
    Calls Try.prog 29 #[.agg #[.int .i64 mo, .int .i64 ba, vc, .int .i64 op, .int .i64 oh, .int .i64 ot, .bool st, .int .i64 fe, .int .i64 fp, .int .i64 fh, .int .i64 ft, .bool lo]] w fun e w' => e = .returned (.int .i64 (chkB ⟨mo, ba, l, op, oh, ot, st, fe, fp, fh, ft, lo⟩)) ∧ Below w.heap.size w w' := by
  have HS : Hid (Ls w vc l) := h
  obtain ⟨va, vk, rfl, -⟩ := h.shape
  clear h
  rcases rngBr_ways (b := ⟨mo, ba, l, op, oh, ot, st, fe, fp, fh, ft, lo⟩) with ⟨hr, h1, h2, h3, h4⟩ | ⟨hr, hw⟩
  rotate_left
  · have HE : Hid (chkB ⟨mo, ba, l, op, oh, ot, st, fe, fp, fh, ft, lo⟩ = 2) := by show _ = _; rw [chkB, hr]; rfl
    clear hr
    dsimp only at hw
    rcases hw with h1 | ⟨h1, h2⟩ | ⟨h1, h2, h3⟩ | ⟨h1, h2, h3, h4⟩
    all_goals
      go_enter Try.func29, Try.ntmps29
      go_wp2_with (first | (go_at_call 61; refine (isPageB_any _ _).mono ?_; rintro e w' ⟨rfl, rfl⟩) | (go_at_call 67; refine (isFences_any _ _).mono ?_; rintro e w' ⟨rfl, rfl⟩))
      go_ret
      exact ⟨ret_int HE.out.symm, bel_alloc (Below.refl _ _) _⟩
  dsimp only at h1 h2 h3 h4
  have HR : Hid (rngBr ⟨mo, ba, l, op, oh, ot, st, fe, fp, fh, ft, lo⟩ = true) := hr
  clear hr
  go_enter Try.func29, Try.ntmps29
  go_wp2_with (first | (go_at_call 61; refine (isPageB_any _ _).mono ?_; rintro e w' ⟨rfl, rfl⟩) | (go_at_call 67; refine (isFences_any _ _).mono ?_; rintro e w' ⟨rfl, rfl⟩))
  refine (cCheck_any _ l _ (HS.out.alloc _)).mono ?_
  rintro e w1 ⟨rfl, b1⟩
  have X0 := (Box.newAt (n := w.heap.size) rfl 44 #[.int .i64 mo, .int .i64 ba, .slice va l.length vk, .int .i64 op, .int .i64 oh, .int .i64 ot, .bool st, .int .i64 fe, .int .i64 fp, .int .i64 fh, .int .i64 ft, .bool lo]).keep b1
  have B1 : Hid (Below w.heap.size w w1) := bel_trans (bel_alloc (Below.refl _ _) _) b1
  clear b1
  obtain ⟨⟨q0, q1, q2, q3, q4, q5, q6, q7, q8, q9, q10, q11⟩, s0⟩ := X0.twelve
  by_cases hc : chkC l = 0
  rotate_left
  · have HE : Hid (chkB ⟨mo, ba, l, op, oh, ot, st, fe, fp, fh, ft, lo⟩ = chkC l) := by show _ = _; rw [chkB, if_pos HR.out, if_neg hc]
    have hq : (chkC l != 0) = true := by simpa using hc
    go_wp2
    go_ret
    exact ⟨ret_int HE.out.symm, B1.out⟩
  rw [hc]
  go_wp2_with fail
  refine (rCheck_any _ _ _ _).mono ?_
  rintro e w2 ⟨rfl, rfl⟩
  by_cases hk : chkR op oh ot = 0
  rotate_left
  · have HE : Hid (chkB ⟨mo, ba, l, op, oh, ot, st, fe, fp, fh, ft, lo⟩ = chkR op oh ot) := by show _ = _; rw [chkB, if_pos HR.out, if_pos hc, if_neg hk]
    have hq : (chkR op oh ot != 0) = true := by simpa using hk
    go_wp2
    go_ret
    exact ⟨ret_int HE.out.symm, bel_alloc B1.out _⟩
  have HE : Hid (chkB ⟨mo, ba, l, op, oh, ot, st, fe, fp, fh, ft, lo⟩ = chkR fp fh ft) := by show _ = _; rw [chkB, if_pos HR.out, if_pos hc, if_pos hk]
  rw [hk]
  go_wp2_with fail
  refine (rCheck_any _ _ _ _).mono ?_
  rintro e w2 ⟨rfl, rfl⟩
  go_wp2
  go_ret
  exact ⟨ret_int HE.out.symm, bel_alloc (bel_alloc B1.out _) _⟩

set_option maxHeartbeats 2000000 in
theorem checkBothB_any (v : Value) (zs : List Int) (mo ba op oh ot fe fp fh ft : Int) (st lo : Bool) (vc : Value) (l : List Ln) (w : World) (hs : Sl w v zs) (h : Ls w vc l) :
    Calls Try.prog 59 #[.agg #[v], .agg #[.int .i64 mo, .int .i64 ba, vc, .int .i64 op, .int .i64 oh, .int .i64 ot, .bool st, .int .i64 fe, .int .i64 fp, .int .i64 fh, .int .i64 ft, .bool lo]] w fun e w' => e = .returned (.int .i64 (bothB zs ⟨mo, ba, l, op, oh, ot, st, fe, fp, fh, ft, lo⟩)) ∧ Below w.heap.size w w' := by
  have HS : Hid (Ls w vc l) := h
  obtain ⟨va, vk, rfl, -⟩ := h.shape
  clear h
  go_enter Try.func59, Try.ntmps59
  go_wp2_with fail
  refine (check_any _ zs _ (hs.keep (bel_alloc (bel_alloc (Below.refl _ _) _) _))).mono ?_
  rintro e w1 ⟨rfl, b1⟩
  have X0 := (Box.newAt (n := w.heap.size + 1) (by simp) 44 #[.int .i64 mo, .int .i64 ba, .slice va l.length vk, .int .i64 op, .int .i64 oh, .int .i64 ot, .bool st, .int .i64 fe, .int .i64 fp, .int .i64 fh, .int .i64 ft, .bool lo]).keep b1
  have B1 : Hid (Below w.heap.size w w1) := bel_trans (bel_alloc (bel_alloc (Below.refl _ _) _) _) b1
  clear b1
  obtain ⟨⟨q0, q1, q2, q3, q4, q5, q6, q7, q8, q9, q10, q11⟩, s0⟩ := X0.twelve
  by_cases hk : chk zs = 0
  · have HE : Hid (bothB zs ⟨mo, ba, l, op, oh, ot, st, fe, fp, fh, ft, lo⟩ = chkB ⟨mo, ba, l, op, oh, ot, st, fe, fp, fh, ft, lo⟩) := if_pos hk
    rw [hk]
    go_wp2_with fail
    refine (bCheck_any mo ba op oh ot fe fp fh ft st lo (.slice va l.length vk) l _ (HS.out.keep B1.out)).mono ?_
    rintro e w2 ⟨rfl, b2⟩
    go_wp2
    go_ret
    exact ⟨ret_int HE.out.symm, bel_trans B1.out b2⟩
  · have HE : Hid (bothB zs ⟨mo, ba, l, op, oh, ot, st, fe, fp, fh, ft, lo⟩ = chk zs) := if_neg hk
    have hq : (chk zs != 0) = true := by simpa using hk
    go_wp2
    go_ret
    exact ⟨ret_int HE.out.symm, B1.out⟩

theorem byLine_any (d p a : Int) (r x wr : Bool) (w : World) :
    Calls Try.prog 94 #[.agg #[.int .i64 d, .int .i64 p, .int .i64 a, .bool r, .bool x], .bool wr] w fun e w' =>
      e = .returned (.tuple #[.int .i64 (if (wr && !x) = true then 0 else a), .int .i64 (if (wr && !x) = true then 5 else 0)]) ∧ Below w.heap.size w w' := by
  cases wr <;> cases x
  all_goals
    go_enter Try.func94, Try.ntmps94
    go_wp2
    first
      | exact bodyPost_ret (v := .tuple #[.int .i64 a, .int .i64 0]) (by simp [results, Try.results94, go_sem, *]; done) rfl ⟨rfl, bel_alloc (Below.refl _ _) _⟩
      | exact bodyPost_ret (v := .tuple #[.int .i64 0, .int .i64 5]) (by simp [results, Try.results94, go_sem, *]; done) rfl ⟨rfl, bel_alloc (Below.refl _ _) _⟩
end Go.Proofs.Ytefcdcneenjbgab
/-
  Package bridge: copyOf, copyOfMem: what they answer lies in memory of its own; nothing that was there turns.
-/
namespace Go.Proofs.Ytefcdcneenjbgab
open Go.RowKit

/-- make of some lines. -/
theorem makeLines (w : World) (n : Nat) (hn : n ≤ 6) : ∃ cur : Array Value, (Instr.makeSlice 40 (.int .i64 n) (.int .i64 n)).run Try.prog w = .ok (.slice (some ⟨w.heap.size, 0, none⟩) n n) (w.alloc (.cells cur 68)) ∧ cur.size = n * 5 := by
  obtain ⟨i, hi, hz, hs, hb⟩ := infoLine
  have h := run_make (P := Try.prog) w 40 68 i _ Try.underlying40 hi hz .i64 .i64 n n (by omega) (by omega) (by rw [hb]; omega) (by omega)
  rw [hs] at h
  simp only [Int.toNat_natCast] at h
  exact ⟨_, h, size_madeCells _ _⟩

/-- copy of lines fills a row of its own. -/
theorem copyLines (w : World) (ty : TypeId) (v : Value) (g : Nat) (l : List Ln) (cur : Array Value) (hg : w.heap[g]? = some (.cells cur 68 (0, 0))) (hcur : cur.size = l.length * 5) (hl : Ls w v l) :
    ∃ w3, (Builtin.copy_ #[40, 40] ty #[.slice (some ⟨g, 0, none⟩) l.length l.length, v]).run Try.prog w = .ok (.int .i64 l.length) w3 ∧ w3.heap[g]? = some (.cells (l.flatMap cellsL).toArray 68 (0, 0)) ∧
      (∀ k, k ≠ g → w3.heap[k]? = w.heap[k]?) ∧ w3.heap.size = w.heap.size ∧ Below g w w3 := by
  obtain ⟨i, hi, hz, hs, hb⟩ := infoLine
  obtain ⟨a, cap, rfl, hlc, hm, h⟩ := hl
  have hl5 := flat_len l
  have hst := run_storeCells_at Try.prog g 0 68 (l.flatMap cellsL) 0 cur w hg (by rw [hl5, hcur]; omega) (flat_one l)
  have hd : List.drop (0 + 0 + (l.flatMap cellsL).length) cur.toList = [] := List.drop_of_length_le (by simp only [Array.length_toList, hcur, hl5]; omega)
  rw [hd, Nat.add_zero, List.take_zero, List.nil_append, List.append_nil] at hst
  refine ⟨_, ?_, setRow_heap w g cur _ _ _ hg, fun k hk => setRow_other w g k _ hk, by simp [World.setRow], ⟨rfl, rfl, rfl, by simp [World.setRow], fun k hk => setRow_other w g k _ (by omega)⟩⟩
  rcases h with rfl | ⟨b, o, rfl, hlt, hc⟩
  · have hst' : (storeCells ⟨g, 0, none⟩ [] 0).run Try.prog w = .ok () (w.setRow g ([] : List Value).toArray) := hst
    cases a <;>
      simp [Builtin.copy_, run_underlying Try.underlying40, Builtin.lenOf, Builtin.firstCells, sizeOf, typeInfo, hi, loadCells, loadCellsFrom, hst', goInt]
  · have hld := run_loadCells_list (P := Try.prog) w ⟨b, o, none⟩ (l.flatMap cellsL) (fun j u hu => by
      obtain ⟨i', r, h1, h2, rfl, h4⟩ := flat_of hu
      rw [add_off, ← Nat.add_assoc]
      exact atL_cell (hc i' h1) h2 h4)
    rw [hl5] at hld
    simp [Builtin.copy_, run_underlying Try.underlying40, Builtin.lenOf, Builtin.firstCells, sizeOf, typeInfo, hi, hs, hld, hst, goInt]

/-- A block of lines. -/
theorem ls_block {w : World} {g : Nat} {l : List Ln} (hg : w.heap[g]? = some (.cells (l.flatMap cellsL).toArray 68 (0, 0))) (hn : l.length ≤ 6) : Ls w (.slice (some ⟨g, 0, none⟩) l.length l.length) l := by
  refine ⟨_, l.length, rfl, Nat.le_refl _, by unfold maxLen; omega, .inr ⟨g, 0, rfl, (Box.lt hg), fun i hi => ?_⟩⟩
  have hc : ∀ r, r < 5 → w.cell? ⟨g, 0 + i * 5 + r, none⟩ = (cellsL (lth l i))[r]? := fun r hr => by
    rw [Nat.zero_add, cell_of_row w g _ _ _ _ hg, List.getElem?_toArray, flat_at l i r hi hr]
  exact ⟨hc 0 (by omega), hc 1 (by omega), hc 2 (by omega), hc 3 (by omega), hc 4 (by omega)⟩

set_option maxHeartbeats 2000000 in
theorem copyOf_any (mo ba op oh ot fe fp fh ft : Int) (st lo : Bool) (vc : Value) (l : List Ln) (w : World) (h : Ls w vc l) (hn : l.length ≤ 6) :
    Calls Try.prog 62 #[.agg #[.int .i64 mo, .int .i64 ba, vc, .int .i64 op, .int .i64 oh, .int .i64 ot, .bool st, .int .i64 fe, .int .i64 fp, .int .i64 fh, .int .i64 ft, .bool lo]] w fun e w' => ∃ g, e = .returned (.agg #[.int .i64 mo, .int .i64 ba, .slice (some ⟨g, 0, none⟩) l.length l.length, .int .i64 op, .int .i64 oh, .int .i64 ot, .bool st, .int .i64 fe, .int .i64 fp, .int .i64 fh, .int .i64 ft, .bool lo]) ∧ Ls w' (.slice (some ⟨g, 0, none⟩) l.length l.length) l ∧ Below w.heap.size w w' := by
  have HS : Hid (Ls w vc l) := h
  obtain ⟨va, vk, rfl, -⟩ := h.shape
  clear h
  have HN : Hid (l.length ≤ 6) := hn
  obtain ⟨N, hN⟩ : ∃ N, N = l.length := ⟨_, rfl⟩
  have HE : Hid (N = l.length) := hN
  rw [← hN]
  have hN6 : N ≤ 6 := by omega
  have HV : Hid (Ls w (.slice va N vk) l) := by show Ls _ _ _; rw [hN]; exact HS.out
  clear hN hn
  have hW : Below w.heap.size w ((w.alloc (.cells #[.int .i64 mo, .int .i64 ba, .slice va N vk, .int .i64 op, .int .i64 oh, .int .i64 ot, .bool st, .int .i64 fe, .int .i64 fp, .int .i64 fh, .int .i64 ft, .bool lo] 44)).alloc (.cells #[.int .i64 0, .int .i64 0, .slice none 0 0, .int .i64 0, .int .i64 0, .int .i64 0, .bool false, .int .i64 0, .int .i64 0, .int .i64 0, .int .i64 0, .bool false] 44)) := bel_alloc (bel_alloc (Below.refl _ _) _) _
  obtain ⟨cur, hmk, hcs⟩ := makeLines ((w.alloc (.cells #[.int .i64 mo, .int .i64 ba, .slice va N vk, .int .i64 op, .int .i64 oh, .int .i64 ot, .bool st, .int .i64 fe, .int .i64 fp, .int .i64 fh, .int .i64 ft, .bool lo] 44)).alloc (.cells #[.int .i64 0, .int .i64 0, .slice none 0 0, .int .i64 0, .int .i64 0, .int .i64 0, .bool false, .int .i64 0, .int .i64 0, .int .i64 0, .int .i64 0, .bool false] 44)) N hN6
  have hg0 : (((w.alloc (.cells #[.int .i64 mo, .int .i64 ba, .slice va N vk, .int .i64 op, .int .i64 oh, .int .i64 ot, .bool st, .int .i64 fe, .int .i64 fp, .int .i64 fh, .int .i64 ft, .bool lo] 44)).alloc (.cells #[.int .i64 0, .int .i64 0, .slice none 0 0, .int .i64 0, .int .i64 0, .int .i64 0, .bool false, .int .i64 0, .int .i64 0, .int .i64 0, .int .i64 0, .bool false] 44)).alloc (.cells cur 68)).heap[w.heap.size + 1 + 1]? = some (.cells cur 68 (0, 0)) := heap_at (by simp)
  obtain ⟨w3, hcp, hg3, ho3, hs3, hb3⟩ := copyLines _ 3 (.slice va N vk) (w.heap.size + 1 + 1) l cur hg0 (by rw [hcs, HE.out]) (HV.out.keep (bel_alloc hW _))
  rw [← HE.out] at hcp
  have X0 : Box w3 w.heap.size 44 #[.int .i64 mo, .int .i64 ba, .slice va N vk, .int .i64 op, .int .i64 oh, .int .i64 ot, .bool st, .int .i64 fe, .int .i64 fp, .int .i64 fh, .int .i64 ft, .bool lo] := by
    unfold Box; rw [ho3 _ (by omega)]
    exact ((Box.newAt (n := w.heap.size) rfl 44 _).past _).past _
  have X1 : Box w3 (w.heap.size + 1) 44 #[.int .i64 0, .int .i64 0, .slice none 0 0, .int .i64 0, .int .i64 0, .int .i64 0, .bool false, .int .i64 0, .int .i64 0, .int .i64 0, .int .i64 0, .bool false] := by
    unfold Box; rw [ho3 _ (by omega)]
    exact (Box.newAt (n := w.heap.size + 1) (by simp) 44 _).past _
  have B3 : Hid (Below w.heap.size w w3) := (bel_alloc hW _).trans (hb3.mono (by omega))
  obtain ⟨⟨q0, q1, q2, q3, q4, q5, q6, q7, q8, q9, q10, q11⟩, s0⟩ := X0.twelve
  obtain ⟨-, -, z2, -⟩ := X0.marks
  obtain ⟨⟨u0, u1, u2, u3, u4, u5, u6, u7, u8, u9, u10, u11⟩, s1⟩ := X1.twelve
  obtain ⟨y0, y1, y2, y3, y4, y5, y6, y7, y8, y9, y10, y11⟩ := X1.marks
  have HG : Hid _ := hg3
  clear hg3 ho3 hs3 hb3 hg0 hW hcs
  have n1 : ¬ w.heap.size + 1 + 1 = w.heap.size := by omega
  have n2 : ¬ w.heap.size + 1 + 1 = w.heap.size + 1 := by omega
  go_enter Try.func62, Try.ntmps62
  go_wp2
  refine bodyPost_ret (v := .agg #[.int .i64 mo, .int .i64 ba, .slice (some ⟨w.heap.size + 1 + 1, 0, none⟩) N N, .int .i64 op, .int .i64 oh, .int .i64 ot, .bool st, .int .i64 fe, .int .i64 fp, .int .i64 fh, .int .i64 ft, .bool lo]) (by simp [results, Try.results62, go_sem, *]) rfl ⟨_, rfl, ?_, ?_⟩
  · rw [HE.out]
    refine ls_block ?_ HN.out
    exact (Box.other (p := ⟨w.heap.size, 2, none⟩) HG.out (by dsimp only; omega) _).other12 (by omega) _ _ _ _ _ _ _ _ _ _ _ _
  · exact bel_set12 (by omega) (bel_set (by dsimp only; omega) B3.out _) _ _ _ _ _ _ _ _ _ _ _ _

set_option maxHeartbeats 2000000 in
theorem copyOfMem_any (v : Value) (zs : List Int) (w : World) (h : Sl w v zs) (hn : zs.length = 512) :
    Calls Try.prog 73 #[.agg #[v]] w fun e w' => ∃ g, e = .returned (.agg #[.slice (some ⟨g, 0, none⟩) 512 512]) ∧ Sl w' (.slice (some ⟨g, 0, none⟩) 512 512) zs ∧ w.heap.size ≤ g ∧ Below w.heap.size w w' := by
  obtain ⟨b, o, cap, rfl, hb, hc⟩ := h.open512 hn
  have HC : Hid (∀ i, i < 512 → w.cell? ⟨b, o + i, none⟩ = some (.int .i64 (nth zs i))) := hc
  have HN : Hid (zs.length = 512) := hn
  clear hc hn h
  go_enter Try.func73, Try.ntmps73
  go_wp2_with fail
  refine (new_own _).mono ?_
  rintro e w2 ⟨g, rfl, hg2, hge, hb2⟩
  have X0 := ((Box.newAt (n := w.heap.size) rfl 39 #[.slice (some ⟨b, o, none⟩) 512 cap]).past _).keep hb2
  have X1 := (Box.newAt (n := w.heap.size + 1) (by simp) 39 #[.slice none 0 0]).keep hb2
  have HB2 : Hid (Below w.heap.size w w2) := bel_trans (bel_alloc (bel_alloc (Below.refl _ _) _) _) hb2
  have hgL : w.heap.size + 1 + 1 ≤ g := by simpa using hge
  have hs2 := hb2.size
  clear hb2 hge
  obtain ⟨hglt, _⟩ := Array.getElem?_eq_some_iff.1 hg2
  obtain ⟨w3, hrun, hg3, ho3, hs3, hb3⟩ := copy_full (w2.alloc (.cells #[.slice (some ⟨g, 0, none⟩) 512 512] 39)) b o cap g zs zeroCells HN.out (heap_past hglt hg2) (by simp [zeroCells, size_madeCells]) (fun i hi => by
    rw [World.cell?_alloc_past _ _ _ (by omega), HB2.out.cell (p := ⟨b, o + i, none⟩) hb]; exact HC.out i hi)
  have X2 : Box w3 w2.heap.size 39 #[.slice (some ⟨g, 0, none⟩) 512 512] := by
    unfold Box; rw [ho3 _ (by omega)]; exact Box.newAt rfl _ _
  have Y1 : Box w3 (w.heap.size + 1) 39 #[.slice none 0 0] := by
    unfold Box; rw [ho3 _ (by omega)]; exact X1.past _
  obtain ⟨q0, -, s0⟩ := X0.one
  obtain ⟨q2, -, s2⟩ := X2.one
  obtain ⟨q1, y1, s1⟩ := Y1.one
  have HG3 : Hid _ := hg3
  have HB3 : Hid (Below w.heap.size w w3) := (bel_alloc HB2.out _).trans (hb3.mono (by omega))
  clear ho3 hb3 hg3 hg2 hs2
  go_wp2_with fail
  refine bodyPost_ret (v := .agg #[.slice (some ⟨g, 0, none⟩) 512 512]) (by simp [results, Try.results73, go_sem, *]) rfl ⟨_, rfl, ?_, by omega, ?_⟩
  · refine sl_block (cs := intCells zs) (t := 3) (fr := (0, 0)) ?_ (intCells_list _) HN.out.symm (by rw [HN.out]; simp [maxLen])
    exact Box.other (p := ⟨w.heap.size + 1, 0, none⟩) HG3.out (by dsimp only; omega) _
  · exact bel_set1 (by omega) HB3.out _
end Go.Proofs.Ytefcdcneenjbgab
