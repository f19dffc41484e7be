/-
  Laid together: DropC, Kept, Bridge1, CheckCR, Ring4, CheckBR, EqualL, SameB, MachR, MachS, CopyB.
-/
import Derived.Test.YtlgjllmecjkbjacGreatT5
/-
  cache.Drop: lines without those that an order makes the bridge forget; nothing that was there turns.
-/
namespace Go.Proofs.YtlgjllmecjkbjacGreat
open Go.RowKit
def kpt (l : List Ln) (k d p : Int) (j : Nat) : List Ln := (l.take j).filter (fun x => !goesB k d p x)
theorem kpt_zero (l : List Ln) (k d p : Int) : kpt l k d p 0 = [] := by simp [kpt]
theorem kpt_gone {l : List Ln} {k d p : Int} {j : Nat} (hj : j < l.length) (h : goesB k d p (lth l j) = true) : kpt l k d p (j + 1) = kpt l k d p j := by
  rw [lth_get hj] at h
  unfold kpt
  rw [List.take_succ_eq_append_getElem hj, List.filter_append]
  simp [h]
theorem kpt_kept {l : List Ln} {k d p : Int} {j : Nat} (hj : j < l.length) (h : goesB k d p (lth l j) = false) : kpt l k d p (j + 1) = kpt l k d p j ++ [lth l j] := by
  rw [lth_get hj] at h ⊢
  unfold kpt
  rw [List.take_succ_eq_append_getElem hj, List.filter_append]
  simp [h]
theorem kpt_all (l : List Ln) (k d p : Int) : kpt l k d p l.length = l.filter (fun x => !goesB k d p x) := by simp [kpt]
theorem kpt_len (l : List Ln) (k d p : Int) (j : Nat) : (kpt l k d p j).length ≤ l.length := by
  unfold kpt
  exact Nat.le_trans (List.length_filter_le _ _) (by simp; omega)
theorem goes0 (d p : Int) (x : Ln) : goesB 0 d p x = false := by simp [goesB]
theorem goes1 (d p : Int) (x : Ln) : goesB 1 d p x = true := by simp [goesB]
theorem goes2 (d p : Int) (x : Ln) : goesB 2 d p x = decide (x.1 = d) := by simp [goesB]
theorem goes3 (d p : Int) (x : Ln) : goesB 3 d p x = hasB d p x := by simp [goesB, hasB]
theorem drC_ok {l : List Ln} {k d p : Int} (hc : chkC l = 0) (h : 0 ≤ k ∧ k ≤ 3) : drE l k = 0 ∧ drC l k d p = kpt l k d p l.length := by
  have he : drE l k = 0 := by unfold drE; rw [if_pos hc, if_pos h]
  exact ⟨he, by rw [drC, if_pos he, kpt_all]⟩
theorem keep3 {W w' : World} {n : Nat} {u0 u1 u2 : Value} (h0 : W.cell? ⟨n, 0, none⟩ = some u0) (h1 : W.cell? ⟨n, 1, none⟩ = some u1) (h2 : W.cell? ⟨n, 2, none⟩ = some u2) (hn : n < W.heap.size) (hb : Below W.heap.size W w') :
    w'.cell? ⟨n, 0, none⟩ = some u0 ∧ w'.cell? ⟨n, 1, none⟩ = some u1 ∧ w'.cell? ⟨n, 2, none⟩ = some u2 ∧ Below W.heap.size W w' :=
  ⟨((bcell hb).1 n 0 hn).trans h0, ((bcell hb).1 n 1 hn).trans h1, ((bcell hb).1 n 2 hn).trans h2, hb⟩
theorem limb3 {A B C D : Prop} (h : A ∧ B ∧ C ∧ D) : D := h.2.2.2
set_option maxHeartbeats 1000000 in
theorem drop_err (v : Value) (l : List Ln) (k d p : Int) (w : World) (h : Ls w v l) (hc : ¬ chkC l = 0) :
    Calls Tryz.prog 88 #[v, .agg #[.int .i64 k, .int .i64 d, .int .i64 p]] w fun e w' => (∃ v', e = .returned (.tuple #[v', .int .i64 (drE l k)]) ∧ Ls w' v' (drC l k d p) ∧ Fresh w.heap.size v') ∧ Below w.heap.size w w' := by
  have HL : Hid (Ls w v l) := h
  obtain ⟨a0, cap, rfl, hl, hm, h⟩ := h
  have hq : (chkC l != 0) = true := by simpa using hc
  have HE : Hid (drE l k = chkC l) := by unfold drE; exact if_neg hc
  have HF : Hid (drC l k d p = []) := by unfold drC; exact if_neg (by rw [HE.out]; exact hc)
  clear hc
  go_enter Tryz.func88, Tryz.ntmps88
  go_wp2_with fail
  refine (cCheck_any _ l _ (HL.out.keep (bel_alloc (Below.refl _ _) _))).mono ?_
  rintro e w1 ⟨rfl, b1⟩
  have B1 : Hid (Below w.heap.size w w1) := bel_trans (bel_alloc (Below.refl _ _) _) b1
  clear b1
  generalize chkC l = z at *
  go_wp2
  refine bodyPost_ret (v := .tuple #[.slice none 0 0, .int .i64 z]) (by simp [results, Tryz.results88, go_sem]) rfl ⟨⟨_, by rw [HE.out], by rw [HF.out]; exact Ls.nothing _, Fresh.none _ _ _⟩, B1.out⟩
set_option maxHeartbeats 1000000 in
theorem drop_bad (v : Value) (l : List Ln) (k d p : Int) (w : World) (h : Ls w v l) (hc : chkC l = 0) (k0 : -9223372036854775808 ≤ k) (k1 : k ≤ 9223372036854775807) (hk : ¬ (0 ≤ k ∧ k ≤ 3)) :
    Calls Tryz.prog 88 #[v, .agg #[.int .i64 k, .int .i64 d, .int .i64 p]] w fun e w' => (∃ v', e = .returned (.tuple #[v', .int .i64 (drE l k)]) ∧ Ls w' v' (drC l k d p) ∧ Fresh w.heap.size v') ∧ Below w.heap.size w w' := by
  have HL : Hid (Ls w v l) := h
  have h6 : l.length ≤ 6 := (chkC_zero.1 hc).1
  obtain ⟨a0, cap, rfl, hl, hm, h⟩ := h
  unfold maxLen at hm
  have HE : Hid (drE l k = 3) := by unfold drE; rw [if_pos hc, if_neg hk]; rfl
  have HF : Hid (drC l k d p = []) := by unfold drC; exact if_neg (by rw [HE.out]; decide)
  go_enter Tryz.func88, Tryz.ntmps88
  go_wp2_with fail
  refine (cCheck_any _ l _ (HL.out.keep (bel_alloc (Below.refl _ _) _))).mono ?_
  rw [hc]
  rintro e wx ⟨rfl, b1⟩
  have K1 := (Blk.new w #[.int .i64 k, .int .i64 d, .int .i64 p] 120 (0, 0)).keep b1
  have B1 : Hid (Below w.heap.size w wx) := bel_trans (bel_alloc (Below.refl _ _) _) b1
  obtain ⟨c0, c1, c2⟩ := K1.three
  have s1 := K1.lt
  clear b1 K1
  go_wp2
  go_region_held3 (fun w' => w'.cell? ⟨w.heap.size, 0, none⟩ = some (.int .i64 k) ∧ w'.cell? ⟨w.heap.size, 1, none⟩ = some (.int .i64 d) ∧ w'.cell? ⟨w.heap.size, 2, none⟩ = some (.int .i64 p) ∧ Below wx.heap.size wx w')
    (with_reducible refine keep3 (by assumption) (by assumption) (by assumption) (by assumption) ?_; (repeat (first | with_reducible assumption | (with_reducible (refine limb3 (?_ : _ ∧ _ ∧ _ ∧ _); assumption)) | with_reducible exact Below.refl _ _ | with_reducible refine Below.drew ?_ | with_reducible refine bel_drewN ?_ _ | with_reducible refine bel_alloc ?_ _ | with_reducible refine bel_trans ?_ (by assumption))))
    (first | (go_at_call 119; refine (questions_any k d p _).mono ?_; rintro e wq ⟨⟨bq, rfl, hq⟩, bb⟩; have hlook := hq.no k0 k1 hk))
  rename_i hH
  have HB2 : Hid (Below w.heap.size w wq) := bel_trans B1.out (limb3 hH)
  clear hH bb hq c0 c1 c2 s1 B1
  go_wp2
  refine bodyPost_ret (v := .tuple #[.slice none 0 0, .int .i64 3]) (by simp [results, Tryz.results88, go_sem]) rfl ⟨⟨_, by rw [HE.out], by rw [HF.out]; exact Ls.nothing _, Fresh.none _ _ _⟩, HB2.out⟩
set_option maxHeartbeats 1000000 in
theorem drop_0 (v : Value) (l : List Ln) (d p : Int) (w : World) (h : Ls w v l) (hc : chkC l = 0) :
    Calls Tryz.prog 88 #[v, .agg #[.int .i64 (0 : Int), .int .i64 d, .int .i64 p]] w fun e w' => (∃ v', e = .returned (.tuple #[v', .int .i64 (drE l (0 : Int))]) ∧ Ls w' v' (drC l (0 : Int) d p) ∧ Fresh w.heap.size v') ∧ Below w.heap.size w w' := by
  have HL : Hid (Ls w v l) := h
  have h6 : l.length ≤ 6 := (chkC_zero.1 hc).1
  obtain ⟨a0, cap, rfl, hl, hm, h⟩ := h
  unfold maxLen at hm
  have HE : Hid (drE l 0 = 0) := (drC_ok (d := d) (p := p) hc (by omega)).1
  have HF : Hid (drC l 0 d p = kpt l 0 d p l.length) := (drC_ok hc (by omega)).2
  go_enter Tryz.func88, Tryz.ntmps88
  go_wp2_with fail
  refine (cCheck_any _ l _ (HL.out.keep (bel_alloc (Below.refl _ _) _))).mono ?_
  rw [hc]
  rintro e wx ⟨rfl, b1⟩
  have K1 := (Blk.new w #[.int .i64 (0 : Int), .int .i64 d, .int .i64 p] 120 (0, 0)).keep b1
  have B1 : Hid (Below w.heap.size w wx) := bel_trans (bel_alloc (Below.refl _ _) _) b1
  obtain ⟨c0, c1, c2⟩ := K1.three
  have s1 := K1.lt
  clear b1 K1
  go_wp2
  go_region_held3 (fun w' => w'.cell? ⟨w.heap.size, 0, none⟩ = some (.int .i64 (0 : Int)) ∧ w'.cell? ⟨w.heap.size, 1, none⟩ = some (.int .i64 d) ∧ w'.cell? ⟨w.heap.size, 2, none⟩ = some (.int .i64 p) ∧ Below wx.heap.size wx w')
    (with_reducible refine keep3 (by assumption) (by assumption) (by assumption) (by assumption) ?_; (repeat (first | with_reducible assumption | (with_reducible (refine limb3 (?_ : _ ∧ _ ∧ _ ∧ _); assumption)) | with_reducible exact Below.refl _ _ | with_reducible refine Below.drew ?_ | with_reducible refine bel_drewN ?_ _ | with_reducible refine bel_alloc ?_ _ | with_reducible refine bel_trans ?_ (by assumption))))
    (first | (go_at_call 119; refine (questions_any (0 : Int) d p _).mono ?_; rintro e wq ⟨⟨bq, rfl, hq⟩, bb⟩; have hlook := hq.at0))
  rename_i hH
  have HB2 : Hid (Below w.heap.size w wq) := bel_trans B1.out (limb3 hH)
  clear hH bb hq c0 c1 c2 s1 B1
  have HLq : Hid (Ls wq (.slice a0 l.length cap) l) := HL.out.keep HB2.out
  have HO0 : Hid (OwnL (wq.alloc (.cells #[] 52)) wq.heap.size (.slice (some ⟨wq.heap.size, 0, none⟩) 0 0) []) := OwnL.lit wq _ (Nat.le_refl _)
  clear HL hlook
  rcases h with rfl | ⟨b, o, rfl, hb, _⟩
  · go_wp2
    go_loopw [9, 11, 30] (fun v9 _ i w' => v9 = .slice (some ⟨wq.heap.size, 0, none⟩) 0 0 ∧ i = .int .i64 0 ∧ w' = wq.alloc (.cells #[] 52)) (fun _ _ i _ => 0)
    case atStart => exact ⟨rfl, rfl, rfl⟩
    case round =>
      obtain ⟨rfl, rfl, rfl⟩ := hrel
      go_wp2
      refine bodyPost_ret (v := .tuple #[.slice (some ⟨wq.heap.size, 0, none⟩) 0 0, .int .i64 0]) (by simp [results, Tryz.results88, go_sem]) rfl ⟨⟨_, by rw [HE.out], ?_, fun q hq => Nat.le_trans HB2.out.size (OwnL.base HO0.out q hq)⟩, bel_alloc HB2.out _⟩
      rw [HF.out]
      exact OwnL.ls HO0.out
  · go_wp2
    go_loopw [9, 11, 30] (fun v9 _ i w' => ∃ (j : Nat) (a9 : Option Addr) (c9 : Nat), j ≤ l.length ∧ i = .int .i64 j ∧ v9 = .slice a9 (kpt l 0 d p j).length c9 ∧ OwnL w' wq.heap.size v9 (kpt l 0 d p j) ∧ Below wq.heap.size wq w') (fun _ _ i _ => l.length - (intOf i).toNat)
    case atStart => exact ⟨0, _, _, Nat.zero_le _, rfl, by rw [kpt_zero]; rfl, by rw [kpt_zero]; exact HO0.out, bel_alloc (Below.refl _ _) _⟩
    case round =>
      obtain ⟨j, a9, c9, hj, rfl, rfl, hO, hB⟩ := hrel
      have HO : Hid (OwnL wr wq.heap.size (.slice a9 (kpt l 0 d p j).length c9) (kpt l 0 d p j)) := hO
      have HB : Hid (Below wq.heap.size wq wr) := hB
      have hkl : (kpt l 0 d p j).length ≤ 6 := Nat.le_trans (kpt_len _ _ _ _ _) h6
      by_cases hlt : j < l.length
      · have hx := HLq.out.keep hB
        obtain ⟨a', cap', e', _, _, hx⟩ := hx
        rcases hx with hx | ⟨b', o', e2, hb', hc'⟩
        · rw [hx] at hlt; exact absurd hlt (Nat.not_lt_zero _)
        simp only [Value.slice.injEq] at e'
        obtain ⟨rfl, _, rfl⟩ := e'
        simp only [Option.some.injEq, Addr.mk.injEq, and_true] at e2
        obtain ⟨rfl, rfl⟩ := e2
        obtain ⟨g0, g1, g2, g3, g4⟩ := hc' j hlt
        clear hc'
        obtain ⟨y, hy⟩ : ∃ y, y = lth l j := ⟨_, rfl⟩
        have HY : Hid (y = lth l j) := hy
        rw [← hy] at g0 g1 g2 g3 g4
        clear hy
        have hszq : Hid (wq.heap.size ≤ wr.heap.size) := hB.size
        clear hB hO
        obtain ⟨d1, p1, a1, r1, x1⟩ := y
        simp only at g0 g1 g2 g3 g4
        have hlt1 : (j : Int) < l.length := by omega
        go_wp2_with fail
        refine (q0_any d1 p1 a1 r1 x1 _).mono ?_
        rintro e w1 ⟨rfl, ob, rfl⟩
        have hg := goes0 d p (d1, p1, a1, r1, x1)
        have HK : Hid (kpt l 0 d p (j + 1) = kpt l 0 d p j ++ [(d1, p1, a1, r1, x1)]) := by show _ = _; rw [kpt_kept hlt (by rw [← HY.out]; exact hg), ← HY.out]
        generalize hkj : kpt l 0 d p j = kj at *
        go_wp2_with (first | (at_builtin; refine wpList_append_L rfl (.tmp 38) (.tmp 40) rfl wq.heap.size _ _ kj [(d1, p1, a1, r1, x1)] rfl rfl (((HO.out.alloc _).alloc _).alloc _) (ls_oneAt (by simp) _ _ _ _ _ _) (by simp; omega) (by have := hszq.out; simp; omega) (.inr (by simp)) ?_))
        intro g9 cg9 w9 hown9 _ hbel9 _
        have HN9 : Hid ((kj ++ [(d1, p1, a1, r1, x1)]).length = kj.length + 1) := by show _ = _; simp
        have HO9 : Hid (OwnL w9 wq.heap.size (.slice (some ⟨g9, 0, none⟩) (kj.length + 1) cg9) (kj ++ [(d1, p1, a1, r1, x1)])) := hown9
        have HB9 : Hid (Below wq.heap.size wq w9) := (bel_alloc (bel_alloc (bel_alloc HB.out _) _) _).trans hbel9
        clear hown9 hbel9
        go_wp2
        exact ⟨⟨j + 1, some ⟨g9, 0, none⟩, cg9, by omega, by go_num, by rw [HK.out, HN9.out], by rw [HK.out]; exact HO9.out, HB9.out⟩, by simp [intOf]; omega⟩
      · obtain rfl : j = l.length := by omega
        clear hB hO
        go_wp2
        refine bodyPost_ret (v := .tuple #[.slice a9 (kpt l 0 d p l.length).length c9, .int .i64 0]) (by simp [results, Tryz.results88, go_sem]) rfl ⟨⟨_, by rw [HE.out], ?_, fun q hq => Nat.le_trans HB2.out.size (OwnL.base HO.out q hq)⟩, bel_trans HB2.out HB.out⟩
        rw [HF.out]
        exact OwnL.ls HO.out
set_option maxHeartbeats 1000000 in
theorem drop_1 (v : Value) (l : List Ln) (d p : Int) (w : World) (h : Ls w v l) (hc : chkC l = 0) :
    Calls Tryz.prog 88 #[v, .agg #[.int .i64 (1 : Int), .int .i64 d, .int .i64 p]] w fun e w' => (∃ v', e = .returned (.tuple #[v', .int .i64 (drE l (1 : Int))]) ∧ Ls w' v' (drC l (1 : Int) d p) ∧ Fresh w.heap.size v') ∧ Below w.heap.size w w' := by
  have HL : Hid (Ls w v l) := h
  have h6 : l.length ≤ 6 := (chkC_zero.1 hc).1
  obtain ⟨a0, cap, rfl, hl, hm, h⟩ := h
  unfold maxLen at hm
  have HE : Hid (drE l 1 = 0) := (drC_ok (d := d) (p := p) hc (by omega)).1
  have HF : Hid (drC l 1 d p = kpt l 1 d p l.length) := (drC_ok hc (by omega)).2
  go_enter Tryz.func88, Tryz.ntmps88
  go_wp2_with fail
  refine (cCheck_any _ l _ (HL.out.keep (bel_alloc (Below.refl _ _) _))).mono ?_
  rw [hc]
  rintro e wx ⟨rfl, b1⟩
  have K1 := (Blk.new w #[.int .i64 (1 : Int), .int .i64 d, .int .i64 p] 120 (0, 0)).keep b1
  have B1 : Hid (Below w.heap.size w wx) := bel_trans (bel_alloc (Below.refl _ _) _) b1
  obtain ⟨c0, c1, c2⟩ := K1.three
  have s1 := K1.lt
  clear b1 K1
  go_wp2
  go_region_held3 (fun w' => w'.cell? ⟨w.heap.size, 0, none⟩ = some (.int .i64 (1 : Int)) ∧ w'.cell? ⟨w.heap.size, 1, none⟩ = some (.int .i64 d) ∧ w'.cell? ⟨w.heap.size, 2, none⟩ = some (.int .i64 p) ∧ Below wx.heap.size wx w')
    (with_reducible refine keep3 (by assumption) (by assumption) (by assumption) (by assumption) ?_; (repeat (first | with_reducible assumption | (with_reducible (refine limb3 (?_ : _ ∧ _ ∧ _ ∧ _); assumption)) | with_reducible exact Below.refl _ _ | with_reducible refine Below.drew ?_ | with_reducible refine bel_drewN ?_ _ | with_reducible refine bel_alloc ?_ _ | with_reducible refine bel_trans ?_ (by assumption))))
    (first | (go_at_call 119; refine (questions_any (1 : Int) d p _).mono ?_; rintro e wq ⟨⟨bq, rfl, hq⟩, bb⟩; have hlook := hq.at1))
  rename_i hH
  have HB2 : Hid (Below w.heap.size w wq) := bel_trans B1.out (limb3 hH)
  clear hH bb hq c0 c1 c2 s1 B1
  have HLq : Hid (Ls wq (.slice a0 l.length cap) l) := HL.out.keep HB2.out
  have HO0 : Hid (OwnL (wq.alloc (.cells #[] 52)) wq.heap.size (.slice (some ⟨wq.heap.size, 0, none⟩) 0 0) []) := OwnL.lit wq _ (Nat.le_refl _)
  clear HL hlook
  rcases h with rfl | ⟨b, o, rfl, hb, _⟩
  · go_wp2
    go_loopw [9, 11, 30] (fun v9 _ i w' => v9 = .slice (some ⟨wq.heap.size, 0, none⟩) 0 0 ∧ i = .int .i64 0 ∧ w' = wq.alloc (.cells #[] 52)) (fun _ _ i _ => 0)
    case atStart => exact ⟨rfl, rfl, rfl⟩
    case round =>
      obtain ⟨rfl, rfl, rfl⟩ := hrel
      go_wp2
      refine bodyPost_ret (v := .tuple #[.slice (some ⟨wq.heap.size, 0, none⟩) 0 0, .int .i64 0]) (by simp [results, Tryz.results88, go_sem]) rfl ⟨⟨_, by rw [HE.out], ?_, fun q hq => Nat.le_trans HB2.out.size (OwnL.base HO0.out q hq)⟩, bel_alloc HB2.out _⟩
      rw [HF.out]
      exact OwnL.ls HO0.out
  · go_wp2
    go_loopw [9, 11, 30] (fun v9 _ i w' => ∃ (j : Nat) (a9 : Option Addr) (c9 : Nat), j ≤ l.length ∧ i = .int .i64 j ∧ v9 = .slice a9 (kpt l 1 d p j).length c9 ∧ OwnL w' wq.heap.size v9 (kpt l 1 d p j) ∧ Below wq.heap.size wq w') (fun _ _ i _ => l.length - (intOf i).toNat)
    case atStart => exact ⟨0, _, _, Nat.zero_le _, rfl, by rw [kpt_zero]; rfl, by rw [kpt_zero]; exact HO0.out, bel_alloc (Below.refl _ _) _⟩
    case round =>
      obtain ⟨j, a9, c9, hj, rfl, rfl, hO, hB⟩ := hrel
      have HO : Hid (OwnL wr wq.heap.size (.slice a9 (kpt l 1 d p j).length c9) (kpt l 1 d p j)) := hO
      have HB : Hid (Below wq.heap.size wq wr) := hB
      have hkl : (kpt l 1 d p j).length ≤ 6 := Nat.le_trans (kpt_len _ _ _ _ _) h6
      by_cases hlt : j < l.length
      · have hx := HLq.out.keep hB
        obtain ⟨a', cap', e', _, _, hx⟩ := hx
        rcases hx with hx | ⟨b', o', e2, hb', hc'⟩
        · rw [hx] at hlt; exact absurd hlt (Nat.not_lt_zero _)
        simp only [Value.slice.injEq] at e'
        obtain ⟨rfl, _, rfl⟩ := e'
        simp only [Option.some.injEq, Addr.mk.injEq, and_true] at e2
        obtain ⟨rfl, rfl⟩ := e2
        obtain ⟨g0, g1, g2, g3, g4⟩ := hc' j hlt
        clear hc'
        obtain ⟨y, hy⟩ : ∃ y, y = lth l j := ⟨_, rfl⟩
        have HY : Hid (y = lth l j) := hy
        rw [← hy] at g0 g1 g2 g3 g4
        clear hy
        have hszq : Hid (wq.heap.size ≤ wr.heap.size) := hB.size
        clear hB hO
        obtain ⟨d1, p1, a1, r1, x1⟩ := y
        simp only at g0 g1 g2 g3 g4
        have hlt1 : (j : Int) < l.length := by omega
        go_wp2_with fail
        refine (q1_any d1 p1 a1 r1 x1 _).mono ?_
        rintro e w1 ⟨rfl, ob, rfl⟩
        have hg := goes1 d p (d1, p1, a1, r1, x1)
        have HK : Hid (kpt l 1 d p (j + 1) = kpt l 1 d p j) := kpt_gone hlt (by rw [← HY.out]; exact hg)
        go_wp2
        exact ⟨⟨j + 1, _, _, by omega, by go_num, by rw [HK.out], by rw [HK.out]; exact (OwnL.alloc HO.out _).alloc _, bel_alloc (bel_alloc HB.out _) _⟩, by simp [intOf]; omega⟩
      · obtain rfl : j = l.length := by omega
        clear hB hO
        go_wp2
        refine bodyPost_ret (v := .tuple #[.slice a9 (kpt l 1 d p l.length).length c9, .int .i64 0]) (by simp [results, Tryz.results88, go_sem]) rfl ⟨⟨_, by rw [HE.out], ?_, fun q hq => Nat.le_trans HB2.out.size (OwnL.base HO.out q hq)⟩, bel_trans HB2.out HB.out⟩
        rw [HF.out]
        exact OwnL.ls HO.out
set_option maxHeartbeats 1000000 in
theorem drop_2 (v : Value) (l : List Ln) (d p : Int) (w : World) (h : Ls w v l) (hc : chkC l = 0) :
    Calls Tryz.prog 88 #[v, .agg #[.int .i64 (2 : Int), .int .i64 d, .int .i64 p]] w fun e w' => (∃ v', e = .returned (.tuple #[v', .int .i64 (drE l (2 : Int))]) ∧ Ls w' v' (drC l (2 : Int) d p) ∧ Fresh w.heap.size v') ∧ Below w.heap.size w w' := by
  have HL : Hid (Ls w v l) := h
  have h6 : l.length ≤ 6 := (chkC_zero.1 hc).1
  obtain ⟨a0, cap, rfl, hl, hm, h⟩ := h
  unfold maxLen at hm
  have HE : Hid (drE l 2 = 0) := (drC_ok (d := d) (p := p) hc (by omega)).1
  have HF : Hid (drC l 2 d p = kpt l 2 d p l.length) := (drC_ok hc (by omega)).2
  go_enter Tryz.func88, Tryz.ntmps88
  go_wp2_with fail
  refine (cCheck_any _ l _ (HL.out.keep (bel_alloc (Below.refl _ _) _))).mono ?_
  rw [hc]
  rintro e wx ⟨rfl, b1⟩
  have K1 := (Blk.new w #[.int .i64 (2 : Int), .int .i64 d, .int .i64 p] 120 (0, 0)).keep b1
  have B1 : Hid (Below w.heap.size w wx) := bel_trans (bel_alloc (Below.refl _ _) _) b1
  obtain ⟨c0, c1, c2⟩ := K1.three
  have s1 := K1.lt
  clear b1 K1
  go_wp2
  go_region_held3 (fun w' => w'.cell? ⟨w.heap.size, 0, none⟩ = some (.int .i64 (2 : Int)) ∧ w'.cell? ⟨w.heap.size, 1, none⟩ = some (.int .i64 d) ∧ w'.cell? ⟨w.heap.size, 2, none⟩ = some (.int .i64 p) ∧ Below wx.heap.size wx w')
    (with_reducible refine keep3 (by assumption) (by assumption) (by assumption) (by assumption) ?_; (repeat (first | with_reducible assumption | (with_reducible (refine limb3 (?_ : _ ∧ _ ∧ _ ∧ _); assumption)) | with_reducible exact Below.refl _ _ | with_reducible refine Below.drew ?_ | with_reducible refine bel_drewN ?_ _ | with_reducible refine bel_alloc ?_ _ | with_reducible refine bel_trans ?_ (by assumption))))
    (first | (go_at_call 119; refine (questions_any (2 : Int) d p _).mono ?_; rintro e wq ⟨⟨bq, rfl, hq⟩, bb⟩; obtain ⟨nq, hlook, hcq, hlq⟩ := hq.at2))
  rename_i hH
  have HB2 : Hid (Below w.heap.size w wq) := bel_trans B1.out (limb3 hH)
  clear hH bb hq c0 c1 c2 s1 B1
  have HCq : Hid (wq.cell? ⟨nq, 1, none⟩ = some (.int .i64 d)) := hcq
  clear hcq
  have HLq : Hid (Ls wq (.slice a0 l.length cap) l) := HL.out.keep HB2.out
  have HO0 : Hid (OwnL (wq.alloc (.cells #[] 52)) wq.heap.size (.slice (some ⟨wq.heap.size, 0, none⟩) 0 0) []) := OwnL.lit wq _ (Nat.le_refl _)
  clear HL hlook
  rcases h with rfl | ⟨b, o, rfl, hb, _⟩
  · go_wp2
    go_loopw [9, 11, 30] (fun v9 _ i w' => v9 = .slice (some ⟨wq.heap.size, 0, none⟩) 0 0 ∧ i = .int .i64 0 ∧ w' = wq.alloc (.cells #[] 52)) (fun _ _ i _ => 0)
    case atStart => exact ⟨rfl, rfl, rfl⟩
    case round =>
      obtain ⟨rfl, rfl, rfl⟩ := hrel
      go_wp2
      refine bodyPost_ret (v := .tuple #[.slice (some ⟨wq.heap.size, 0, none⟩) 0 0, .int .i64 0]) (by simp [results, Tryz.results88, go_sem]) rfl ⟨⟨_, by rw [HE.out], ?_, fun q hq => Nat.le_trans HB2.out.size (OwnL.base HO0.out q hq)⟩, bel_alloc HB2.out _⟩
      rw [HF.out]
      exact OwnL.ls HO0.out
  · go_wp2
    go_loopw [9, 11, 30] (fun v9 _ i w' => ∃ (j : Nat) (a9 : Option Addr) (c9 : Nat), j ≤ l.length ∧ i = .int .i64 j ∧ v9 = .slice a9 (kpt l 2 d p j).length c9 ∧ OwnL w' wq.heap.size v9 (kpt l 2 d p j) ∧ Below wq.heap.size wq w') (fun _ _ i _ => l.length - (intOf i).toNat)
    case atStart => exact ⟨0, _, _, Nat.zero_le _, rfl, by rw [kpt_zero]; rfl, by rw [kpt_zero]; exact HO0.out, bel_alloc (Below.refl _ _) _⟩
    case round =>
      obtain ⟨j, a9, c9, hj, rfl, rfl, hO, hB⟩ := hrel
      have HO : Hid (OwnL wr wq.heap.size (.slice a9 (kpt l 2 d p j).length c9) (kpt l 2 d p j)) := hO
      have HB : Hid (Below wq.heap.size wq wr) := hB
      have hkl : (kpt l 2 d p j).length ≤ 6 := Nat.le_trans (kpt_len _ _ _ _ _) h6
      by_cases hlt : j < l.length
      · have hx := HLq.out.keep hB
        obtain ⟨a', cap', e', _, _, hx⟩ := hx
        rcases hx with hx | ⟨b', o', e2, hb', hc'⟩
        · rw [hx] at hlt; exact absurd hlt (Nat.not_lt_zero _)
        simp only [Value.slice.injEq] at e'
        obtain ⟨rfl, _, rfl⟩ := e'
        simp only [Option.some.injEq, Addr.mk.injEq, and_true] at e2
        obtain ⟨rfl, rfl⟩ := e2
        obtain ⟨g0, g1, g2, g3, g4⟩ := hc' j hlt
        clear hc'
        obtain ⟨y, hy⟩ : ∃ y, y = lth l j := ⟨_, rfl⟩
        have HY : Hid (y = lth l j) := hy
        rw [← hy] at g0 g1 g2 g3 g4
        clear hy
        have cq : Hid (wr.cell? ⟨nq, 1, none⟩ = some (.int .i64 d)) := ((bcell hB).1 nq 1 hlq).trans HCq.out
        have lq : nq < wr.heap.size := Nat.lt_of_lt_of_le hlq hB.size
        have hszq : Hid (wq.heap.size ≤ wr.heap.size) := hB.size
        clear hB hO
        obtain ⟨d1, p1, a1, r1, x1⟩ := y
        simp only at g0 g1 g2 g3 g4
        have hlt1 : (j : Int) < l.length := by omega
        go_wp2_with fail
        refine (q2_any nq d d1 p1 a1 r1 x1 _ (by rw [World.cell?_alloc_past _ _ _ lq]; exact cq.out) (by simp; omega)).mono ?_
        rintro e w1 ⟨rfl, ob, rfl⟩
        have hgo := (goes2 d p (d1, p1, a1, r1, x1)).symm
        simp only at hgo
        rw [hgo]
        clear hgo
        cases hg : goesB 2 d p (d1, p1, a1, r1, x1)
        · have HK : Hid (kpt l 2 d p (j + 1) = kpt l 2 d p j ++ [(d1, p1, a1, r1, x1)]) := by show _ = _; rw [kpt_kept hlt (by rw [← HY.out]; exact hg), ← HY.out]
          generalize hkj : kpt l 2 d p j = kj at *
          go_wp2_with (first | (at_builtin; refine wpList_append_L rfl (.tmp 38) (.tmp 40) rfl wq.heap.size _ _ kj [(d1, p1, a1, r1, x1)] rfl rfl (((HO.out.alloc _).alloc _).alloc _) (ls_oneAt (by simp) _ _ _ _ _ _) (by simp; omega) (by have := hszq.out; simp; omega) (.inr (by simp)) ?_))
          intro g9 cg9 w9 hown9 _ hbel9 _
          have HN9 : Hid ((kj ++ [(d1, p1, a1, r1, x1)]).length = kj.length + 1) := by show _ = _; simp
          have HO9 : Hid (OwnL w9 wq.heap.size (.slice (some ⟨g9, 0, none⟩) (kj.length + 1) cg9) (kj ++ [(d1, p1, a1, r1, x1)])) := hown9
          have HB9 : Hid (Below wq.heap.size wq w9) := (bel_alloc (bel_alloc (bel_alloc HB.out _) _) _).trans hbel9
          clear hown9 hbel9
          go_wp2
          exact ⟨⟨j + 1, some ⟨g9, 0, none⟩, cg9, by omega, by go_num, by rw [HK.out, HN9.out], by rw [HK.out]; exact HO9.out, HB9.out⟩, by simp [intOf]; omega⟩
        · have HK : Hid (kpt l 2 d p (j + 1) = kpt l 2 d p j) := kpt_gone hlt (by rw [← HY.out]; exact hg)
          go_wp2
          exact ⟨⟨j + 1, _, _, by omega, by go_num, by rw [HK.out], by rw [HK.out]; exact (OwnL.alloc HO.out _).alloc _, bel_alloc (bel_alloc HB.out _) _⟩, by simp [intOf]; omega⟩
      · obtain rfl : j = l.length := by omega
        clear hB hO
        go_wp2
        refine bodyPost_ret (v := .tuple #[.slice a9 (kpt l 2 d p l.length).length c9, .int .i64 0]) (by simp [results, Tryz.results88, go_sem]) rfl ⟨⟨_, by rw [HE.out], ?_, fun q hq => Nat.le_trans HB2.out.size (OwnL.base HO.out q hq)⟩, bel_trans HB2.out HB.out⟩
        rw [HF.out]
        exact OwnL.ls HO.out
set_option maxHeartbeats 1000000 in
theorem drop_3 (v : Value) (l : List Ln) (d p : Int) (w : World) (h : Ls w v l) (hc : chkC l = 0) :
    Calls Tryz.prog 88 #[v, .agg #[.int .i64 (3 : Int), .int .i64 d, .int .i64 p]] w fun e w' => (∃ v', e = .returned (.tuple #[v', .int .i64 (drE l (3 : Int))]) ∧ Ls w' v' (drC l (3 : Int) d p) ∧ Fresh w.heap.size v') ∧ Below w.heap.size w w' := by
  have HL : Hid (Ls w v l) := h
  have h6 : l.length ≤ 6 := (chkC_zero.1 hc).1
  obtain ⟨a0, cap, rfl, hl, hm, h⟩ := h
  unfold maxLen at hm
  have HE : Hid (drE l 3 = 0) := (drC_ok (d := d) (p := p) hc (by omega)).1
  have HF : Hid (drC l 3 d p = kpt l 3 d p l.length) := (drC_ok hc (by omega)).2
  go_enter Tryz.func88, Tryz.ntmps88
  go_wp2_with fail
  refine (cCheck_any _ l _ (HL.out.keep (bel_alloc (Below.refl _ _) _))).mono ?_
  rw [hc]
  rintro e wx ⟨rfl, b1⟩
  have K1 := (Blk.new w #[.int .i64 (3 : Int), .int .i64 d, .int .i64 p] 120 (0, 0)).keep b1
  have B1 : Hid (Below w.heap.size w wx) := bel_trans (bel_alloc (Below.refl _ _) _) b1
  obtain ⟨c0, c1, c2⟩ := K1.three
  have s1 := K1.lt
  clear b1 K1
  go_wp2
  go_region_held3 (fun w' => w'.cell? ⟨w.heap.size, 0, none⟩ = some (.int .i64 (3 : Int)) ∧ w'.cell? ⟨w.heap.size, 1, none⟩ = some (.int .i64 d) ∧ w'.cell? ⟨w.heap.size, 2, none⟩ = some (.int .i64 p) ∧ Below wx.heap.size wx w')
    (with_reducible refine keep3 (by assumption) (by assumption) (by assumption) (by assumption) ?_; (repeat (first | with_reducible assumption | (with_reducible (refine limb3 (?_ : _ ∧ _ ∧ _ ∧ _); assumption)) | with_reducible exact Below.refl _ _ | with_reducible refine Below.drew ?_ | with_reducible refine bel_drewN ?_ _ | with_reducible refine bel_alloc ?_ _ | with_reducible refine bel_trans ?_ (by assumption))))
    (first | (go_at_call 119; refine (questions_any (3 : Int) d p _).mono ?_; rintro e wq ⟨⟨bq, rfl, hq⟩, bb⟩; obtain ⟨uq, vq, hlook, ⟨hcu, hlu⟩, ⟨hcv, hlv⟩⟩ := hq.at3))
  rename_i hH
  have HB2 : Hid (Below w.heap.size w wq) := bel_trans B1.out (limb3 hH)
  clear hH bb hq c0 c1 c2 s1 B1
  have HCu : Hid (wq.cell? ⟨uq, 0, none⟩ = some (.int .i64 d)) := hcu
  have HCv : Hid (wq.cell? ⟨vq, 0, none⟩ = some (.int .i64 p)) := hcv
  clear hcu hcv
  have HLq : Hid (Ls wq (.slice a0 l.length cap) l) := HL.out.keep HB2.out
  have HO0 : Hid (OwnL (wq.alloc (.cells #[] 52)) wq.heap.size (.slice (some ⟨wq.heap.size, 0, none⟩) 0 0) []) := OwnL.lit wq _ (Nat.le_refl _)
  clear HL hlook
  rcases h with rfl | ⟨b, o, rfl, hb, _⟩
  · go_wp2
    go_loopw [9, 11, 30] (fun v9 _ i w' => v9 = .slice (some ⟨wq.heap.size, 0, none⟩) 0 0 ∧ i = .int .i64 0 ∧ w' = wq.alloc (.cells #[] 52)) (fun _ _ i _ => 0)
    case atStart => exact ⟨rfl, rfl, rfl⟩
    case round =>
      obtain ⟨rfl, rfl, rfl⟩ := hrel
      go_wp2
      refine bodyPost_ret (v := .tuple #[.slice (some ⟨wq.heap.size, 0, none⟩) 0 0, .int .i64 0]) (by simp [results, Tryz.results88, go_sem]) rfl ⟨⟨_, by rw [HE.out], ?_, fun q hq => Nat.le_trans HB2.out.size (OwnL.base HO0.out q hq)⟩, bel_alloc HB2.out _⟩
      rw [HF.out]
      exact OwnL.ls HO0.out
  · go_wp2
    go_loopw [9, 11, 30] (fun v9 _ i w' => ∃ (j : Nat) (a9 : Option Addr) (c9 : Nat), j ≤ l.length ∧ i = .int .i64 j ∧ v9 = .slice a9 (kpt l 3 d p j).length c9 ∧ OwnL w' wq.heap.size v9 (kpt l 3 d p j) ∧ Below wq.heap.size wq w') (fun _ _ i _ => l.length - (intOf i).toNat)
    case atStart => exact ⟨0, _, _, Nat.zero_le _, rfl, by rw [kpt_zero]; rfl, by rw [kpt_zero]; exact HO0.out, bel_alloc (Below.refl _ _) _⟩
    case round =>
      obtain ⟨j, a9, c9, hj, rfl, rfl, hO, hB⟩ := hrel
      have HO : Hid (OwnL wr wq.heap.size (.slice a9 (kpt l 3 d p j).length c9) (kpt l 3 d p j)) := hO
      have HB : Hid (Below wq.heap.size wq wr) := hB
      have hkl : (kpt l 3 d p j).length ≤ 6 := Nat.le_trans (kpt_len _ _ _ _ _) h6
      by_cases hlt : j < l.length
      · have hx := HLq.out.keep hB
        obtain ⟨a', cap', e', _, _, hx⟩ := hx
        rcases hx with hx | ⟨b', o', e2, hb', hc'⟩
        · rw [hx] at hlt; exact absurd hlt (Nat.not_lt_zero _)
        simp only [Value.slice.injEq] at e'
        obtain ⟨rfl, _, rfl⟩ := e'
        simp only [Option.some.injEq, Addr.mk.injEq, and_true] at e2
        obtain ⟨rfl, rfl⟩ := e2
        obtain ⟨g0, g1, g2, g3, g4⟩ := hc' j hlt
        clear hc'
        obtain ⟨y, hy⟩ : ∃ y, y = lth l j := ⟨_, rfl⟩
        have HY : Hid (y = lth l j) := hy
        rw [← hy] at g0 g1 g2 g3 g4
        clear hy
        have cu : Hid (wr.cell? ⟨uq, 0, none⟩ = some (.int .i64 d)) := ((bcell hB).1 uq 0 hlu).trans HCu.out
        have lu : uq < wr.heap.size := Nat.lt_of_lt_of_le hlu hB.size
        have cv : Hid (wr.cell? ⟨vq, 0, none⟩ = some (.int .i64 p)) := ((bcell hB).1 vq 0 hlv).trans HCv.out
        have lv : vq < wr.heap.size := Nat.lt_of_lt_of_le hlv hB.size
        have hszq : Hid (wq.heap.size ≤ wr.heap.size) := hB.size
        clear hB hO
        obtain ⟨d1, p1, a1, r1, x1⟩ := y
        simp only at g0 g1 g2 g3 g4
        have hlt1 : (j : Int) < l.length := by omega
        go_wp2_with fail
        refine (is_any uq vq d p d1 p1 a1 r1 x1 _ (by rw [World.cell?_alloc_past _ _ _ lu]; exact cu.out) (by rw [World.cell?_alloc_past _ _ _ lv]; exact cv.out) (by simp; omega) (by simp; omega)).mono ?_
        rintro e w1 ⟨rfl, ob, rfl⟩
        rw [← goes3 d p (d1, p1, a1, r1, x1)]
        cases hg : goesB 3 d p (d1, p1, a1, r1, x1)
        · have HK : Hid (kpt l 3 d p (j + 1) = kpt l 3 d p j ++ [(d1, p1, a1, r1, x1)]) := by show _ = _; rw [kpt_kept hlt (by rw [← HY.out]; exact hg), ← HY.out]
          generalize hkj : kpt l 3 d p j = kj at *
          go_wp2_with (first | (at_builtin; refine wpList_append_L rfl (.tmp 38) (.tmp 40) rfl wq.heap.size _ _ kj [(d1, p1, a1, r1, x1)] rfl rfl (((HO.out.alloc _).alloc _).alloc _) (ls_oneAt (by simp) _ _ _ _ _ _) (by simp; omega) (by have := hszq.out; simp; omega) (.inr (by simp)) ?_))
          intro g9 cg9 w9 hown9 _ hbel9 _
          have HN9 : Hid ((kj ++ [(d1, p1, a1, r1, x1)]).length = kj.length + 1) := by show _ = _; simp
          have HO9 : Hid (OwnL w9 wq.heap.size (.slice (some ⟨g9, 0, none⟩) (kj.length + 1) cg9) (kj ++ [(d1, p1, a1, r1, x1)])) := hown9
          have HB9 : Hid (Below wq.heap.size wq w9) := (bel_alloc (bel_alloc (bel_alloc HB.out _) _) _).trans hbel9
          clear hown9 hbel9
          go_wp2
          exact ⟨⟨j + 1, some ⟨g9, 0, none⟩, cg9, by omega, by go_num, by rw [HK.out, HN9.out], by rw [HK.out]; exact HO9.out, HB9.out⟩, by simp [intOf]; omega⟩
        · have HK : Hid (kpt l 3 d p (j + 1) = kpt l 3 d p j) := kpt_gone hlt (by rw [← HY.out]; exact hg)
          go_wp2
          exact ⟨⟨j + 1, _, _, by omega, by go_num, by rw [HK.out], by rw [HK.out]; exact (OwnL.alloc HO.out _).alloc _, bel_alloc (bel_alloc HB.out _) _⟩, by simp [intOf]; omega⟩
      · obtain rfl : j = l.length := by omega
        clear hB hO
        go_wp2
        refine bodyPost_ret (v := .tuple #[.slice a9 (kpt l 3 d p l.length).length c9, .int .i64 0]) (by simp [results, Tryz.results88, go_sem]) rfl ⟨⟨_, by rw [HE.out], ?_, fun q hq => Nat.le_trans HB2.out.size (OwnL.base HO.out q hq)⟩, bel_trans HB2.out HB.out⟩
        rw [HF.out]
        exact OwnL.ls HO.out
theorem drop_anyN (v : Value) (l : List Ln) (k d p : Int) (w : World) (h : Ls w v l) (k0 : -9223372036854775808 ≤ k) (k1 : k ≤ 9223372036854775807) :
    Calls Tryz.prog 88 #[v, .agg #[.int .i64 k, .int .i64 d, .int .i64 p]] w fun e w' => (∃ v', e = .returned (.tuple #[v', .int .i64 (drE l k)]) ∧ Ls w' v' (drC l k d p) ∧ Fresh w.heap.size v') ∧ Below w.heap.size w w' := by
  by_cases hc : chkC l = 0
  · by_cases hk : 0 ≤ k ∧ k ≤ 3
    · have : k = 0 ∨ k = 1 ∨ k = 2 ∨ k = 3 := by omega
      rcases this with rfl | rfl | rfl | rfl
      · exact drop_0 v l d p w h hc
      · exact drop_1 v l d p w h hc
      · exact drop_2 v l d p w h hc
      · exact drop_3 v l d p w h hc
    · exact drop_bad v l k d p w h hc k0 k1 hk
  · exact drop_err v l k d p w h hc
end Go.Proofs.YtlgjllmecjkbjacGreat
/-
  The closed fact kept holds; Fill, Filled, Drop, Dropped where their answers are known.
-/
namespace Go.Proofs.YtlgjllmecjkbjacGreat
open Go.RowKit
theorem Ls.shape {w : World} {v : Value} {l : List Ln} (h : Ls w v l) : ∃ a cap, v = .slice a l.length cap ∧ Ls w (.slice a l.length cap) l := by
  have h' := h
  obtain ⟨a, cap, rfl, _⟩ := h
  exact ⟨a, cap, rfl, h'⟩
theorem fill_atF {v : Value} {l : List Ln} {d p a : Int} {r x : Bool} {w : World} (h : Ls w v l) {e0 : Int} {c : List Ln} (hE : flE l (d, p, a, r, x) = e0) (hC : flC l (d, p, a, r, x) = c) :
    Calls Tryz.prog 109 #[v, .agg #[.int .i64 d, .int .i64 p, .int .i64 a, .bool r, .bool x]] w fun e w' => ∃ b cap, e = .returned (.tuple #[.slice b c.length cap, .int .i64 e0]) ∧ Ls w' (.slice b c.length cap) c ∧ Fresh w.heap.size (.slice b c.length cap) ∧ Below w.heap.size w w' := by
  subst hE hC
  refine (fill_any v l d p a r x w h).mono ?_
  rintro e w' ⟨⟨v', rfl, hs, hn⟩, hb⟩
  obtain ⟨b, cap, rfl, hs'⟩ := hs.shape
  exact ⟨b, cap, rfl, hs', hn, hb⟩
theorem drop_atN {v : Value} {l : List Ln} {k d p : Int} {w : World} (h : Ls w v l) (k0 : -9223372036854775808 ≤ k) (k1 : k ≤ 9223372036854775807) {e0 : Int} {c : List Ln} (hE : drE l k = e0) (hC : drC l k d p = c) :
    Calls Tryz.prog 88 #[v, .agg #[.int .i64 k, .int .i64 d, .int .i64 p]] w fun e w' => ∃ b cap, e = .returned (.tuple #[.slice b c.length cap, .int .i64 e0]) ∧ Ls w' (.slice b c.length cap) c ∧ Fresh w.heap.size (.slice b c.length cap) ∧ Below w.heap.size w w' := by
  subst hE hC
  refine (drop_anyN v l k d p w h k0 k1).mono ?_
  rintro e w' ⟨⟨v', rfl, hs, hf⟩, hb⟩
  obtain ⟨b, cap, rfl, hs'⟩ := hs.shape
  exact ⟨b, cap, rfl, hs', hf, hb⟩
end Go.Proofs.YtlgjllmecjkbjacGreat
/-
  Package bridge: what isDev, isPage, isFences, Check, checkBoth, byLine answer; none turns memory that was there.
-/
namespace Go.Proofs.YtlgjllmecjkbjacGreat
open Go.RowKit
def fenR (z : Int) : Bool := decide (0 ≤ z ∧ z < 1000)
theorem isPageB_any (z : Int) (w : World) : Calls Tryz.prog 64 #[.int .i64 z] w fun e w' => e = .returned (.bool (pageR z)) ∧ w' = w := by
  by_cases h1 : 0 ≤ z
  · by_cases h2 : z < 64
    · have : pageR z = true := by simp [pageR, h1, h2]
      rw [this]
      go_enter Tryz.func64, Tryz.ntmps64
      go_wp2
      go_ret
      exact ⟨rfl, rfl⟩
    · have : pageR z = false := by simp [pageR, h2]
      rw [this]
      go_enter Tryz.func64, Tryz.ntmps64
      go_wp2
      go_ret
      exact ⟨rfl, rfl⟩
  · have : pageR z = false := by simp [pageR, h1]
    rw [this]
    go_enter Tryz.func64, Tryz.ntmps64
    go_wp2
    go_ret
    exact ⟨rfl, rfl⟩
theorem isDevB_any (z : Int) (w : World) : Calls Tryz.prog 77 #[.int .i64 z] w fun e w' => e = .returned (.bool (stepR z)) ∧ w' = w := by
  by_cases h1 : 0 ≤ z
  · by_cases h2 : z < 8
    · have : stepR z = true := by simp [stepR, h1, h2]
      rw [this]
      go_enter Tryz.func77, Tryz.ntmps77
      go_wp2
      go_ret
      exact ⟨rfl, rfl⟩
    · have : stepR z = false := by simp [stepR, h2]
      rw [this]
      go_enter Tryz.func77, Tryz.ntmps77
      go_wp2
      go_ret
      exact ⟨rfl, rfl⟩
  · have : stepR z = false := by simp [stepR, h1]
    rw [this]
    go_enter Tryz.func77, Tryz.ntmps77
    go_wp2
    go_ret
    exact ⟨rfl, rfl⟩
theorem isFences_any (z : Int) (w : World) : Calls Tryz.prog 65 #[.int .i64 z] w fun e w' => e = .returned (.bool (fenR z)) ∧ w' = w := by
  by_cases h1 : 0 ≤ z
  · by_cases h2 : z < 1000
    · have : fenR z = true := by simp [fenR, h1, h2]
      rw [this]
      go_enter Tryz.func65, Tryz.ntmps65
      go_wp2
      go_ret
      exact ⟨rfl, rfl⟩
    · have : fenR z = false := by simp [fenR, h2]
      rw [this]
      go_enter Tryz.func65, Tryz.ntmps65
      go_wp2
      go_ret
      exact ⟨rfl, rfl⟩
  · have : fenR z = false := by simp [fenR, h1]
    rw [this]
    go_enter Tryz.func65, Tryz.ntmps65
    go_wp2
    go_ret
    exact ⟨rfl, rfl⟩
theorem rngBr_ways {b : Br} : (rngBr b = true ∧ ¬ b.mode < 0 ∧ ¬ 2 < b.mode ∧ pageR b.base = true ∧ fenR b.fen = true) ∨
    (rngBr b = false ∧ (b.mode < 0 ∨ (¬ b.mode < 0 ∧ 2 < b.mode) ∨ (¬ b.mode < 0 ∧ ¬ 2 < b.mode ∧ pageR b.base = false) ∨ (¬ b.mode < 0 ∧ ¬ 2 < b.mode ∧ pageR b.base = true ∧ fenR b.fen = false))) := by
  simp only [rngBr, pageR, fenR]
  by_cases h1 : b.mode < 0
  · exact .inr ⟨by simp; omega, .inl h1⟩
  by_cases h2 : 2 < b.mode
  · exact .inr ⟨by simp; omega, .inr (.inl ⟨h1, h2⟩)⟩
  by_cases h3 : 0 ≤ b.base ∧ b.base < 64
  · by_cases h4 : 0 ≤ b.fen ∧ b.fen < 1000
    · exact .inl ⟨by simp; omega, h1, h2, by simp [h3], by simp [h4]⟩
    · exact .inr ⟨by simp; omega, .inr (.inr (.inr ⟨h1, h2, by simp [h3], by simpa using h4⟩))⟩
  · exact .inr ⟨by simp; omega, .inr (.inr (.inl ⟨h1, h2, by simpa using h3⟩))⟩
set_option maxHeartbeats 2000000 in
theorem bCheck_any (mo ba op oh ot fe fp fh ft : Int) (st lo : Bool) (vc : Value) (l : List Ln) (w : World) (h : Ls w vc l) :
    Calls Tryz.prog 39 #[.agg #[.int .i64 mo, .int .i64 ba, vc, .int .i64 op, .int .i64 oh, .int .i64 ot, .bool st, .int .i64 fe, .int .i64 fp, .int .i64 fh, .int .i64 ft, .bool lo]] w fun e w' => e = .returned (.int .i64 (chkB ⟨mo, ba, l, op, oh, ot, st, fe, fp, fh, ft, lo⟩)) ∧ Below w.heap.size w w' := by
  have HS : Hid (Ls w vc l) := h
  obtain ⟨va, vk, rfl, -⟩ := h.shape
  clear h
  rcases rngBr_ways (b := ⟨mo, ba, l, op, oh, ot, st, fe, fp, fh, ft, lo⟩) with ⟨hr, h1, h2, h3, h4⟩ | ⟨hr, hw⟩
  rotate_left
  · have HE : Hid (chkB ⟨mo, ba, l, op, oh, ot, st, fe, fp, fh, ft, lo⟩ = 2) := by show _ = _; rw [chkB, hr]; rfl
    clear hr
    dsimp only at hw
    rcases hw with h1 | ⟨h1, h2⟩ | ⟨h1, h2, h3⟩ | ⟨h1, h2, h3, h4⟩
    all_goals
      go_enter Tryz.func39, Tryz.ntmps39
      go_wp2_with (first | (go_at_call 64; refine (isPageB_any _ _).mono ?_; rintro e w' ⟨rfl, rfl⟩) | (go_at_call 65; refine (isFences_any _ _).mono ?_; rintro e w' ⟨rfl, rfl⟩))
      go_ret
      exact ⟨ret_int HE.out.symm, bel_alloc (Below.refl _ _) _⟩
  dsimp only at h1 h2 h3 h4
  have HR : Hid (rngBr ⟨mo, ba, l, op, oh, ot, st, fe, fp, fh, ft, lo⟩ = true) := hr
  clear hr
  go_enter Tryz.func39, Tryz.ntmps39
  go_wp2_with (first | (go_at_call 64; refine (isPageB_any _ _).mono ?_; rintro e w' ⟨rfl, rfl⟩) | (go_at_call 65; refine (isFences_any _ _).mono ?_; rintro e w' ⟨rfl, rfl⟩))
  refine (cCheck_any _ l _ (HS.out.alloc _)).mono ?_
  rintro e w1 ⟨rfl, b1⟩
  have X0 := (Box.newAt (n := w.heap.size) rfl 31 #[.int .i64 mo, .int .i64 ba, .slice va l.length vk, .int .i64 op, .int .i64 oh, .int .i64 ot, .bool st, .int .i64 fe, .int .i64 fp, .int .i64 fh, .int .i64 ft, .bool lo]).keep b1
  have B1 : Hid (Below w.heap.size w w1) := bel_trans (bel_alloc (Below.refl _ _) _) b1
  clear b1
  obtain ⟨⟨q0, q1, q2, q3, q4, q5, q6, q7, q8, q9, q10, q11⟩, s0⟩ := X0.twelve
  by_cases hc : chkC l = 0
  rotate_left
  · have HE : Hid (chkB ⟨mo, ba, l, op, oh, ot, st, fe, fp, fh, ft, lo⟩ = chkC l) := by show _ = _; rw [chkB, if_pos HR.out, if_neg hc]
    have hq : (chkC l != 0) = true := by simpa using hc
    go_wp2
    go_ret
    exact ⟨ret_int HE.out.symm, B1.out⟩
  rw [hc]
  go_wp2_with fail
  refine (rCheck_any _ _ _ _).mono ?_
  rintro e w2 ⟨rfl, rfl⟩
  by_cases hk : chkR op oh ot = 0
  rotate_left
  · have HE : Hid (chkB ⟨mo, ba, l, op, oh, ot, st, fe, fp, fh, ft, lo⟩ = chkR op oh ot) := by show _ = _; rw [chkB, if_pos HR.out, if_pos hc, if_neg hk]
    have hq : (chkR op oh ot != 0) = true := by simpa using hk
    go_wp2
    go_ret
    exact ⟨ret_int HE.out.symm, bel_alloc B1.out _⟩
  have HE : Hid (chkB ⟨mo, ba, l, op, oh, ot, st, fe, fp, fh, ft, lo⟩ = chkR fp fh ft) := by show _ = _; rw [chkB, if_pos HR.out, if_pos hc, if_pos hk]
  rw [hk]
  go_wp2_with fail
  refine (rCheck_any _ _ _ _).mono ?_
  rintro e w2 ⟨rfl, rfl⟩
  go_wp2
  go_ret
  exact ⟨ret_int HE.out.symm, bel_alloc (bel_alloc B1.out _) _⟩
set_option maxHeartbeats 2000000 in
theorem checkBothB_any (v : Value) (zs : List Int) (mo ba op oh ot fe fp fh ft : Int) (st lo : Bool) (vc : Value) (l : List Ln) (w : World) (hs : Sl w v zs) (h : Ls w vc l) :
    Calls Tryz.prog 76 #[.agg #[v], .agg #[.int .i64 mo, .int .i64 ba, vc, .int .i64 op, .int .i64 oh, .int .i64 ot, .bool st, .int .i64 fe, .int .i64 fp, .int .i64 fh, .int .i64 ft, .bool lo]] w fun e w' => e = .returned (.int .i64 (bothB zs ⟨mo, ba, l, op, oh, ot, st, fe, fp, fh, ft, lo⟩)) ∧ Below w.heap.size w w' := by
  have HS : Hid (Ls w vc l) := h
  obtain ⟨va, vk, rfl, -⟩ := h.shape
  clear h
  go_enter Tryz.func76, Tryz.ntmps76
  go_wp2_with fail
  refine (check_any _ zs _ (hs.keep (bel_alloc (bel_alloc (Below.refl _ _) _) _))).mono ?_
  rintro e w1 ⟨rfl, b1⟩
  have X0 := (Box.newAt (n := w.heap.size + 1) (by simp) 31 #[.int .i64 mo, .int .i64 ba, .slice va l.length vk, .int .i64 op, .int .i64 oh, .int .i64 ot, .bool st, .int .i64 fe, .int .i64 fp, .int .i64 fh, .int .i64 ft, .bool lo]).keep b1
  have B1 : Hid (Below w.heap.size w w1) := bel_trans (bel_alloc (bel_alloc (Below.refl _ _) _) _) b1
  clear b1
  obtain ⟨⟨q0, q1, q2, q3, q4, q5, q6, q7, q8, q9, q10, q11⟩, s0⟩ := X0.twelve
  by_cases hk : chk zs = 0
  · have HE : Hid (bothB zs ⟨mo, ba, l, op, oh, ot, st, fe, fp, fh, ft, lo⟩ = chkB ⟨mo, ba, l, op, oh, ot, st, fe, fp, fh, ft, lo⟩) := if_pos hk
    rw [hk]
    go_wp2_with fail
    refine (bCheck_any mo ba op oh ot fe fp fh ft st lo (.slice va l.length vk) l _ (HS.out.keep B1.out)).mono ?_
    rintro e w2 ⟨rfl, b2⟩
    go_wp2
    go_ret
    exact ⟨ret_int HE.out.symm, bel_trans B1.out b2⟩
  · have HE : Hid (bothB zs ⟨mo, ba, l, op, oh, ot, st, fe, fp, fh, ft, lo⟩ = chk zs) := if_neg hk
    have hq : (chk zs != 0) = true := by simpa using hk
    go_wp2
    go_ret
    exact ⟨ret_int HE.out.symm, B1.out⟩
theorem byLine_any (d p a : Int) (r x wr : Bool) (w : World) :
    Calls Tryz.prog 106 #[.agg #[.int .i64 d, .int .i64 p, .int .i64 a, .bool r, .bool x], .bool wr] w fun e w' =>
      e = .returned (.tuple #[.int .i64 (if (wr && !x) = true then 0 else a), .int .i64 (if (wr && !x) = true then 5 else 0)]) ∧ Below w.heap.size w w' := by
  cases wr <;> cases x
  all_goals
    go_enter Tryz.func106, Tryz.ntmps106
    go_wp2
    first
      | exact bodyPost_ret (v := .tuple #[.int .i64 a, .int .i64 0]) (by simp [results, Tryz.results106, go_sem, *]; done) rfl ⟨rfl, bel_alloc (Below.refl _ _) _⟩
      | exact bodyPost_ret (v := .tuple #[.int .i64 0, .int .i64 5]) (by simp [results, Tryz.results106, go_sem, *]; done) rfl ⟨rfl, bel_alloc (Below.refl _ _) _⟩
end Go.Proofs.YtlgjllmecjkbjacGreat
/-
  drawbridgeref's CheckCache: the first thing that is wrong with lines; nothing that was there turns.
-/
namespace Go.Proofs.YtlgjllmecjkbjacGreat
open Go.RowKit
end Go.Proofs.YtlgjllmecjkbjacGreat
/-
  drawbridgeref's CheckRing, LengthOf, Pushed, Popped: what they answer; nothing that was there turns.
-/
namespace Go.Proofs.YtlgjllmecjkbjacGreat
open Go.RowKit
end Go.Proofs.YtlgjllmecjkbjacGreat
/-
  drawbridgeref's CheckBridge: what it answers; nothing that was there turns.
-/
namespace Go.Proofs.YtlgjllmecjkbjacGreat
open Go.RowKit
end Go.Proofs.YtlgjllmecjkbjacGreat
/-
  slices.Equal on two slices of lines answers whether they read as one list, whatever they are; it only reads.
-/
namespace Go.Proofs.YtlgjllmecjkbjacGreat
open Go.RowKit
end Go.Proofs.YtlgjllmecjkbjacGreat
/-
  bridge.Same and drawbridgeref.SameBridge: are two bridges alike? Nothing that was there turns.
-/
namespace Go.Proofs.YtlgjllmecjkbjacGreat
open Go.RowKit
end Go.Proofs.YtlgjllmecjkbjacGreat
/-
  A machine: one block of sixteen cells (memory, hart, bridge); drawbridgeref's CheckMachine, SameMachine.
-/
namespace Go.Proofs.YtlgjllmecjkbjacGreat
open Go.RowKit
theorem Box.sixteen {w : World} {n : Nat} {t : TypeId} {a0 a1 a2 a3 a4 a5 a6 a7 a8 a9 a10 a11 a12 a13 a14 a15 : Value} (h : Box w n t #[a0, a1, a2, a3, a4, a5, a6, a7, a8, a9, a10, a11, a12, a13, a14, a15]) :
    (w.cell? ⟨n, 0, none⟩ = some a0 ∧ w.cell? ⟨n, 1, none⟩ = some a1 ∧ w.cell? ⟨n, 2, none⟩ = some a2 ∧ w.cell? ⟨n, 3, none⟩ = some a3) ∧ (w.cell? ⟨n, 4, none⟩ = some a4 ∧ w.cell? ⟨n, 5, none⟩ = some a5 ∧ w.cell? ⟨n, 6, none⟩ = some a6 ∧ w.cell? ⟨n, 7, none⟩ = some a7 ∧ w.cell? ⟨n, 8, none⟩ = some a8 ∧ w.cell? ⟨n, 9, none⟩ = some a9 ∧ w.cell? ⟨n, 10, none⟩ = some a10 ∧ w.cell? ⟨n, 11, none⟩ = some a11 ∧ w.cell? ⟨n, 12, none⟩ = some a12 ∧ w.cell? ⟨n, 13, none⟩ = some a13 ∧ w.cell? ⟨n, 14, none⟩ = some a14 ∧ w.cell? ⟨n, 15, none⟩ = some a15) ∧ n < w.heap.size :=
  ⟨⟨h.cell 0, h.cell 1, h.cell 2, h.cell 3⟩, ⟨h.cell 4, h.cell 5, h.cell 6, h.cell 7, h.cell 8, h.cell 9, h.cell 10, h.cell 11, h.cell 12, h.cell 13, h.cell 14, h.cell 15⟩, h.lt⟩
end Go.Proofs.YtlgjllmecjkbjacGreat
/-
  Stores into a machine's block.
-/
namespace Go.Proofs.YtlgjllmecjkbjacGreat
open Go.RowKit
theorem Box.seven {w : World} {n : Nat} {t : TypeId} {a0 a1 a2 a3 a4 a5 a6 : Value} (h : Box w n t #[a0, a1, a2, a3, a4, a5, a6]) :
    (w.cell? ⟨n, 0, none⟩ = some a0 ∧ w.cell? ⟨n, 1, none⟩ = some a1 ∧ w.cell? ⟨n, 2, none⟩ = some a2 ∧ w.cell? ⟨n, 3, none⟩ = some a3 ∧ w.cell? ⟨n, 4, none⟩ = some a4 ∧ w.cell? ⟨n, 5, none⟩ = some a5 ∧ w.cell? ⟨n, 6, none⟩ = some a6) ∧ n < w.heap.size :=
  ⟨⟨h.cell 0, h.cell 1, h.cell 2, h.cell 3, h.cell 4, h.cell 5, h.cell 6⟩, h.lt⟩
theorem Box.marksOf {w : World} {n : Nat} {t : TypeId} {cs : Array Value} (h : Box w n t cs) : ∀ i, w.frozen? ⟨n, i, none⟩ = false := fun i => h.frozen i
theorem bel_set16 {a w : World} {n : Nat} (hp : a.heap.size ≤ n) (h : Below a.heap.size a w) (u0 u1 u2 u3 u4 u5 u6 u7 u8 u9 u10 u11 u12 u13 u14 u15 : Value) :
    Below a.heap.size a ((((((((((((((((w.setCell ⟨n, 0, none⟩ u0).setCell ⟨n, 1, none⟩ u1).setCell ⟨n, 2, none⟩ u2).setCell ⟨n, 3, none⟩ u3).setCell ⟨n, 4, none⟩ u4).setCell ⟨n, 5, none⟩ u5).setCell ⟨n, 6, none⟩ u6).setCell ⟨n, 7, none⟩ u7).setCell ⟨n, 8, none⟩ u8).setCell ⟨n, 9, none⟩ u9).setCell ⟨n, 10, none⟩ u10).setCell ⟨n, 11, none⟩ u11).setCell ⟨n, 12, none⟩ u12).setCell ⟨n, 13, none⟩ u13).setCell ⟨n, 14, none⟩ u14).setCell ⟨n, 15, none⟩ u15) := ((((((((((((((((h.setCell (p := ⟨n, 0, none⟩) hp u0).setCell (p := ⟨n, 1, none⟩) hp u1).setCell (p := ⟨n, 2, none⟩) hp u2).setCell (p := ⟨n, 3, none⟩) hp u3).setCell (p := ⟨n, 4, none⟩) hp u4).setCell (p := ⟨n, 5, none⟩) hp u5).setCell (p := ⟨n, 6, none⟩) hp u6).setCell (p := ⟨n, 7, none⟩) hp u7).setCell (p := ⟨n, 8, none⟩) hp u8).setCell (p := ⟨n, 9, none⟩) hp u9).setCell (p := ⟨n, 10, none⟩) hp u10).setCell (p := ⟨n, 11, none⟩) hp u11).setCell (p := ⟨n, 12, none⟩) hp u12).setCell (p := ⟨n, 13, none⟩) hp u13).setCell (p := ⟨n, 14, none⟩) hp u14).setCell (p := ⟨n, 15, none⟩) hp u15)
theorem Box.set16 {w : World} {n : Nat} {t : TypeId} {a0 a1 a2 a3 a4 a5 a6 a7 a8 a9 a10 a11 a12 a13 a14 a15 : Value} (h : Box w n t #[a0, a1, a2, a3, a4, a5, a6, a7, a8, a9, a10, a11, a12, a13, a14, a15]) (u0 u1 u2 u3 u4 u5 u6 u7 u8 u9 u10 u11 u12 u13 u14 u15 : Value) :
    Box ((((((((((((((((w.setCell ⟨n, 0, none⟩ u0).setCell ⟨n, 1, none⟩ u1).setCell ⟨n, 2, none⟩ u2).setCell ⟨n, 3, none⟩ u3).setCell ⟨n, 4, none⟩ u4).setCell ⟨n, 5, none⟩ u5).setCell ⟨n, 6, none⟩ u6).setCell ⟨n, 7, none⟩ u7).setCell ⟨n, 8, none⟩ u8).setCell ⟨n, 9, none⟩ u9).setCell ⟨n, 10, none⟩ u10).setCell ⟨n, 11, none⟩ u11).setCell ⟨n, 12, none⟩ u12).setCell ⟨n, 13, none⟩ u13).setCell ⟨n, 14, none⟩ u14).setCell ⟨n, 15, none⟩ u15) n t #[u0, u1, u2, u3, u4, u5, u6, u7, u8, u9, u10, u11, u12, u13, u14, u15] := by
  have h0 : Box _ n t #[u0, a1, a2, a3, a4, a5, a6, a7, a8, a9, a10, a11, a12, a13, a14, a15] := h.set 0 u0
  have h1 : Box _ n t #[u0, u1, a2, a3, a4, a5, a6, a7, a8, a9, a10, a11, a12, a13, a14, a15] := h0.set 1 u1
  have h2 : Box _ n t #[u0, u1, u2, a3, a4, a5, a6, a7, a8, a9, a10, a11, a12, a13, a14, a15] := h1.set 2 u2
  have h3 : Box _ n t #[u0, u1, u2, u3, a4, a5, a6, a7, a8, a9, a10, a11, a12, a13, a14, a15] := h2.set 3 u3
  have h4 : Box _ n t #[u0, u1, u2, u3, u4, a5, a6, a7, a8, a9, a10, a11, a12, a13, a14, a15] := h3.set 4 u4
  have h5 : Box _ n t #[u0, u1, u2, u3, u4, u5, a6, a7, a8, a9, a10, a11, a12, a13, a14, a15] := h4.set 5 u5
  have h6 : Box _ n t #[u0, u1, u2, u3, u4, u5, u6, a7, a8, a9, a10, a11, a12, a13, a14, a15] := h5.set 6 u6
  have h7 : Box _ n t #[u0, u1, u2, u3, u4, u5, u6, u7, a8, a9, a10, a11, a12, a13, a14, a15] := h6.set 7 u7
  have h8 : Box _ n t #[u0, u1, u2, u3, u4, u5, u6, u7, u8, a9, a10, a11, a12, a13, a14, a15] := h7.set 8 u8
  have h9 : Box _ n t #[u0, u1, u2, u3, u4, u5, u6, u7, u8, u9, a10, a11, a12, a13, a14, a15] := h8.set 9 u9
  have h10 : Box _ n t #[u0, u1, u2, u3, u4, u5, u6, u7, u8, u9, u10, a11, a12, a13, a14, a15] := h9.set 10 u10
  have h11 : Box _ n t #[u0, u1, u2, u3, u4, u5, u6, u7, u8, u9, u10, u11, a12, a13, a14, a15] := h10.set 11 u11
  have h12 : Box _ n t #[u0, u1, u2, u3, u4, u5, u6, u7, u8, u9, u10, u11, u12, a13, a14, a15] := h11.set 12 u12
  have h13 : Box _ n t #[u0, u1, u2, u3, u4, u5, u6, u7, u8, u9, u10, u11, u12, u13, a14, a15] := h12.set 13 u13
  have h14 : Box _ n t #[u0, u1, u2, u3, u4, u5, u6, u7, u8, u9, u10, u11, u12, u13, u14, a15] := h13.set 14 u14
  have h15 : Box _ n t #[u0, u1, u2, u3, u4, u5, u6, u7, u8, u9, u10, u11, u12, u13, u14, u15] := h14.set 15 u15
  exact h15
theorem Box.setBrM {w : World} {n : Nat} {t : TypeId} {a0 a1 a2 a3 a4 a5 a6 a7 a8 a9 a10 a11 a12 a13 a14 a15 : Value} (h : Box w n t #[a0, a1, a2, a3, a4, a5, a6, a7, a8, a9, a10, a11, a12, a13, a14, a15]) (u4 u5 u6 u7 u8 u9 u10 u11 u12 u13 u14 u15 : Value) :
    Box ((((((((((((w.setCell ⟨n, 4, none⟩ u4).setCell ⟨n, 5, none⟩ u5).setCell ⟨n, 6, none⟩ u6).setCell ⟨n, 7, none⟩ u7).setCell ⟨n, 8, none⟩ u8).setCell ⟨n, 9, none⟩ u9).setCell ⟨n, 10, none⟩ u10).setCell ⟨n, 11, none⟩ u11).setCell ⟨n, 12, none⟩ u12).setCell ⟨n, 13, none⟩ u13).setCell ⟨n, 14, none⟩ u14).setCell ⟨n, 15, none⟩ u15) n t #[a0, a1, a2, a3, u4, u5, u6, u7, u8, u9, u10, u11, u12, u13, u14, u15] := by
  have h4 : Box _ n t #[a0, a1, a2, a3, u4, a5, a6, a7, a8, a9, a10, a11, a12, a13, a14, a15] := h.set 4 u4
  have h5 : Box _ n t #[a0, a1, a2, a3, u4, u5, a6, a7, a8, a9, a10, a11, a12, a13, a14, a15] := h4.set 5 u5
  have h6 : Box _ n t #[a0, a1, a2, a3, u4, u5, u6, a7, a8, a9, a10, a11, a12, a13, a14, a15] := h5.set 6 u6
  have h7 : Box _ n t #[a0, a1, a2, a3, u4, u5, u6, u7, a8, a9, a10, a11, a12, a13, a14, a15] := h6.set 7 u7
  have h8 : Box _ n t #[a0, a1, a2, a3, u4, u5, u6, u7, u8, a9, a10, a11, a12, a13, a14, a15] := h7.set 8 u8
  have h9 : Box _ n t #[a0, a1, a2, a3, u4, u5, u6, u7, u8, u9, a10, a11, a12, a13, a14, a15] := h8.set 9 u9
  have h10 : Box _ n t #[a0, a1, a2, a3, u4, u5, u6, u7, u8, u9, u10, a11, a12, a13, a14, a15] := h9.set 10 u10
  have h11 : Box _ n t #[a0, a1, a2, a3, u4, u5, u6, u7, u8, u9, u10, u11, a12, a13, a14, a15] := h10.set 11 u11
  have h12 : Box _ n t #[a0, a1, a2, a3, u4, u5, u6, u7, u8, u9, u10, u11, u12, a13, a14, a15] := h11.set 12 u12
  have h13 : Box _ n t #[a0, a1, a2, a3, u4, u5, u6, u7, u8, u9, u10, u11, u12, u13, a14, a15] := h12.set 13 u13
  have h14 : Box _ n t #[a0, a1, a2, a3, u4, u5, u6, u7, u8, u9, u10, u11, u12, u13, u14, a15] := h13.set 14 u14
  have h15 : Box _ n t #[a0, a1, a2, a3, u4, u5, u6, u7, u8, u9, u10, u11, u12, u13, u14, u15] := h14.set 15 u15
  exact h15
end Go.Proofs.YtlgjllmecjkbjacGreat
/-
  Package bridge: copyOf, copyOfMem: what they answer lies in memory of its own; nothing that was there turns.
-/
namespace Go.Proofs.YtlgjllmecjkbjacGreat
open Go.RowKit
theorem makeLines (w : World) (n : Nat) (hn : n ≤ 6) : ∃ cur : Array Value, (Instr.makeSlice 27 (.int .i64 n) (.int .i64 n)).run Tryz.prog w = .ok (.slice (some ⟨w.heap.size, 0, none⟩) n n) (w.alloc (.cells cur 52)) ∧ cur.size = n * 5 := by
  obtain ⟨i, hi, hz, hs, hb⟩ := infoLine
  have h := run_make (P := Tryz.prog) w 27 52 i _ Tryz.underlying27 hi hz .i64 .i64 n n (by omega) (by omega) (by rw [hb]; omega) (by omega)
  rw [hs] at h
  simp only [Int.toNat_natCast] at h
  exact ⟨_, h, size_madeCells _ _⟩
theorem copyLines (w : World) (ty : TypeId) (v : Value) (g : Nat) (l : List Ln) (cur : Array Value) (hg : w.heap[g]? = some (.cells cur 52 (0, 0))) (hcur : cur.size = l.length * 5) (hl : Ls w v l) :
    ∃ w3, (Builtin.copy_ #[27, 27] ty #[.slice (some ⟨g, 0, none⟩) l.length l.length, v]).run Tryz.prog w = .ok (.int .i64 l.length) w3 ∧ w3.heap[g]? = some (.cells (l.flatMap cellsL).toArray 52 (0, 0)) ∧
      (∀ k, k ≠ g → w3.heap[k]? = w.heap[k]?) ∧ w3.heap.size = w.heap.size ∧ Below g w w3 := by
  obtain ⟨i, hi, hz, hs, hb⟩ := infoLine
  obtain ⟨a, cap, rfl, hlc, hm, h⟩ := hl
  have hl5 := flat_len l
  have hst := run_storeCells_at Tryz.prog g 0 52 (l.flatMap cellsL) 0 cur w hg (by rw [hl5, hcur]; omega) (flat_one l)
  have hd : List.drop (0 + 0 + (l.flatMap cellsL).length) cur.toList = [] := List.drop_of_length_le (by simp only [Array.length_toList, hcur, hl5]; omega)
  rw [hd, Nat.add_zero, List.take_zero, List.nil_append, List.append_nil] at hst
  refine ⟨_, ?_, setRow_heap w g cur _ _ _ hg, fun k hk => setRow_other w g k _ hk, by simp [World.setRow], ⟨rfl, rfl, rfl, by simp [World.setRow], fun k hk => setRow_other w g k _ (by omega)⟩⟩
  rcases h with rfl | ⟨b, o, rfl, hlt, hc⟩
  · have hst' : (storeCells ⟨g, 0, none⟩ [] 0).run Tryz.prog w = .ok () (w.setRow g ([] : List Value).toArray) := hst
    cases a <;>
      simp [Builtin.copy_, run_underlying Tryz.underlying27, Builtin.lenOf, Builtin.firstCells, sizeOf, typeInfo, hi, loadCells, loadCellsFrom, hst', goInt]
  · have hld := run_loadCells_list (P := Tryz.prog) w ⟨b, o, none⟩ (l.flatMap cellsL) (fun j u hu => by
      obtain ⟨i', r, h1, h2, rfl, h4⟩ := flat_of hu
      rw [add_off, ← Nat.add_assoc]
      exact atL_cell (hc i' h1) h2 h4)
    rw [hl5] at hld
    simp [Builtin.copy_, run_underlying Tryz.underlying27, Builtin.lenOf, Builtin.firstCells, sizeOf, typeInfo, hi, hs, hld, hst, goInt]
theorem ls_block {w : World} {g : Nat} {l : List Ln} (hg : w.heap[g]? = some (.cells (l.flatMap cellsL).toArray 52 (0, 0))) (hn : l.length ≤ 6) : Ls w (.slice (some ⟨g, 0, none⟩) l.length l.length) l := by
  refine ⟨_, l.length, rfl, Nat.le_refl _, by unfold maxLen; omega, .inr ⟨g, 0, rfl, (Box.lt hg), fun i hi => ?_⟩⟩
  have hc : ∀ r, r < 5 → w.cell? ⟨g, 0 + i * 5 + r, none⟩ = (cellsL (lth l i))[r]? := fun r hr => by
    rw [Nat.zero_add, cell_of_row w g _ _ _ _ hg, List.getElem?_toArray, flat_at l i r hi hr]
  exact ⟨hc 0 (by omega), hc 1 (by omega), hc 2 (by omega), hc 3 (by omega), hc 4 (by omega)⟩
set_option maxHeartbeats 2000000 in
theorem copyOfMem_any (v : Value) (zs : List Int) (w : World) (h : Sl w v zs) (hn : zs.length = 512) :
    Calls Tryz.prog 121 #[.agg #[v]] w fun e w' => ∃ g, e = .returned (.agg #[.slice (some ⟨g, 0, none⟩) 512 512]) ∧ Sl w' (.slice (some ⟨g, 0, none⟩) 512 512) zs ∧ w.heap.size ≤ g ∧ Below w.heap.size w w' := by
  obtain ⟨b, o, cap, rfl, hb, hc⟩ := h.open512 hn
  have HC : Hid (∀ i, i < 512 → w.cell? ⟨b, o + i, none⟩ = some (.int .i64 (nth zs i))) := hc
  have HN : Hid (zs.length = 512) := hn
  clear hc hn h
  go_enter Tryz.func121, Tryz.ntmps121
  go_wp2_with fail
  refine (new_own _).mono ?_
  rintro e w2 ⟨g, rfl, hg2, hge, hb2⟩
  have X0 := ((Box.newAt (n := w.heap.size) rfl 24 #[.slice (some ⟨b, o, none⟩) 512 cap]).past _).keep hb2
  have X1 := (Box.newAt (n := w.heap.size + 1) (by simp) 24 #[.slice none 0 0]).keep hb2
  have HB2 : Hid (Below w.heap.size w w2) := bel_trans (bel_alloc (bel_alloc (Below.refl _ _) _) _) hb2
  have hgL : w.heap.size + 1 + 1 ≤ g := by simpa using hge
  have hs2 := hb2.size
  clear hb2 hge
  obtain ⟨hglt, _⟩ := Array.getElem?_eq_some_iff.1 hg2
  obtain ⟨w3, hrun, hg3, ho3, hs3, hb3⟩ := copy_full (w2.alloc (.cells #[.slice (some ⟨g, 0, none⟩) 512 512] 24)) b o cap g zs zeroCells HN.out (heap_past hglt hg2) (by simp [zeroCells, size_madeCells]) (fun i hi => by
    rw [World.cell?_alloc_past _ _ _ (by omega), HB2.out.cell (p := ⟨b, o + i, none⟩) hb]; exact HC.out i hi)
  have X2 : Box w3 w2.heap.size 24 #[.slice (some ⟨g, 0, none⟩) 512 512] := by
    unfold Box; rw [ho3 _ (by omega)]; exact Box.newAt rfl _ _
  have Y1 : Box w3 (w.heap.size + 1) 24 #[.slice none 0 0] := by
    unfold Box; rw [ho3 _ (by omega)]; exact X1.past _
  obtain ⟨q0, -, s0⟩ := X0.one
  obtain ⟨q2, -, s2⟩ := X2.one
  obtain ⟨q1, y1, s1⟩ := Y1.one
  have HG3 : Hid _ := hg3
  have HB3 : Hid (Below w.heap.size w w3) := (bel_alloc HB2.out _).trans (hb3.mono (by omega))
  clear ho3 hb3 hg3 hg2 hs2
  go_wp2_with fail
  refine bodyPost_ret (v := .agg #[.slice (some ⟨g, 0, none⟩) 512 512]) (by simp [results, Tryz.results121, go_sem, *]) rfl ⟨_, rfl, ?_, by omega, ?_⟩
  · refine sl_block (cs := intCells zs) (t := 3) (fr := (0, 0)) ?_ (intCells_list _) HN.out.symm (by rw [HN.out]; simp [maxLen])
    exact Box.other (p := ⟨w.heap.size + 1, 0, none⟩) HG3.out (by dsimp only; omega) _
  · exact bel_set1 (by omega) HB3.out _
end Go.Proofs.YtlgjllmecjkbjacGreat
