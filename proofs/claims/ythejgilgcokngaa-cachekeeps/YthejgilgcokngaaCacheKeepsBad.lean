/-
  drawbridgelaw.CacheKeeps returns true where Fill tells an error; nothing that was there turns.
-/
import Derived.Test.YthejgilgcokngaaKeepsA
import Derived.Deep.CutRange
namespace Go.Proofs.Ythejgilgcokngaa
open Go.RowKit


set_option maxRecDepth 100000 in
set_option maxHeartbeats 4000000 in
theorem keeps_bad (a0 : Option Addr) (c0 : Nat) (l : List Ln) (d p a : Int) (r x : Bool) (k f g : Int) (w : World) (h : Ls w (.slice a0 l.length c0) l) (hk : -9223372036854775808 ≤ k ∧ k ≤ 9223372036854775807) (hE0 : ¬ flE l (d, p, a, r, x) = 0) :
    Calls Try.prog 12 #[(.slice a0 l.length c0), .agg #[.int .i64 d, .int .i64 p, .int .i64 a, .bool r, .bool x], .agg #[.int .i64 k, .int .i64 f, .int .i64 g]] w fun e w' => e = .returned (.bool true) ∧ Below w.heap.size w w' := by
  have HL : Hid (Ls w (.slice a0 l.length c0) l) := h
  have HK : Hid (-9223372036854775808 ≤ k ∧ k ≤ 9223372036854775807) := hk
  clear hk h
  go_enter Try.func12, Try.ntmps12
  go_wp2_with fail
  refine (fill_at (HL.out.keep (bel_alloc (bel_alloc (Below.refl _ _) _) _)) rfl rfl).mono ?_
  rintro e w1 ⟨b1, c1, rfl, h1, B1⟩
  have k1 := ((Blk.new w #[.int .i64 d, .int .i64 p, .int .i64 a, .bool r, .bool x] 59 (0, 0)).past (.cells #[.int .i64 k, .int .i64 f, .int .i64 g] 61)).keep B1
  have j1 := (Blk.newAt (w := w.alloc (.cells #[.int .i64 d, .int .i64 p, .int .i64 a, .bool r, .bool x] 59)) (n := w.heap.size + 1) (by simp) #[.int .i64 k, .int .i64 f, .int .i64 g] 61 (0, 0)).keep B1
  have HB1 : Hid (Below w.heap.size w w1) := bel_trans (bel_alloc (bel_alloc (Below.refl _ _) _) _) B1
  clear B1
  · have hq0 : (flE l (d, p, a, r, x) == 0) = false := by simpa using hE0
    clear hE0 h1 k1
    generalize flC l (d, p, a, r, x) = A at *
    generalize flE l (d, p, a, r, x) = E at *
    obtain ⟨y0, y1, y2⟩ := j1.three
    have s1 := j1.lt
    have HBy : Hid (Below w.heap.size w w1) := HB1
    have jy := j1
    clear HB1 j1
    generalize w1 = wy at *
    go_wp2_with fail
    clear y0 y1 y2 s1 hq0
    refine (drop_at' (HL.out.keep HBy.out) HK.out.1 HK.out.2 rfl rfl).mono ?_
    rintro e w2 ⟨b2, c2, rfl, h2, B2⟩
    have j2 := jy.keep B2
    have HB2 : Hid (Below w.heap.size w w2) := bel_trans HBy.out B2
    obtain ⟨C, hC⟩ : ∃ C, C = drC l k f g := ⟨_, rfl⟩
    rw [← hC] at h2 ⊢
    have H2 : Hid (Ls w2 (.slice b2 C.length c2) C) := h2
    have HC : Hid (C = drC l k f g) := hC
    clear B2 h2 HBy jy hC
    go_wp2_with fail
    refine (kept_true _).mono ?_
    rintro e w3 ⟨rfl, B3⟩
    have HJ3 : Hid (Blk w3 (w.heap.size + 1) #[.int .i64 k, .int .i64 f, .int .i64 g]) := j2.keep B3
    have HB3 : Hid (Below w.heap.size w w3) := bel_trans HB2.out B3
    have H3 : Hid (Ls w3 (.slice b2 C.length c2) C) := H2.out.keep B3
    have s3 : w.heap.size + 1 < w3.heap.size := (j2.keep B3).lt
    clear B3 HB2 H2 j2
    by_cases hD : drE l k = 0
    rotate_left
    · have hq : (drE l k != 0) = true := by simpa using hD
      generalize drE l k = z at *
      go_wp2_with fail
      refine (kept_true _).mono ?_
      rintro e w4 ⟨rfl, B4⟩
      have HB4 : Hid (Below w.heap.size w w4) := bel_trans HB3.out B4
      clear B4
      go_wp2
      go_ret
      exact ⟨rfl, HB4.out⟩
    have hcd : chkC l = 0 ∧ (0 ≤ k ∧ k ≤ 3) := by
      unfold drE at hD
      by_cases h1 : chkC l = 0
      · rw [if_pos h1] at hD
        by_cases h2 : 0 ≤ k ∧ k ≤ 3
        · exact ⟨h1, h2⟩
        · rw [if_neg h2] at hD; exact absurd hD (by decide)
      · rw [if_neg h1] at hD; exact absurd hD h1
    have hC6 : l.length ≤ 6 := (chkC_zero.1 hcd.1).1
    have HK4 : Hid (k = 0 ∨ k = 1 ∨ k = 2 ∨ k = 3) := by have := hcd.2; show _ ∨ _; omega
    have HCf : Hid (C = l.filter (fun x => !goesB k f g x)) := by show _ = _; rw [HC.out, drC, if_pos hD]
    have HG : Hid (chkC C = 0) := by show _ = _; rw [HC.out]; exact drop_good hD
    have HFD : Hid (∀ y : Ln, y ∈ l → decide (fndC C y.1 y.2.1 < 0) = goesB k f g y) := by intro y hy; rw [HC.out]; exact drop_find hD hy
    have hC6' : C.length ≤ 6 := by rw [HCf.out]; exact Nat.le_trans (List.length_filter_le _ _) hC6
    rw [hD]
    clear hD HC hcd
    go_wp2
    go_loopw [12, 14, 15, 89] (fun kv _ _ i w' => ∃ j : Nat, j ≤ l.length ∧ i = .int .i64 j ∧ kv = .int .i64 (leftN l k f g j : Nat) ∧ Below w3.heap.size w3 w') (fun _ _ _ i _ => l.length - (intOf i).toNat)
    case atStart => exact ⟨0, Nat.zero_le _, rfl, by rw [leftN_zero]; rfl, Below.refl _ _⟩
    case round =>
      obtain ⟨j, hj, rfl, rfl, hB⟩ := hrel
      have HB : Hid (Below w3.heap.size w3 wr) := hB
      by_cases hlt : j < l.length
      · obtain ⟨a', cap', e', _, _, hx⟩ := HL.out.keep (bel_trans HB3.out hB)
        rcases hx with hx | ⟨b', o', ea, hb', hc'⟩
        · rw [hx] at hlt; exact absurd hlt (Nat.not_lt_zero _)
        simp only [Value.slice.injEq] at e'
        obtain ⟨rfl, _, rfl⟩ := e'
        subst ea
        obtain ⟨g0, g1, g2, g3, g4⟩ := hc' j hlt
        clear hc'
        obtain ⟨y, hy⟩ : ∃ y, y = lth l j := ⟨_, rfl⟩
        have HY : Hid (y = lth l j) := hy
        have HM : Hid (y ∈ l) := by show _ ∈ _; rw [hy, lth_get hlt]; exact List.getElem_mem hlt
        rw [← hy] at g0 g1 g2 g3 g4
        clear hy
        obtain ⟨d1, p1, a1, r1, x1⟩ := y
        simp only at g0 g1 g2 g3 g4
        have hlt1 : (j : Int) < l.length := by omega
        obtain ⟨z0, z1, z2⟩ := (Blk.keep HJ3.out hB).three
        have sr : w.heap.size + 1 < wr.heap.size := Nat.lt_of_lt_of_le s3 hB.size
        clear hB
        rcases HK4.out with hkk | hkk | hkk | hkk
        · have hg : Hid (goesB k f g (d1, p1, a1, r1, x1) = false) := by show _ = _; rw [hkk]; exact goes0 f g _
          have t1 : (k == 1) = false := by rw [hkk]; decide
          have t0 : (k != 0) = false := by rw [hkk]; decide
          have t2 : (k == 2) = false := by rw [hkk]; decide
          have HT : Hid (leftN l k f g (j + 1) = leftN l k f g j + 1) := leftN_kept hlt (by rw [← HY.out]; exact hg.out)
          have hf5 : ¬ fndC C d1 p1 < 0 := of_decide_eq_false ((HFD.out (d1, p1, a1, r1, x1) HM.out).trans hg.out)
          have hat := drop_at (d := f) (p := g) (k := k) hlt (by rw [← HY.out]; exact hg.out)
          rw [← HCf.out, ← HY.out] at hat
          generalize leftN l k f g j = t at *
          obtain ⟨ht1, ht2⟩ := hat
          clear hkk
          go_wp2_with fail
          refine (cFind_any _ C d1 p1 _ (H3.out.keep (bel_alloc HB.out _))).mono ?_
          rintro e w5 ⟨rfl, B5⟩
          have HB5 : Hid (Below w3.heap.size w3 w5) := bel_trans (bel_alloc HB.out _) B5
          have kx := (Blk.new wr #[.int .i64 d1, .int .i64 p1, .int .i64 a1, .bool r1, .bool x1] 59 (0, 0)).keep B5
          obtain ⟨n0, n1, n2, n3, n4⟩ := kx.five
          have nl := kx.lt
          obtain ⟨a7, cap7, e7, _, _, hx7⟩ := H3.out.keep HB5.out
          rcases hx7 with hx7 | ⟨b7, o7, ea7, hb7, hc7⟩
          · rw [hx7] at ht1; exact absurd ht1 (Nat.not_lt_zero _)
          obtain ⟨m0, m1, m2, m3, m4⟩ := hc7 t ht1
          rw [ht2] at m0 m1 m2 m3 m4
          simp only at m0 m1 m2 m3 m4
          simp only [Value.slice.injEq] at e7
          obtain ⟨rfl, _, rfl⟩ := e7
          subst ea7
          have ht3 : (t : Int) < C.length := by omega
          have ht4 : (t : Int) ≤ 6 := by have := hC6'; omega
          clear B5 hc7 ht2 kx
          go_wp2
          go_quiet (fail)
          go_wp2
          exact ⟨⟨j + 1, by omega, by go_num, by rw [HT.out]; go_num, bel_drewN HB5.out _⟩, by simp [intOf]; omega⟩
        · have hg : Hid (goesB k f g (d1, p1, a1, r1, x1) = true) := by show _ = _; rw [hkk]; exact goes1 f g _
          have t1 : (k == 1) = true := by rw [hkk]; decide
          have t0 : (k != 0) = true := by rw [hkk]; decide
          have t2 : (k == 2) = false := by rw [hkk]; decide
          have HT : Hid (leftN l k f g (j + 1) = leftN l k f g j) := leftN_gone hlt (by rw [← HY.out]; exact hg.out)
          have hf5 : fndC C d1 p1 < 0 := of_decide_eq_true ((HFD.out (d1, p1, a1, r1, x1) HM.out).trans hg.out)
          clear hkk
          go_wp2_with fail
          refine (cFind_any _ C d1 p1 _ (H3.out.keep (bel_alloc HB.out _))).mono ?_
          rintro e w5 ⟨rfl, B5⟩
          have HB5 : Hid (Below w3.heap.size w3 w5) := bel_trans (bel_alloc HB.out _) B5
          clear B5
          go_wp2
          exact ⟨⟨j + 1, by omega, by go_num, by rw [HT.out], HB5.out⟩, by simp [intOf]; omega⟩
        · by_cases e1 : d1 = f
          · have hg : Hid (goesB k f g (d1, p1, a1, r1, x1) = true) := by show _ = _; rw [hkk, goes2]; simp [e1]
            have t1 : (k == 1) = false := by rw [hkk]; decide
            have t0 : (k != 0) = true := by rw [hkk]; decide
            have t2 : (k == 2) = true := by rw [hkk]; decide
            have q1 : (d1 == f) = true := by simpa using e1
            have HT : Hid (leftN l k f g (j + 1) = leftN l k f g j) := leftN_gone hlt (by rw [← HY.out]; exact hg.out)
            have hf5 : fndC C d1 p1 < 0 := of_decide_eq_true ((HFD.out (d1, p1, a1, r1, x1) HM.out).trans hg.out)
            clear hkk e1
            go_wp2_with fail
            refine (cFind_any _ C d1 p1 _ (H3.out.keep (bel_alloc HB.out _))).mono ?_
            rintro e w5 ⟨rfl, B5⟩
            have HB5 : Hid (Below w3.heap.size w3 w5) := bel_trans (bel_alloc HB.out _) B5
            clear B5
            go_wp2
            exact ⟨⟨j + 1, by omega, by go_num, by rw [HT.out], HB5.out⟩, by simp [intOf]; omega⟩
          · have hg : Hid (goesB k f g (d1, p1, a1, r1, x1) = false) := by show _ = _; rw [hkk, goes2]; simp [e1]
            have t1 : (k == 1) = false := by rw [hkk]; decide
            have t0 : (k != 0) = true := by rw [hkk]; decide
            have t2 : (k == 2) = true := by rw [hkk]; decide
            have q1 : (d1 == f) = false := by simpa using e1
            have HT : Hid (leftN l k f g (j + 1) = leftN l k f g j + 1) := leftN_kept hlt (by rw [← HY.out]; exact hg.out)
            have hf5 : ¬ fndC C d1 p1 < 0 := of_decide_eq_false ((HFD.out (d1, p1, a1, r1, x1) HM.out).trans hg.out)
            have hat := drop_at (d := f) (p := g) (k := k) hlt (by rw [← HY.out]; exact hg.out)
            rw [← HCf.out, ← HY.out] at hat
            generalize leftN l k f g j = t at *
            obtain ⟨ht1, ht2⟩ := hat
            clear hkk e1
            go_wp2_with fail
            refine (cFind_any _ C d1 p1 _ (H3.out.keep (bel_alloc HB.out _))).mono ?_
            rintro e w5 ⟨rfl, B5⟩
            have HB5 : Hid (Below w3.heap.size w3 w5) := bel_trans (bel_alloc HB.out _) B5
            have kx := (Blk.new wr #[.int .i64 d1, .int .i64 p1, .int .i64 a1, .bool r1, .bool x1] 59 (0, 0)).keep B5
            obtain ⟨n0, n1, n2, n3, n4⟩ := kx.five
            have nl := kx.lt
            obtain ⟨a7, cap7, e7, _, _, hx7⟩ := H3.out.keep HB5.out
            rcases hx7 with hx7 | ⟨b7, o7, ea7, hb7, hc7⟩
            · rw [hx7] at ht1; exact absurd ht1 (Nat.not_lt_zero _)
            obtain ⟨m0, m1, m2, m3, m4⟩ := hc7 t ht1
            rw [ht2] at m0 m1 m2 m3 m4
            simp only at m0 m1 m2 m3 m4
            simp only [Value.slice.injEq] at e7
            obtain ⟨rfl, _, rfl⟩ := e7
            subst ea7
            have ht3 : (t : Int) < C.length := by omega
            have ht4 : (t : Int) ≤ 6 := by have := hC6'; omega
            clear B5 hc7 ht2 kx
            go_wp2
            go_quiet (fail)
            go_wp2
            exact ⟨⟨j + 1, by omega, by go_num, by rw [HT.out]; go_num, bel_drewN HB5.out _⟩, by simp [intOf]; omega⟩
        · by_cases e1 : d1 = f
          · by_cases e2 : p1 = g
            · have hg : Hid (goesB k f g (d1, p1, a1, r1, x1) = true) := by show _ = _; rw [hkk, goes3]; simp [hasB, e1, e2]
              have t1 : (k == 1) = false := by rw [hkk]; decide
              have t0 : (k != 0) = true := by rw [hkk]; decide
              have t2 : (k == 2) = false := by rw [hkk]; decide
              have q1 : (d1 == f) = true := by simpa using e1
              have q2 : (p1 == g) = true := by simpa using e2
              have HT : Hid (leftN l k f g (j + 1) = leftN l k f g j) := leftN_gone hlt (by rw [← HY.out]; exact hg.out)
              have hf5 : fndC C d1 p1 < 0 := of_decide_eq_true ((HFD.out (d1, p1, a1, r1, x1) HM.out).trans hg.out)
              clear hkk e1 e2
              go_wp2_with fail
              refine (cFind_any _ C d1 p1 _ (H3.out.keep (bel_alloc HB.out _))).mono ?_
              rintro e w5 ⟨rfl, B5⟩
              have HB5 : Hid (Below w3.heap.size w3 w5) := bel_trans (bel_alloc HB.out _) B5
              clear B5
              go_wp2
              exact ⟨⟨j + 1, by omega, by go_num, by rw [HT.out], HB5.out⟩, by simp [intOf]; omega⟩
            · have hg : Hid (goesB k f g (d1, p1, a1, r1, x1) = false) := by show _ = _; rw [hkk, goes3]; simp [hasB, e2]
              have t1 : (k == 1) = false := by rw [hkk]; decide
              have t0 : (k != 0) = true := by rw [hkk]; decide
              have t2 : (k == 2) = false := by rw [hkk]; decide
              have q1 : (d1 == f) = true := by simpa using e1
              have q2 : (p1 == g) = false := by simpa using e2
              have HT : Hid (leftN l k f g (j + 1) = leftN l k f g j + 1) := leftN_kept hlt (by rw [← HY.out]; exact hg.out)
              have hf5 : ¬ fndC C d1 p1 < 0 := of_decide_eq_false ((HFD.out (d1, p1, a1, r1, x1) HM.out).trans hg.out)
              have hat := drop_at (d := f) (p := g) (k := k) hlt (by rw [← HY.out]; exact hg.out)
              rw [← HCf.out, ← HY.out] at hat
              generalize leftN l k f g j = t at *
              obtain ⟨ht1, ht2⟩ := hat
              clear hkk e1 e2
              go_wp2_with fail
              refine (cFind_any _ C d1 p1 _ (H3.out.keep (bel_alloc HB.out _))).mono ?_
              rintro e w5 ⟨rfl, B5⟩
              have HB5 : Hid (Below w3.heap.size w3 w5) := bel_trans (bel_alloc HB.out _) B5
              have kx := (Blk.new wr #[.int .i64 d1, .int .i64 p1, .int .i64 a1, .bool r1, .bool x1] 59 (0, 0)).keep B5
              obtain ⟨n0, n1, n2, n3, n4⟩ := kx.five
              have nl := kx.lt
              obtain ⟨a7, cap7, e7, _, _, hx7⟩ := H3.out.keep HB5.out
              rcases hx7 with hx7 | ⟨b7, o7, ea7, hb7, hc7⟩
              · rw [hx7] at ht1; exact absurd ht1 (Nat.not_lt_zero _)
              obtain ⟨m0, m1, m2, m3, m4⟩ := hc7 t ht1
              rw [ht2] at m0 m1 m2 m3 m4
              simp only at m0 m1 m2 m3 m4
              simp only [Value.slice.injEq] at e7
              obtain ⟨rfl, _, rfl⟩ := e7
              subst ea7
              have ht3 : (t : Int) < C.length := by omega
              have ht4 : (t : Int) ≤ 6 := by have := hC6'; omega
              clear B5 hc7 ht2 kx
              go_wp2
              go_quiet (fail)
              go_wp2
              exact ⟨⟨j + 1, by omega, by go_num, by rw [HT.out]; go_num, bel_drewN HB5.out _⟩, by simp [intOf]; omega⟩
          · have hg : Hid (goesB k f g (d1, p1, a1, r1, x1) = false) := by show _ = _; rw [hkk, goes3]; simp [hasB, e1]
            have t1 : (k == 1) = false := by rw [hkk]; decide
            have t0 : (k != 0) = true := by rw [hkk]; decide
            have t2 : (k == 2) = false := by rw [hkk]; decide
            have q1 : (d1 == f) = false := by simpa using e1
            have HT : Hid (leftN l k f g (j + 1) = leftN l k f g j + 1) := leftN_kept hlt (by rw [← HY.out]; exact hg.out)
            have hf5 : ¬ fndC C d1 p1 < 0 := of_decide_eq_false ((HFD.out (d1, p1, a1, r1, x1) HM.out).trans hg.out)
            have hat := drop_at (d := f) (p := g) (k := k) hlt (by rw [← HY.out]; exact hg.out)
            rw [← HCf.out, ← HY.out] at hat
            generalize leftN l k f g j = t at *
            obtain ⟨ht1, ht2⟩ := hat
            clear hkk e1
            go_wp2_with fail
            refine (cFind_any _ C d1 p1 _ (H3.out.keep (bel_alloc HB.out _))).mono ?_
            rintro e w5 ⟨rfl, B5⟩
            have HB5 : Hid (Below w3.heap.size w3 w5) := bel_trans (bel_alloc HB.out _) B5
            have kx := (Blk.new wr #[.int .i64 d1, .int .i64 p1, .int .i64 a1, .bool r1, .bool x1] 59 (0, 0)).keep B5
            obtain ⟨n0, n1, n2, n3, n4⟩ := kx.five
            have nl := kx.lt
            obtain ⟨a7, cap7, e7, _, _, hx7⟩ := H3.out.keep HB5.out
            rcases hx7 with hx7 | ⟨b7, o7, ea7, hb7, hc7⟩
            · rw [hx7] at ht1; exact absurd ht1 (Nat.not_lt_zero _)
            obtain ⟨m0, m1, m2, m3, m4⟩ := hc7 t ht1
            rw [ht2] at m0 m1 m2 m3 m4
            simp only at m0 m1 m2 m3 m4
            simp only [Value.slice.injEq] at e7
            obtain ⟨rfl, _, rfl⟩ := e7
            subst ea7
            have ht3 : (t : Int) < C.length := by omega
            have ht4 : (t : Int) ≤ 6 := by have := hC6'; omega
            clear B5 hc7 ht2 kx
            go_wp2
            go_quiet (fail)
            go_wp2
            exact ⟨⟨j + 1, by omega, by go_num, by rw [HT.out]; go_num, bel_drewN HB5.out _⟩, by simp [intOf]; omega⟩
      · obtain rfl : j = l.length := by omega
        have HE9 : Hid (leftN l k f g l.length = C.length) := by show _ = _; rw [leftN_all, ← HCf.out]
        rw [HE9.out]
        clear hB
        go_wp2_with fail
        refine (cCheck_any _ C _ (H3.out.keep HB.out)).mono ?_
        rw [HG.out]
        rintro e w9 ⟨rfl, B9⟩
        have HB9 : Hid (Below w.heap.size w w9) := bel_trans HB3.out (bel_trans HB.out B9)
        clear B9
        go_wp2
        go_ret
        exact ⟨rfl, HB9.out⟩
end Go.Proofs.Ythejgilgcokngaa
