/-
  drawbridgelaw.CacheKeeps returns true at whatever lines, line and order; nothing that was there turns.
-/
import Derived.Test.YthejgilgcokngaaKeepsA
import Derived.Deep.CutRange
namespace Go.Proofs.Ythejgilgcokngaa
open Go.RowKit

theorem wraps64 (n : Int) (h0 : 0 ≤ n) (h1 : n < 2 ^ 63) : IntKind.i64.wrap n = n := by rw [IntKind.wrap_i64]; omega
theorem slice_behind {a0 : Option Addr} {c0 q : Nat} {l : List Ln} {w : World} (h : Ls w (.slice a0 l.length c0) l) (hq : q ≤ l.length) (hz : l = [] ∨ q < l.length) (hc : l = [] → ¬ c0 = 0) :
    ¬ c0 = q ∧ Ls w (.slice (Option.map (fun x => x.add (q * 5)) a0) (l.length - q) (c0 - q)) (l.drop q) := by
  have h' := h
  obtain ⟨a', cap', e, hl, hm, hcc⟩ := h
  simp only [Value.slice.injEq] at e
  obtain ⟨rfl, _, rfl⟩ := e
  by_cases hl0 : l = []
  · have h0 := hc hl0
    subst hl0
    have : q = 0 := by simpa using hq
    subst this
    exact ⟨h0, Ls.nil _ _ _ (by omega)⟩
  · have hlt : q < l.length := by
      rcases hz with hz | hz
      · exact absurd hz hl0
      · exact hz
    rcases hcc with hcc | ⟨b, o, rfl, hb, _⟩
    · exact absurd hcc hl0
    rw [Option.map_some, add_off]
    exact ⟨by omega, h'.drop hq⟩

set_option maxRecDepth 100000 in
set_option maxHeartbeats 4000000 in
theorem keeps_ok (a0 : Option Addr) (c0 : Nat) (l : List Ln) (d p a : Int) (r x : Bool) (k f g : Int) (w : World) (h : Ls w (.slice a0 l.length c0) l) (hk : -9223372036854775808 ≤ k ∧ k ≤ 9223372036854775807) (hc0 : l = [] → ¬ c0 = 0) (hE0 : flE l (d, p, a, r, x) = 0) :
    Calls Try.prog 12 #[(.slice a0 l.length c0), .agg #[.int .i64 d, .int .i64 p, .int .i64 a, .bool r, .bool x], .agg #[.int .i64 k, .int .i64 f, .int .i64 g]] w fun e w' => e = .returned (.bool true) ∧ Below w.heap.size w w' := by
  have HL : Hid (Ls w (.slice a0 l.length c0) l) := h
  have HK : Hid (-9223372036854775808 ≤ k ∧ k ≤ 9223372036854775807) := hk
  clear hk h
  go_enter Try.func12, Try.ntmps12
  go_wp2_with fail
  refine (fill_at (HL.out.keep (bel_alloc (bel_alloc (Below.refl _ _) _) _)) rfl rfl).mono ?_
  rintro e w1 ⟨b1, c1, rfl, h1, B1⟩
  have k1 := ((Blk.new w #[.int .i64 d, .int .i64 p, .int .i64 a, .bool r, .bool x] 59 (0, 0)).past (.cells #[.int .i64 k, .int .i64 f, .int .i64 g] 61)).keep B1
  have j1 := (Blk.newAt (w := w.alloc (.cells #[.int .i64 d, .int .i64 p, .int .i64 a, .bool r, .bool x] 59)) (n := w.heap.size + 1) (by simp) #[.int .i64 k, .int .i64 f, .int .i64 g] 61 (0, 0)).keep B1
  have HB1 : Hid (Below w.heap.size w w1) := bel_trans (bel_alloc (bel_alloc (Below.refl _ _) _) _) B1
  clear B1
  · have HA : Hid (flC l (d, p, a, r, x) = oldC l ++ [(d, p, a, r, x)]) := flC_ok hE0
    obtain ⟨f1, f2, f3⟩ := fill_good hE0
    have hl6 : l.length ≤ 6 := (flE_zero hE0).1.1
    have hod := oldC_drop l
    have hol := oldC_len hl6
    obtain ⟨m, hm⟩ : ∃ m, m = oldC l := ⟨_, rfl⟩
    have hA : flC l (d, p, a, r, x) = m ++ [(d, p, a, r, x)] := by rw [HA.out, hm]
    rw [← hm] at hod hol f2
    have hz : l = [] ∨ l.length - m.length < l.length := by
      by_cases hl0 : l = []
      · exact .inl hl0
      · right
        have hp0 : 0 < l.length := List.length_pos_iff.2 hl0
        have : 0 < m.length := by
          rw [hm]; unfold oldC; split
          · simp; omega
          · exact hp0
        omega
    clear HA hm
    rw [hA] at h1 f1 f2 f3 ⊢
    rw [hE0]
    clear hA hE0
    obtain ⟨N, hN⟩ : ∃ N, N = m.length := ⟨_, rfl⟩
    obtain ⟨A, hA⟩ : ∃ A, A = m ++ [(d, p, a, r, x)] := ⟨_, rfl⟩
    have hAl : A.length = N + 1 := by rw [hA, hN]; simp
    rw [← hA] at h1 f1 f2 f3 ⊢
    rw [← hN] at hod hol f2 hz
    obtain ⟨q, hq⟩ : ∃ q, q = l.length - N := ⟨_, rfl⟩
    rw [← hq] at hod hz
    obtain ⟨hcq, hLs⟩ := slice_behind (HL.out.keep HB1.out) (q := q) (by omega) hz hc0
    rw [← hod] at hLs
    have hqn : l.length - q = N := by omega
    rw [hqn] at hLs
    have HT2 : Hid (Ls w1 (.slice (Option.map (fun x => x.add (q * 5)) a0) N (c0 - q)) m) := hLs
    have HM : Hid (N = m.length) := hN
    rw [hAl] at h1 f3 ⊢
    have hT1 := (Ls.take (n := N + 1) (cap := c1) (a := b1) (l := A) h1 (k := N) (by omega))
    have htk : A.take N = m := by rw [hA, hN]; simp
    rw [htk] at hT1
    have HT1 : Hid (Ls w1 (.slice b1 N c1) m) := hT1
    have HA1 : Hid (Ls w1 (.slice b1 (N + 1) c1) A) := h1
    have hAN : lth A N = (d, p, a, r, x) := by rw [hA, hN]; simp [lth]
    obtain ⟨a', cap', e', hcl, hcm, hcells⟩ := h1
    simp only [Value.slice.injEq] at e'
    obtain ⟨rfl, e1, rfl⟩ := e'
    clear e1
    rcases hcells with hcells | ⟨b, o, rfl, hb, hcells⟩
    · rw [hcells] at hAl; simp at hAl
    obtain ⟨g0, g1, g2, g3, g4⟩ := hcells N (by omega)
    rw [hAN] at g0 g1 g2 g3 g4
    simp only at g0 g1 g2 g3 g4
    have hN5 : N ≤ 5 := hol.1
    have hNl : N ≤ l.length := hol.2
    have y0 : (N : Int) ≤ 5 := by omega
    have y1 : (l.length : Int) ≤ 6 := by omega
    have y2 : (l.length : Int) - (N : Int) = (q : Int) := by omega
    have y3 : (q : Int) ≤ 6 := by omega
    have y4 : (N : Int) ≤ c1 := by omega
    have y5 : ¬ c1 = 0 := by omega
    have y6 : N ≤ c1 := by omega
    have y7 : (c1 : Int) ≤ 9223372036854775807 := by unfold maxLen at hcm; omega
    have y9 : (N : Int) < (N : Int) + 1 := by omega
    have y10 : N < N + 1 := by omega
    have y11 : (q : Int) ≤ (l.length : Int) := by omega
    have y12 : q ≤ l.length := by omega
    have y13 : IntKind.i64.wrap (q : Int) = (q : Int) := wraps64 _ (by omega) (by omega)
    have y14 : (0 : Int) ≤ (q : Int) := by omega
    have y17 : IntKind.i64.wrap ((l.length : Int) + 1) = (l.length : Int) + 1 := wraps64 _ (by omega) (by omega)
    have y15 : ¬ ((N : Int) + 1 < if (6 : Int) < (l.length : Int) + 1 then 6 else (l.length : Int) + 1) := by split <;> omega
    have y16 : ¬ (N : Int) < 0 := by omega
    have Hmin : Hid (min (l.length + 1) 6 ≤ N + 1) := f3
    have F1 : Hid (chkC A = 0) := f1
    have F2 : Hid (fndC A d p = (N : Int)) := f2
    clear f1 f2 f3 hT1 hLs hcells hAN htk hA hN hAl hod hol hz hq HM hcl hcm
    have s1 := k1.lt
    obtain ⟨x0, x1, x2, x3, x4⟩ := k1.five
    go_wp2
    go_cut [73] from 24 to 72 (fun s wx => s = .bool false ∧ Below w1.heap.size w1 wx)
    case first =>
      go_region_held3 (fun w' => (w'.cell? ⟨w.heap.size, 0, none⟩ = some (.int .i64 d) ∧ w'.cell? ⟨w.heap.size, 1, none⟩ = some (.int .i64 p) ∧ w'.cell? ⟨w.heap.size, 2, none⟩ = some (.int .i64 a) ∧ w'.cell? ⟨w.heap.size, 3, none⟩ = some (.bool r) ∧ w'.cell? ⟨w.heap.size, 4, none⟩ = some (.bool x)) ∧ (w'.cell? ⟨b, o + N * 5, none⟩ = some (.int .i64 d) ∧ w'.cell? ⟨b, o + N * 5 + 1, none⟩ = some (.int .i64 p) ∧ w'.cell? ⟨b, o + N * 5 + 2, none⟩ = some (.int .i64 a) ∧ w'.cell? ⟨b, o + N * 5 + 3, none⟩ = some (.bool r) ∧ w'.cell? ⟨b, o + N * 5 + 4, none⟩ = some (.bool x)) ∧ Below w1.heap.size w1 w')
        (with_reducible refine keep10 (by assumption) (by assumption) (by assumption) (by assumption) (by assumption) (by assumption) (by assumption) (by assumption) (by assumption) (by assumption) (by assumption) (by assumption) ?_; (repeat (first | with_reducible assumption | (with_reducible (refine limb10 (?_ : _ ∧ _ ∧ _); assumption)) | with_reducible exact Below.refl _ _ | with_reducible refine Below.drew ?_ | with_reducible refine bel_drewN ?_ _ | with_reducible refine bel_trans ?_ (by assumption))))
        (first
          | (go_at_call 40; refine (cCheck_any _ A _ ?_).mono ?_; (focus (refine HA1.out.keep ?_; (repeat (first | with_reducible assumption | (with_reducible (refine limb10 (?_ : _ ∧ _ ∧ _); assumption)) | with_reducible exact Below.refl _ _ | with_reducible refine Below.drew ?_ | with_reducible refine bel_drewN ?_ _ | with_reducible refine bel_trans ?_ (by assumption))))); rw [F1.out]; rintro e wa ⟨rfl, ba⟩)
          | (go_at_call 42; refine (cFind_any _ A d p _ ?_).mono ?_; (focus (refine HA1.out.keep ?_; (repeat (first | with_reducible assumption | (with_reducible (refine limb10 (?_ : _ ∧ _ ∧ _); assumption)) | with_reducible exact Below.refl _ _ | with_reducible refine Below.drew ?_ | with_reducible refine bel_drewN ?_ _ | with_reducible refine bel_trans ?_ (by assumption))))); rw [F2.out]; rintro e wb ⟨rfl, bb⟩)
          | (go_at_call 44; refine (equalL_any _ _ m m _ ?_ ?_).mono ?_; (focus (refine HT1.out.keep ?_; (repeat (first | with_reducible assumption | (with_reducible (refine limb10 (?_ : _ ∧ _ ∧ _); assumption)) | with_reducible exact Below.refl _ _ | with_reducible refine Below.drew ?_ | with_reducible refine bel_drewN ?_ _ | with_reducible refine bel_trans ?_ (by assumption))))); (focus (refine HT2.out.keep ?_; (repeat (first | with_reducible assumption | (with_reducible (refine limb10 (?_ : _ ∧ _ ∧ _); assumption)) | with_reducible exact Below.refl _ _ | with_reducible refine Below.drew ?_ | with_reducible refine bel_drewN ?_ _ | with_reducible refine bel_trans ?_ (by assumption))))); rw [decide_eq_true (rfl : m = m)]; rintro e wc ⟨rfl, nc, rfl⟩))
      rename_i hH
      have HH : Hid _ := limb10 hH
      clear hH
      go_wp2_with fail
      all_goals go_meet
      all_goals refine ⟨?_, HH.out⟩
      · have e2 : ¬ (N : Int) + 1 < 6 := by have := Hmin.out; omega
        have e1 : ¬ (N : Int) < 0 := by omega
        rw [decide_eq_false e1, decide_eq_false e2]; rfl
      · have e2 : ¬ N < l.length := by have := Hmin.out; omega
        have e1 : ¬ (N : Int) < 0 := by omega
        rw [decide_eq_false e1, decide_eq_false e2]; rfl
    case rest =>
      obtain ⟨rfl, hBc⟩ := hcut
      have HBy : Hid (Below w.heap.size w wc) := bel_trans HB1.out hBc
      have jy := j1.keep hBc
      clear hBc k1 x0 x1 x2 x3 x4 s1 g0 g1 g2 g3 g4 j1 HB1 HA1 HT1 HT2 F1 F2 y0 y1 y2 y3 y4 y5 y6 y7 y9 y10 y11 y12 y13 y14 y15 y16 y17 hqn hcq hb hN5 hNl hl6
      generalize wc = wy at *
      obtain ⟨z0, z1, z2⟩ := jy.three
      have s9 := jy.lt
      go_wp2_with fail
      clear z0 z1 z2 s9
      refine (drop_at' (HL.out.keep HBy.out) HK.out.1 HK.out.2 rfl rfl).mono ?_
      rintro e w2 ⟨b2, c2, rfl, h2, B2⟩
      have j2 := jy.keep B2
      have HB2 : Hid (Below w.heap.size w w2) := bel_trans HBy.out B2
      obtain ⟨C, hC⟩ : ∃ C, C = drC l k f g := ⟨_, rfl⟩
      rw [← hC] at h2 ⊢
      have H2 : Hid (Ls w2 (.slice b2 C.length c2) C) := h2
      have HC : Hid (C = drC l k f g) := hC
      clear B2 h2 HBy jy hC
      go_wp2_with fail
      refine (kept_true _).mono ?_
      rintro e w3 ⟨rfl, B3⟩
      have HJ3 : Hid (Blk w3 (w.heap.size + 1) #[.int .i64 k, .int .i64 f, .int .i64 g]) := j2.keep B3
      have HB3 : Hid (Below w.heap.size w w3) := bel_trans HB2.out B3
      have H3 : Hid (Ls w3 (.slice b2 C.length c2) C) := H2.out.keep B3
      have s3 : w.heap.size + 1 < w3.heap.size := (j2.keep B3).lt
      clear B3 HB2 H2 j2
      by_cases hD : drE l k = 0
      rotate_left
      · have hq : (drE l k != 0) = true := by simpa using hD
        generalize drE l k = z at *
        go_wp2_with fail
        refine (kept_true _).mono ?_
        rintro e w4 ⟨rfl, B4⟩
        have HB4 : Hid (Below w.heap.size w w4) := bel_trans HB3.out B4
        clear B4
        go_wp2
        go_ret
        exact ⟨rfl, HB4.out⟩
      have hcd : chkC l = 0 ∧ (0 ≤ k ∧ k ≤ 3) := by
        unfold drE at hD
        by_cases h1 : chkC l = 0
        · rw [if_pos h1] at hD
          by_cases h2 : 0 ≤ k ∧ k ≤ 3
          · exact ⟨h1, h2⟩
          · rw [if_neg h2] at hD; exact absurd hD (by decide)
        · rw [if_neg h1] at hD; exact absurd hD h1
      have hC6 : l.length ≤ 6 := (chkC_zero.1 hcd.1).1
      have HK4 : Hid (k = 0 ∨ k = 1 ∨ k = 2 ∨ k = 3) := by have := hcd.2; show _ ∨ _; omega
      have HCf : Hid (C = l.filter (fun x => !goesB k f g x)) := by show _ = _; rw [HC.out, drC, if_pos hD]
      have HG : Hid (chkC C = 0) := by show _ = _; rw [HC.out]; exact drop_good hD
      have HFD : Hid (∀ y : Ln, y ∈ l → decide (fndC C y.1 y.2.1 < 0) = goesB k f g y) := by intro y hy; rw [HC.out]; exact drop_find hD hy
      have hC6' : C.length ≤ 6 := by rw [HCf.out]; exact Nat.le_trans (List.length_filter_le _ _) hC6
      rw [hD]
      clear hD HC hcd
      go_wp2
      go_loopw [12, 14, 15, 89] (fun kv _ _ i w' => ∃ j : Nat, j ≤ l.length ∧ i = .int .i64 j ∧ kv = .int .i64 (leftN l k f g j : Nat) ∧ Below w3.heap.size w3 w') (fun _ _ _ i _ => l.length - (intOf i).toNat)
      case atStart => exact ⟨0, Nat.zero_le _, rfl, by rw [leftN_zero]; rfl, Below.refl _ _⟩
      case round =>
        obtain ⟨j, hj, rfl, rfl, hB⟩ := hrel
        have HB : Hid (Below w3.heap.size w3 wr) := hB
        by_cases hlt : j < l.length
        · obtain ⟨a', cap', e', _, _, hx⟩ := HL.out.keep (bel_trans HB3.out hB)
          rcases hx with hx | ⟨b', o', ea, hb', hc'⟩
          · rw [hx] at hlt; exact absurd hlt (Nat.not_lt_zero _)
          simp only [Value.slice.injEq] at e'
          obtain ⟨rfl, _, rfl⟩ := e'
          subst ea
          obtain ⟨g0, g1, g2, g3, g4⟩ := hc' j hlt
          clear hc'
          obtain ⟨y, hy⟩ : ∃ y, y = lth l j := ⟨_, rfl⟩
          have HY : Hid (y = lth l j) := hy
          have HM : Hid (y ∈ l) := by show _ ∈ _; rw [hy, lth_get hlt]; exact List.getElem_mem hlt
          rw [← hy] at g0 g1 g2 g3 g4
          clear hy
          obtain ⟨d1, p1, a1, r1, x1⟩ := y
          simp only at g0 g1 g2 g3 g4
          have hlt1 : (j : Int) < l.length := by omega
          obtain ⟨z0, z1, z2⟩ := (Blk.keep HJ3.out hB).three
          have sr : w.heap.size + 1 < wr.heap.size := Nat.lt_of_lt_of_le s3 hB.size
          clear hB
          rcases HK4.out with hkk | hkk | hkk | hkk
          · have hg : Hid (goesB k f g (d1, p1, a1, r1, x1) = false) := by show _ = _; rw [hkk]; exact goes0 f g _
            have t1 : (k == 1) = false := by rw [hkk]; decide
            have t0 : (k != 0) = false := by rw [hkk]; decide
            have t2 : (k == 2) = false := by rw [hkk]; decide
            have HT : Hid (leftN l k f g (j + 1) = leftN l k f g j + 1) := leftN_kept hlt (by rw [← HY.out]; exact hg.out)
            have hf5 : ¬ fndC C d1 p1 < 0 := of_decide_eq_false ((HFD.out (d1, p1, a1, r1, x1) HM.out).trans hg.out)
            have hat := drop_at (d := f) (p := g) (k := k) hlt (by rw [← HY.out]; exact hg.out)
            rw [← HCf.out, ← HY.out] at hat
            generalize leftN l k f g j = t at *
            obtain ⟨ht1, ht2⟩ := hat
            clear hkk
            go_wp2_with fail
            refine (cFind_any _ C d1 p1 _ (H3.out.keep (bel_alloc HB.out _))).mono ?_
            rintro e w5 ⟨rfl, B5⟩
            have HB5 : Hid (Below w3.heap.size w3 w5) := bel_trans (bel_alloc HB.out _) B5
            have kx := (Blk.new wr #[.int .i64 d1, .int .i64 p1, .int .i64 a1, .bool r1, .bool x1] 59 (0, 0)).keep B5
            obtain ⟨n0, n1, n2, n3, n4⟩ := kx.five
            have nl := kx.lt
            obtain ⟨a7, cap7, e7, _, _, hx7⟩ := H3.out.keep HB5.out
            rcases hx7 with hx7 | ⟨b7, o7, ea7, hb7, hc7⟩
            · rw [hx7] at ht1; exact absurd ht1 (Nat.not_lt_zero _)
            obtain ⟨m0, m1, m2, m3, m4⟩ := hc7 t ht1
            rw [ht2] at m0 m1 m2 m3 m4
            simp only at m0 m1 m2 m3 m4
            simp only [Value.slice.injEq] at e7
            obtain ⟨rfl, _, rfl⟩ := e7
            subst ea7
            have ht3 : (t : Int) < C.length := by omega
            have ht4 : (t : Int) ≤ 6 := by have := hC6'; omega
            clear B5 hc7 ht2 kx
            go_wp2
            go_quiet (fail)
            go_wp2
            exact ⟨⟨j + 1, by omega, by go_num, by rw [HT.out]; go_num, bel_drewN HB5.out _⟩, by simp [intOf]; omega⟩
          · have hg : Hid (goesB k f g (d1, p1, a1, r1, x1) = true) := by show _ = _; rw [hkk]; exact goes1 f g _
            have t1 : (k == 1) = true := by rw [hkk]; decide
            have t0 : (k != 0) = true := by rw [hkk]; decide
            have t2 : (k == 2) = false := by rw [hkk]; decide
            have HT : Hid (leftN l k f g (j + 1) = leftN l k f g j) := leftN_gone hlt (by rw [← HY.out]; exact hg.out)
            have hf5 : fndC C d1 p1 < 0 := of_decide_eq_true ((HFD.out (d1, p1, a1, r1, x1) HM.out).trans hg.out)
            clear hkk
            go_wp2_with fail
            refine (cFind_any _ C d1 p1 _ (H3.out.keep (bel_alloc HB.out _))).mono ?_
            rintro e w5 ⟨rfl, B5⟩
            have HB5 : Hid (Below w3.heap.size w3 w5) := bel_trans (bel_alloc HB.out _) B5
            clear B5
            go_wp2
            exact ⟨⟨j + 1, by omega, by go_num, by rw [HT.out], HB5.out⟩, by simp [intOf]; omega⟩
          · by_cases e1 : d1 = f
            · have hg : Hid (goesB k f g (d1, p1, a1, r1, x1) = true) := by show _ = _; rw [hkk, goes2]; simp [e1]
              have t1 : (k == 1) = false := by rw [hkk]; decide
              have t0 : (k != 0) = true := by rw [hkk]; decide
              have t2 : (k == 2) = true := by rw [hkk]; decide
              have q1 : (d1 == f) = true := by simpa using e1
              have HT : Hid (leftN l k f g (j + 1) = leftN l k f g j) := leftN_gone hlt (by rw [← HY.out]; exact hg.out)
              have hf5 : fndC C d1 p1 < 0 := of_decide_eq_true ((HFD.out (d1, p1, a1, r1, x1) HM.out).trans hg.out)
              clear hkk e1
              go_wp2_with fail
              refine (cFind_any _ C d1 p1 _ (H3.out.keep (bel_alloc HB.out _))).mono ?_
              rintro e w5 ⟨rfl, B5⟩
              have HB5 : Hid (Below w3.heap.size w3 w5) := bel_trans (bel_alloc HB.out _) B5
              clear B5
              go_wp2
              exact ⟨⟨j + 1, by omega, by go_num, by rw [HT.out], HB5.out⟩, by simp [intOf]; omega⟩
            · have hg : Hid (goesB k f g (d1, p1, a1, r1, x1) = false) := by show _ = _; rw [hkk, goes2]; simp [e1]
              have t1 : (k == 1) = false := by rw [hkk]; decide
              have t0 : (k != 0) = true := by rw [hkk]; decide
              have t2 : (k == 2) = true := by rw [hkk]; decide
              have q1 : (d1 == f) = false := by simpa using e1
              have HT : Hid (leftN l k f g (j + 1) = leftN l k f g j + 1) := leftN_kept hlt (by rw [← HY.out]; exact hg.out)
              have hf5 : ¬ fndC C d1 p1 < 0 := of_decide_eq_false ((HFD.out (d1, p1, a1, r1, x1) HM.out).trans hg.out)
              have hat := drop_at (d := f) (p := g) (k := k) hlt (by rw [← HY.out]; exact hg.out)
              rw [← HCf.out, ← HY.out] at hat
              generalize leftN l k f g j = t at *
              obtain ⟨ht1, ht2⟩ := hat
              clear hkk e1
              go_wp2_with fail
              refine (cFind_any _ C d1 p1 _ (H3.out.keep (bel_alloc HB.out _))).mono ?_
              rintro e w5 ⟨rfl, B5⟩
              have HB5 : Hid (Below w3.heap.size w3 w5) := bel_trans (bel_alloc HB.out _) B5
              have kx := (Blk.new wr #[.int .i64 d1, .int .i64 p1, .int .i64 a1, .bool r1, .bool x1] 59 (0, 0)).keep B5
              obtain ⟨n0, n1, n2, n3, n4⟩ := kx.five
              have nl := kx.lt
              obtain ⟨a7, cap7, e7, _, _, hx7⟩ := H3.out.keep HB5.out
              rcases hx7 with hx7 | ⟨b7, o7, ea7, hb7, hc7⟩
              · rw [hx7] at ht1; exact absurd ht1 (Nat.not_lt_zero _)
              obtain ⟨m0, m1, m2, m3, m4⟩ := hc7 t ht1
              rw [ht2] at m0 m1 m2 m3 m4
              simp only at m0 m1 m2 m3 m4
              simp only [Value.slice.injEq] at e7
              obtain ⟨rfl, _, rfl⟩ := e7
              subst ea7
              have ht3 : (t : Int) < C.length := by omega
              have ht4 : (t : Int) ≤ 6 := by have := hC6'; omega
              clear B5 hc7 ht2 kx
              go_wp2
              go_quiet (fail)
              go_wp2
              exact ⟨⟨j + 1, by omega, by go_num, by rw [HT.out]; go_num, bel_drewN HB5.out _⟩, by simp [intOf]; omega⟩
          · by_cases e1 : d1 = f
            · by_cases e2 : p1 = g
              · have hg : Hid (goesB k f g (d1, p1, a1, r1, x1) = true) := by show _ = _; rw [hkk, goes3]; simp [hasB, e1, e2]
                have t1 : (k == 1) = false := by rw [hkk]; decide
                have t0 : (k != 0) = true := by rw [hkk]; decide
                have t2 : (k == 2) = false := by rw [hkk]; decide
                have q1 : (d1 == f) = true := by simpa using e1
                have q2 : (p1 == g) = true := by simpa using e2
                have HT : Hid (leftN l k f g (j + 1) = leftN l k f g j) := leftN_gone hlt (by rw [← HY.out]; exact hg.out)
                have hf5 : fndC C d1 p1 < 0 := of_decide_eq_true ((HFD.out (d1, p1, a1, r1, x1) HM.out).trans hg.out)
                clear hkk e1 e2
                go_wp2_with fail
                refine (cFind_any _ C d1 p1 _ (H3.out.keep (bel_alloc HB.out _))).mono ?_
                rintro e w5 ⟨rfl, B5⟩
                have HB5 : Hid (Below w3.heap.size w3 w5) := bel_trans (bel_alloc HB.out _) B5
                clear B5
                go_wp2
                exact ⟨⟨j + 1, by omega, by go_num, by rw [HT.out], HB5.out⟩, by simp [intOf]; omega⟩
              · have hg : Hid (goesB k f g (d1, p1, a1, r1, x1) = false) := by show _ = _; rw [hkk, goes3]; simp [hasB, e2]
                have t1 : (k == 1) = false := by rw [hkk]; decide
                have t0 : (k != 0) = true := by rw [hkk]; decide
                have t2 : (k == 2) = false := by rw [hkk]; decide
                have q1 : (d1 == f) = true := by simpa using e1
                have q2 : (p1 == g) = false := by simpa using e2
                have HT : Hid (leftN l k f g (j + 1) = leftN l k f g j + 1) := leftN_kept hlt (by rw [← HY.out]; exact hg.out)
                have hf5 : ¬ fndC C d1 p1 < 0 := of_decide_eq_false ((HFD.out (d1, p1, a1, r1, x1) HM.out).trans hg.out)
                have hat := drop_at (d := f) (p := g) (k := k) hlt (by rw [← HY.out]; exact hg.out)
                rw [← HCf.out, ← HY.out] at hat
                generalize leftN l k f g j = t at *
                obtain ⟨ht1, ht2⟩ := hat
                clear hkk e1 e2
                go_wp2_with fail
                refine (cFind_any _ C d1 p1 _ (H3.out.keep (bel_alloc HB.out _))).mono ?_
                rintro e w5 ⟨rfl, B5⟩
                have HB5 : Hid (Below w3.heap.size w3 w5) := bel_trans (bel_alloc HB.out _) B5
                have kx := (Blk.new wr #[.int .i64 d1, .int .i64 p1, .int .i64 a1, .bool r1, .bool x1] 59 (0, 0)).keep B5
                obtain ⟨n0, n1, n2, n3, n4⟩ := kx.five
                have nl := kx.lt
                obtain ⟨a7, cap7, e7, _, _, hx7⟩ := H3.out.keep HB5.out
                rcases hx7 with hx7 | ⟨b7, o7, ea7, hb7, hc7⟩
                · rw [hx7] at ht1; exact absurd ht1 (Nat.not_lt_zero _)
                obtain ⟨m0, m1, m2, m3, m4⟩ := hc7 t ht1
                rw [ht2] at m0 m1 m2 m3 m4
                simp only at m0 m1 m2 m3 m4
                simp only [Value.slice.injEq] at e7
                obtain ⟨rfl, _, rfl⟩ := e7
                subst ea7
                have ht3 : (t : Int) < C.length := by omega
                have ht4 : (t : Int) ≤ 6 := by have := hC6'; omega
                clear B5 hc7 ht2 kx
                go_wp2
                go_quiet (fail)
                go_wp2
                exact ⟨⟨j + 1, by omega, by go_num, by rw [HT.out]; go_num, bel_drewN HB5.out _⟩, by simp [intOf]; omega⟩
            · have hg : Hid (goesB k f g (d1, p1, a1, r1, x1) = false) := by show _ = _; rw [hkk, goes3]; simp [hasB, e1]
              have t1 : (k == 1) = false := by rw [hkk]; decide
              have t0 : (k != 0) = true := by rw [hkk]; decide
              have t2 : (k == 2) = false := by rw [hkk]; decide
              have q1 : (d1 == f) = false := by simpa using e1
              have HT : Hid (leftN l k f g (j + 1) = leftN l k f g j + 1) := leftN_kept hlt (by rw [← HY.out]; exact hg.out)
              have hf5 : ¬ fndC C d1 p1 < 0 := of_decide_eq_false ((HFD.out (d1, p1, a1, r1, x1) HM.out).trans hg.out)
              have hat := drop_at (d := f) (p := g) (k := k) hlt (by rw [← HY.out]; exact hg.out)
              rw [← HCf.out, ← HY.out] at hat
              generalize leftN l k f g j = t at *
              obtain ⟨ht1, ht2⟩ := hat
              clear hkk e1
              go_wp2_with fail
              refine (cFind_any _ C d1 p1 _ (H3.out.keep (bel_alloc HB.out _))).mono ?_
              rintro e w5 ⟨rfl, B5⟩
              have HB5 : Hid (Below w3.heap.size w3 w5) := bel_trans (bel_alloc HB.out _) B5
              have kx := (Blk.new wr #[.int .i64 d1, .int .i64 p1, .int .i64 a1, .bool r1, .bool x1] 59 (0, 0)).keep B5
              obtain ⟨n0, n1, n2, n3, n4⟩ := kx.five
              have nl := kx.lt
              obtain ⟨a7, cap7, e7, _, _, hx7⟩ := H3.out.keep HB5.out
              rcases hx7 with hx7 | ⟨b7, o7, ea7, hb7, hc7⟩
              · rw [hx7] at ht1; exact absurd ht1 (Nat.not_lt_zero _)
              obtain ⟨m0, m1, m2, m3, m4⟩ := hc7 t ht1
              rw [ht2] at m0 m1 m2 m3 m4
              simp only at m0 m1 m2 m3 m4
              simp only [Value.slice.injEq] at e7
              obtain ⟨rfl, _, rfl⟩ := e7
              subst ea7
              have ht3 : (t : Int) < C.length := by omega
              have ht4 : (t : Int) ≤ 6 := by have := hC6'; omega
              clear B5 hc7 ht2 kx
              go_wp2
              go_quiet (fail)
              go_wp2
              exact ⟨⟨j + 1, by omega, by go_num, by rw [HT.out]; go_num, bel_drewN HB5.out _⟩, by simp [intOf]; omega⟩
        · obtain rfl : j = l.length := by omega
          have HE9 : Hid (leftN l k f g l.length = C.length) := by show _ = _; rw [leftN_all, ← HCf.out]
          rw [HE9.out]
          clear hB
          go_wp2_with fail
          refine (cCheck_any _ C _ (H3.out.keep HB.out)).mono ?_
          rw [HG.out]
          rintro e w9 ⟨rfl, B9⟩
          have HB9 : Hid (Below w.heap.size w w9) := bel_trans HB3.out (bel_trans HB.out B9)
          clear B9
          go_wp2
          go_ret
          exact ⟨rfl, HB9.out⟩
end Go.Proofs.Ythejgilgcokngaa
