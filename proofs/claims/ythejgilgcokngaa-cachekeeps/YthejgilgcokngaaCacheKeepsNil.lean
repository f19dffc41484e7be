/-
  drawbridgelaw.CacheKeeps returns true where there are no lines, and their slice has no room; nothing that was there turns.
-/
import Derived.Test.YthejgilgcokngaaKeepsA
namespace Go.Proofs.Ythejgilgcokngaa
open Go.RowKit

theorem drC_nil (k f g : Int) : drC [] k f g = [] := by unfold drC; split <;> rfl
theorem chkC_nil : chkC [] = 0 := by decide

set_option maxRecDepth 100000 in
set_option maxHeartbeats 4000000 in
theorem keeps_nil (a0 : Option Addr) (d p a : Int) (r x : Bool) (k f g : Int) (w : World) (h : Ls w (.slice a0 0 0) []) (hk : -9223372036854775808 ≤ k ∧ k ≤ 9223372036854775807) :
    Calls Try.prog 12 #[(.slice a0 0 0), .agg #[.int .i64 d, .int .i64 p, .int .i64 a, .bool r, .bool x], .agg #[.int .i64 k, .int .i64 f, .int .i64 g]] w fun e w' => e = .returned (.bool true) ∧ Below w.heap.size w w' := by
  have HL : Hid (Ls w (.slice a0 0 0) []) := h
  have HK : Hid (-9223372036854775808 ≤ k ∧ k ≤ 9223372036854775807) := hk
  clear hk h
  go_enter Try.func12, Try.ntmps12
  go_wp2_with fail
  refine (fill_at (HL.out.keep (bel_alloc (bel_alloc (Below.refl _ _) _) _)) rfl rfl).mono ?_
  rintro e w1 ⟨b1, c1, rfl, h1, B1⟩
  have k1 := ((Blk.new w #[.int .i64 d, .int .i64 p, .int .i64 a, .bool r, .bool x] 59 (0, 0)).past (.cells #[.int .i64 k, .int .i64 f, .int .i64 g] 61)).keep B1
  have j1 := (Blk.newAt (w := w.alloc (.cells #[.int .i64 d, .int .i64 p, .int .i64 a, .bool r, .bool x] 59)) (n := w.heap.size + 1) (by simp) #[.int .i64 k, .int .i64 f, .int .i64 g] 61 (0, 0)).keep B1
  have HB1 : Hid (Below w.heap.size w w1) := bel_trans (bel_alloc (bel_alloc (Below.refl _ _) _) _) B1
  clear B1
  by_cases hE0 : flE [] (d, p, a, r, x) = 0
  rotate_left
  · have hq0 : (flE [] (d, p, a, r, x) == 0) = false := by simpa using hE0
    clear hE0 h1 k1
    generalize flC [] (d, p, a, r, x) = A at *
    generalize flE [] (d, p, a, r, x) = E at *
    obtain ⟨y0, y1, y2⟩ := j1.three
    have s1 := j1.lt
    have HBy : Hid (Below w.heap.size w w1) := HB1
    have jy := j1
    clear HB1 j1
    generalize w1 = wy at *
    go_wp2_with fail
    clear y0 y1 y2 s1 hq0
    refine (drop_at' (HL.out.keep HBy.out) HK.out.1 HK.out.2 rfl (drC_nil k f g)).mono ?_
    rintro e w2 ⟨b2, c2, rfl, h2, B2⟩
    have HB2 : Hid (Below w.heap.size w w2) := bel_trans HBy.out B2
    have H2 : Hid (Ls w2 (.slice b2 0 c2) []) := h2
    clear B2 h2 HBy jy
    go_wp2_with fail
    refine (kept_true _).mono ?_
    rintro e w3 ⟨rfl, B3⟩
    have HB3 : Hid (Below w.heap.size w w3) := bel_trans HB2.out B3
    have H3 : Hid (Ls w3 (.slice b2 0 c2) []) := H2.out.keep B3
    clear B3 HB2 H2
    by_cases hD : drE [] k = 0
    rotate_left
    · have hq : (drE [] k != 0) = true := by simpa using hD
      generalize drE [] k = z at *
      go_wp2_with fail
      refine (kept_true _).mono ?_
      rintro e w4 ⟨rfl, B4⟩
      have HB4 : Hid (Below w.heap.size w w4) := bel_trans HB3.out B4
      clear B4
      go_wp2
      go_ret
      exact ⟨rfl, HB4.out⟩
    rw [hD]
    clear hD
    go_wp2
    go_loopw [12, 14, 15, 89] (fun kv _ _ i w' => i = .int .i64 0 ∧ kv = .int .i64 0 ∧ w' = w3) (fun _ _ _ _ _ => 0)
    case atStart => exact ⟨rfl, rfl, rfl⟩
    case round =>
      obtain ⟨rfl, rfl, rfl⟩ := hrel
      go_wp2_with fail
      refine (cCheck_any _ [] _ H3.out).mono ?_
      rw [chkC_nil]
      rintro e w9 ⟨rfl, B9⟩
      have HB9 : Hid (Below w.heap.size w w9) := bel_trans HB3.out B9
      clear B9
      go_wp2
      go_ret
      exact ⟨rfl, HB9.out⟩
  · have hA : flC [] (d, p, a, r, x) = [(d, p, a, r, x)] := by rw [flC_ok hE0]; rfl
    obtain ⟨f1, f2, f3⟩ := fill_good hE0
    rw [hA] at h1 f1 f2 ⊢
    rw [hE0]
    have F1 : Hid (chkC [(d, p, a, r, x)] = 0) := f1
    have F2 : Hid (fndC [(d, p, a, r, x)] d p = 0) := f2
    clear hA hE0 f1 f2 f3
    have HA1 : Hid (Ls w1 (.slice b1 1 c1) [(d, p, a, r, x)]) := h1
    obtain ⟨a', cap', e', hcl, hcm, hcells⟩ := h1
    simp only [Value.slice.injEq] at e'
    obtain ⟨rfl, e1, rfl⟩ := e'
    clear e1
    rcases hcells with hcells | ⟨b, o, rfl, hb, hcells⟩
    · exact absurd hcells (by simp)
    obtain ⟨g0, g1, g2, g3, g4⟩ := hcells 0 (by simp)
    simp only [lth, List.getD_cons_zero, Nat.zero_mul, Nat.add_zero] at g0 g1 g2 g3 g4
    have hc1 : 1 ≤ c1 := by simpa using hcl
    have HT1 : Hid (Ls w1 (.slice (some ⟨b, o, none⟩) 0 c1) []) := Ls.nil _ _ _ hcm
    have HT2 : Hid (Ls w1 (.slice a0 0 0) []) := Ls.nil _ _ _ (Nat.zero_le _)
    have y5 : ¬ c1 = 0 := by omega
    have y6 : (0 : Int) ≤ c1 := by omega
    have y7 : IntKind.i64.wrap (0 : Int) = 0 := by decide
    clear hcells hcl hcm
    have s1 := k1.lt
    obtain ⟨x0, x1, x2, x3, x4⟩ := k1.five
    go_wp2
    go_region_held3 (fun w' => (w'.cell? ⟨w.heap.size, 0, none⟩ = some (.int .i64 d) ∧ w'.cell? ⟨w.heap.size, 1, none⟩ = some (.int .i64 p) ∧ w'.cell? ⟨w.heap.size, 2, none⟩ = some (.int .i64 a) ∧ w'.cell? ⟨w.heap.size, 3, none⟩ = some (.bool r) ∧ w'.cell? ⟨w.heap.size, 4, none⟩ = some (.bool x)) ∧ (w'.cell? ⟨b, o, none⟩ = some (.int .i64 d) ∧ w'.cell? ⟨b, o + 1, none⟩ = some (.int .i64 p) ∧ w'.cell? ⟨b, o + 2, none⟩ = some (.int .i64 a) ∧ w'.cell? ⟨b, o + 3, none⟩ = some (.bool r) ∧ w'.cell? ⟨b, o + 4, none⟩ = some (.bool x)) ∧ Below w1.heap.size w1 w')
      (with_reducible refine keep10 (by assumption) (by assumption) (by assumption) (by assumption) (by assumption) (by assumption) (by assumption) (by assumption) (by assumption) (by assumption) (by assumption) (by assumption) ?_; (repeat (first | with_reducible assumption | (with_reducible (refine limb10 (?_ : _ ∧ _ ∧ _); assumption)) | with_reducible exact Below.refl _ _ | with_reducible refine Below.drew ?_ | with_reducible refine bel_drewN ?_ _ | with_reducible refine bel_trans ?_ (by assumption))))
      (first
        | (go_at_call 40; refine (cCheck_any _ [(d, p, a, r, x)] _ ?_).mono ?_; (focus (refine HA1.out.keep ?_; (repeat (first | with_reducible assumption | (with_reducible (refine limb10 (?_ : _ ∧ _ ∧ _); assumption)) | with_reducible exact Below.refl _ _ | with_reducible refine Below.drew ?_ | with_reducible refine bel_drewN ?_ _ | with_reducible refine bel_trans ?_ (by assumption))))); rw [F1.out]; rintro e wa ⟨rfl, ba⟩)
        | (go_at_call 42; refine (cFind_any _ [(d, p, a, r, x)] d p _ ?_).mono ?_; (focus (refine HA1.out.keep ?_; (repeat (first | with_reducible assumption | (with_reducible (refine limb10 (?_ : _ ∧ _ ∧ _); assumption)) | with_reducible exact Below.refl _ _ | with_reducible refine Below.drew ?_ | with_reducible refine bel_drewN ?_ _ | with_reducible refine bel_trans ?_ (by assumption))))); rw [F2.out]; rintro e wb ⟨rfl, bb⟩)
        | (go_at_call 44; refine (equalL_any _ _ ([] : List Ln) ([] : List Ln) _ ?_ ?_).mono ?_; (focus (refine HT1.out.keep ?_; (repeat (first | with_reducible assumption | (with_reducible (refine limb10 (?_ : _ ∧ _ ∧ _); assumption)) | with_reducible exact Below.refl _ _ | with_reducible refine Below.drew ?_ | with_reducible refine bel_drewN ?_ _ | with_reducible refine bel_trans ?_ (by assumption))))); (focus (refine HT2.out.keep ?_; (repeat (first | with_reducible assumption | (with_reducible (refine limb10 (?_ : _ ∧ _ ∧ _); assumption)) | with_reducible exact Below.refl _ _ | with_reducible refine Below.drew ?_ | with_reducible refine bel_drewN ?_ _ | with_reducible refine bel_trans ?_ (by assumption))))); rw [decide_eq_true (rfl : ([] : List Ln) = ([] : List Ln))]; rintro e wc ⟨rfl, nc, rfl⟩))
    rename_i hH
    have HBy : Hid (Below w.heap.size w (wb.drewN nc)) := bel_trans HB1.out (limb10 hH)
    have jy : Blk (wb.drewN nc) (w.heap.size + 1) #[.int .i64 k, .int .i64 f, .int .i64 g] := j1.keep (limb10 hH)
    generalize wb.drewN nc = wy at *
    obtain ⟨z0, z1, z2⟩ := jy.three
    have s9 := jy.lt
    clear hH k1 x0 x1 x2 x3 x4 s1 g0 g1 g2 g3 g4 j1 HB1 HA1 HT1 HT2 F1 F2 y5 y6 y7 ba bb hb
    go_wp2_with fail
    clear z0 z1 z2 s9
    refine (drop_at' (HL.out.keep HBy.out) HK.out.1 HK.out.2 rfl (drC_nil k f g)).mono ?_
    rintro e w2 ⟨b2, c2, rfl, h2, B2⟩
    have HB2 : Hid (Below w.heap.size w w2) := bel_trans HBy.out B2
    have H2 : Hid (Ls w2 (.slice b2 0 c2) []) := h2
    clear B2 h2 HBy jy
    go_wp2_with fail
    refine (kept_true _).mono ?_
    rintro e w3 ⟨rfl, B3⟩
    have HB3 : Hid (Below w.heap.size w w3) := bel_trans HB2.out B3
    have H3 : Hid (Ls w3 (.slice b2 0 c2) []) := H2.out.keep B3
    clear B3 HB2 H2
    by_cases hD : drE [] k = 0
    rotate_left
    · have hq : (drE [] k != 0) = true := by simpa using hD
      generalize drE [] k = z at *
      go_wp2_with fail
      refine (kept_true _).mono ?_
      rintro e w4 ⟨rfl, B4⟩
      have HB4 : Hid (Below w.heap.size w w4) := bel_trans HB3.out B4
      clear B4
      go_wp2
      go_ret
      exact ⟨rfl, HB4.out⟩
    rw [hD]
    clear hD
    go_wp2
    go_loopw [12, 14, 15, 89] (fun kv _ _ i w' => i = .int .i64 0 ∧ kv = .int .i64 0 ∧ w' = w3) (fun _ _ _ _ _ => 0)
    case atStart => exact ⟨rfl, rfl, rfl⟩
    case round =>
      obtain ⟨rfl, rfl, rfl⟩ := hrel
      go_wp2_with fail
      refine (cCheck_any _ [] _ H3.out).mono ?_
      rw [chkC_nil]
      rintro e w9 ⟨rfl, B9⟩
      have HB9 : Hid (Below w.heap.size w w9) := bel_trans HB3.out B9
      clear B9
      go_wp2
      go_ret
      exact ⟨rfl, HB9.out⟩
end Go.Proofs.Ythejgilgcokngaa
