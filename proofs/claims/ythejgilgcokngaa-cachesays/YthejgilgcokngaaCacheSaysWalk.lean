/-
  drawbridgelaw.CacheSays returns true at whatever lines, line, order, device and page; nothing that was there turns.
-/
import Derived.Test.YthejgilgcokngaaKept
import Derived.Test.YthejgilgcokngaaFilledR
import Derived.Test.YthejgilgcokngaaDroppedR
import Derived.Test.YthejgilgcokngaaEqualL
namespace Go.Proofs.Ythejgilgcokngaa
open Go.RowKit

theorem filled_at {v : Value} {l : List Ln} {d p a : Int} {r x : Bool} {w : World} (h : Ls w v l) :
    Calls Try.prog 37 #[v, .agg #[.int .i64 d, .int .i64 p, .int .i64 a, .bool r, .bool x]] w fun e w' => ∃ b cap, e = .returned (.tuple #[.slice b (flC l (d, p, a, r, x)).length cap, .int .i64 (flE l (d, p, a, r, x))]) ∧ Ls w' (.slice b (flC l (d, p, a, r, x)).length cap) (flC l (d, p, a, r, x)) ∧ Below w.heap.size w w' := by
  refine (filled_any v l d p a r x w h).mono ?_
  rintro e w' ⟨⟨v', rfl, hs⟩, hb⟩
  obtain ⟨b, cap, rfl, hs'⟩ := hs.shape
  exact ⟨b, cap, rfl, hs', hb⟩
theorem dropped_at {v : Value} {l : List Ln} {k d p : Int} {w : World} (h : Ls w v l) :
    Calls Try.prog 38 #[v, .agg #[.int .i64 k, .int .i64 d, .int .i64 p]] w fun e w' => ∃ b cap, e = .returned (.tuple #[.slice b (drC l k d p).length cap, .int .i64 (drE l k)]) ∧ Ls w' (.slice b (drC l k d p).length cap) (drC l k d p) ∧ Below w.heap.size w w' := by
  refine (dropped_any v l k d p w h).mono ?_
  rintro e w' ⟨⟨v', rfl, hs⟩, hb⟩
  obtain ⟨b, cap, rfl, hs'⟩ := hs.shape
  exact ⟨b, cap, rfl, hs', hb⟩

set_option maxHeartbeats 1000000 in
theorem cacheSays_walk (v : Value) (l : List Ln) (d p a : Int) (r x : Bool) (k f g dev page : Int) (w : World) (h : Ls w v l) (hk : -9223372036854775808 ≤ k ∧ k ≤ 9223372036854775807) :
    Calls Try.prog 11 #[v, .agg #[.int .i64 d, .int .i64 p, .int .i64 a, .bool r, .bool x], .agg #[.int .i64 k, .int .i64 f, .int .i64 g], .int .i64 dev, .int .i64 page] w fun e w' => e = .returned (.bool true) ∧ Below w.heap.size w w' := by
  obtain ⟨a0, c0, rfl, hs⟩ := h.shape
  have HL : Hid (Ls w (.slice a0 l.length c0) l) := hs
  clear hs h
  go_enter Try.func11, Try.ntmps11
  go_wp2_with fail
  refine (fill_at (HL.out.keep (bel_alloc (bel_alloc (Below.refl _ _) _) _)) rfl rfl).mono ?_
  rintro e w1 ⟨b1, c1, rfl, h1, B1⟩
  have k1 := ((Blk.new w #[.int .i64 d, .int .i64 p, .int .i64 a, .bool r, .bool x] 59 (0, 0)).past (.cells #[.int .i64 k, .int .i64 f, .int .i64 g] 61)).keep B1
  have j1 := (Blk.newAt (w := w.alloc (.cells #[.int .i64 d, .int .i64 p, .int .i64 a, .bool r, .bool x] 59)) (n := w.heap.size + 1) (by simp) #[.int .i64 k, .int .i64 f, .int .i64 g] 61 (0, 0)).keep B1
  have HB1 : Hid (Below w.heap.size w w1) := bel_trans (bel_alloc (bel_alloc (Below.refl _ _) _) _) B1
  obtain ⟨A, hA⟩ : ∃ A, A = flC l (d, p, a, r, x) := ⟨_, rfl⟩
  obtain ⟨E, hE⟩ : ∃ E, E = flE l (d, p, a, r, x) := ⟨_, rfl⟩
  rw [← hA] at h1 ⊢
  rw [← hE]
  have H1 : Hid _ := h1
  have HA : Hid _ := hA
  have HE : Hid _ := hE
  clear B1 h1 hA hE
  have s1 := j1.lt
  obtain ⟨y0, y1, y2⟩ := j1.three
  go_wp2_with fail
  refine (drop_at' (HL.out.keep HB1.out) hk.1 hk.2 rfl rfl).mono ?_
  rintro e w2 ⟨b2, c2, rfl, h2, B2⟩
  have k2 := k1.keep B2
  have j2 := j1.keep B2
  have HB2 : Hid (Below w.heap.size w w2) := bel_trans HB1.out B2
  have H1' : Hid (Ls w2 (.slice b1 A.length c1) A) := Ls.keep H1.out B2
  obtain ⟨C, hC⟩ : ∃ C, C = drC l k f g := ⟨_, rfl⟩
  obtain ⟨F, hF⟩ : ∃ F, F = drE l k := ⟨_, rfl⟩
  rw [← hC] at h2 ⊢
  rw [← hF]
  have H2 : Hid _ := h2
  have HC : Hid _ := hC
  have HF : Hid _ := hF
  clear B2 h2 hC hF HB1 H1 k1 j1 s1 y0 y1 y2
  have s2 := k2.lt
  obtain ⟨x0, x1, x2, x3, x4⟩ := k2.five
  go_wp2_with fail
  refine (filled_at (HL.out.keep HB2.out)).mono ?_
  rw [← HA.out, ← HE.out]
  rintro e w3 ⟨b3, c3, rfl, h3, B3⟩
  have j3 := j2.keep B3
  have HB3 : Hid (Below w.heap.size w w3) := bel_trans HB2.out B3
  have H13 : Hid (Ls w3 (.slice b1 A.length c1) A) := H1'.out.keep B3
  have H23 : Hid (Ls w3 (.slice b2 C.length c2) C) := Ls.keep H2.out B3
  have H3 : Hid _ := h3
  clear B3 h3 HB2 H1' H2 k2 j2 s2 x0 x1 x2 x3 x4
  have s3 := j3.lt
  obtain ⟨y0, y1, y2⟩ := j3.three
  go_wp2_with fail
  refine (dropped_at (HL.out.keep HB3.out)).mono ?_
  rw [← HC.out, ← HF.out]
  rintro e w4 ⟨b4, c4, rfl, h4, B4⟩
  have HB4 : Hid (Below w.heap.size w w4) := bel_trans HB3.out B4
  have H14 : Hid (Ls w4 (.slice b1 A.length c1) A) := H13.out.keep B4
  have H24 : Hid (Ls w4 (.slice b2 C.length c2) C) := H23.out.keep B4
  have H34 : Hid (Ls w4 (.slice b3 A.length c3) A) := Ls.keep H3.out B4
  have H4 : Hid (Ls w4 (.slice b4 C.length c4) C) := h4
  clear B4 h4 HB3 H13 H23 H3 j3 s3 y0 y1 y2
  go_wp2_with fail
  refine (kept_true _).mono ?_
  rintro e w5 ⟨rfl, B5⟩
  have HB5 : Hid (Below w4.heap.size w4 w5) := B5
  clear B5
  go_wp2_with fail
  refine (cCheck_any _ l _ (HL.out.keep (bel_trans HB4.out HB5.out))).mono ?_
  rintro e w6 ⟨rfl, B6⟩
  have HB6 : Hid (Below w4.heap.size w4 w6) := bel_trans HB5.out B6
  clear B6 HB5
  go_wp2_with fail
  refine (checkCache_any _ l _ (HL.out.keep (bel_trans HB4.out HB6.out))).mono ?_
  rintro e w7 ⟨rfl, B7⟩
  have HB7 : Hid (Below w4.heap.size w4 w7) := bel_trans HB6.out B7
  clear B7 HB6
  generalize chkC l = z7 at *
  go_wp2_with fail
  refine (cFind_any _ l dev page _ (HL.out.keep (bel_trans HB4.out HB7.out))).mono ?_
  rintro e w8 ⟨rfl, B8⟩
  have HB8 : Hid (Below w4.heap.size w4 w8) := bel_trans HB7.out B8
  clear B8 HB7
  go_wp2_with fail
  refine (lineAt_any _ l dev page _ (HL.out.keep (bel_trans HB4.out HB8.out))).mono ?_
  rintro e w9 ⟨rfl, B9⟩
  have HB9 : Hid (Below w4.heap.size w4 w9) := bel_trans HB8.out B9
  clear B9 HB8
  generalize fndC l dev page = z9 at *
  go_wp2_with fail
  refine (equalL_any _ _ A A _ (H14.out.keep HB9.out) (H34.out.keep HB9.out)).mono ?_
  rw [decide_eq_true (rfl : A = A)]
  rintro e w10 ⟨rfl, n10, rfl⟩
  have HB10 : Hid (Below w4.heap.size w4 (w9.drewN n10)) := bel_drewN HB9.out n10
  clear HB9
  generalize w9.drewN n10 = w10 at *
  go_wp2_with fail
  refine (equalL_any _ _ C C _ (H24.out.keep HB10.out) (H4.out.keep HB10.out)).mono ?_
  rw [decide_eq_true (rfl : C = C)]
  rintro e w11 ⟨rfl, n11, rfl⟩
  go_wp2
  go_ret
  exact ⟨rfl, bel_drewN (bel_trans HB4.out HB10.out) n11⟩
end Go.Proofs.Ythejgilgcokngaa
