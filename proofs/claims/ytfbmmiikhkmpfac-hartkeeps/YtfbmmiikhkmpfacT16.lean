/-
  Laid together: HRan, EqualL, SameB.
-/
import Derived.Test.YtfbmmiikhkmpfacT15
/-
  Package hart: Step where its answer is known; the closed fact 'ran' of the statements answers true; nothing that was there turns.
-/
namespace Go.Proofs.Ytfbmmiikhkmpfac
open Go.RowKit

theorem step_at {v : Value} {zs : List Int} {p : Int} {u : Value} {r : List Int} {d : Bool} {mo ba op oh ot fe fp fh ft : Int} {st lo : Bool} {vc : Value} {l : List Ln} {w : World} {e1 : Int} {zs1 : List Int} {p1 : Int} {r1 : List Int} {d1 : Bool} {mo1 ba1 op1 oh1 ot1 fe1 fp1 fh1 ft1 : Int} {st1 lo1 : Bool} {l1 : List Ln}
    (hE : stE zs ⟨p, r, d⟩ ⟨mo, ba, l, op, oh, ot, st, fe, fp, fh, ft, lo⟩ = e1) (hR : stR zs ⟨p, r, d⟩ ⟨mo, ba, l, op, oh, ot, st, fe, fp, fh, ft, lo⟩ = (zs1, ⟨p1, r1, d1⟩, ⟨mo1, ba1, l1, op1, oh1, ot1, st1, fe1, fp1, fh1, ft1, lo1⟩)) (hs : Sl w v zs) (hr : Sl w u r) (h : Ls w vc l) :
    Calls Try.prog 14 #[.agg #[v], .agg #[.int .i64 p, u, .bool d], .agg #[.int .i64 mo, .int .i64 ba, vc, .int .i64 op, .int .i64 oh, .int .i64 ot, .bool st, .int .i64 fe, .int .i64 fp, .int .i64 fh, .int .i64 ft, .bool lo]] w fun e w' => ∃ a1 c1 a2 c2 a3 c3, e = .returned (.tuple #[.agg #[.slice a1 zs1.length c1], .agg #[.int .i64 p1, .slice a2 r1.length c2, .bool d1], .agg #[.int .i64 mo1, .int .i64 ba1, .slice a3 l1.length c3, .int .i64 op1, .int .i64 oh1, .int .i64 ot1, .bool st1, .int .i64 fe1, .int .i64 fp1, .int .i64 fh1, .int .i64 ft1, .bool lo1], .int .i64 e1]) ∧
      Sl w' (.slice a1 zs1.length c1) zs1 ∧ Sl w' (.slice a2 r1.length c2) r1 ∧ Ls w' (.slice a3 l1.length c3) l1 ∧ Fresh w.heap.size (.slice a1 zs1.length c1) ∧ Fresh w.heap.size (.slice a2 r1.length c2) ∧ Fresh w.heap.size (.slice a3 l1.length c3) ∧ Below w.heap.size w w' := by
  refine (step_any v zs p u r d mo ba op oh ot fe fp fh ft st lo vc l w hs hr h).mono ?_
  rintro e w' ⟨v1, zs2, p2, u1, r2, d2, mo2, ba2, op2, oh2, ot2, fe2, fp2, fh2, ft2, st2, lo2, vc1, l2, rfl, h1, h2, h3, f1, f2, f3, h4, h5⟩
  rw [hR] at h4
  simp only [Prod.mk.injEq, Ht.mk.injEq, Br.mk.injEq] at h4
  obtain ⟨rfl, ⟨rfl, rfl, rfl⟩, rfl, rfl, rfl, rfl, rfl, rfl, rfl, rfl, rfl, rfl, rfl, rfl⟩ := h4
  have g1 := h1
  have g2 := h2
  have g3 := h3
  obtain ⟨a1, c1, rfl, -⟩ := h1
  obtain ⟨a2, c2, rfl, -⟩ := h2
  obtain ⟨a3, c3, rfl, -⟩ := h3
  rw [hE]
  exact ⟨a1, c1, a2, c2, a3, c3, rfl, g1, g2, g3, f1, f2, f3, h5⟩

/-- The memory of the closed fact ran. -/
def rnm : List Int := wth [0, 4101, 1, 28673, 2, 33281, 3, 0] 4
theorem rnm_len : rnm.length = 512 := wth_len _ _
theorem ran_1 : stE rnm ⟨0, zero8, false⟩ ⟨0, 0, [], 0, 0, 0, false, 0, 0, 0, 0, false⟩ = 0 ∧ stR rnm ⟨0, zero8, false⟩ ⟨0, 0, [], 0, 0, 0, false, 0, 0, 0, 0, false⟩ = (rnm, ⟨1, [5, 0, 0, 0, 0, 0, 0, 0], false⟩, ⟨0, 0, [], 0, 0, 0, false, 0, 0, 0, 0, false⟩) := ⟨by decide +kernel, by kernel_rfl⟩
theorem ran_2 : stE rnm ⟨1, [5, 0, 0, 0, 0, 0, 0, 0], false⟩ ⟨0, 0, [], 0, 0, 0, false, 0, 0, 0, 0, false⟩ = 0 ∧ stR rnm ⟨1, [5, 0, 0, 0, 0, 0, 0, 0], false⟩ ⟨0, 0, [], 0, 0, 0, false, 0, 0, 0, 0, false⟩ = (rnm, ⟨2, [5, 0, 0, 0, 0, 0, 0, 0], false⟩, ⟨0, 5, [], 0, 0, 0, false, 0, 0, 0, 0, false⟩) := ⟨by decide +kernel, by kernel_rfl⟩
theorem ran_3 : stE rnm ⟨2, [5, 0, 0, 0, 0, 0, 0, 0], false⟩ ⟨0, 5, [], 0, 0, 0, false, 0, 0, 0, 0, false⟩ = 0 ∧ stR rnm ⟨2, [5, 0, 0, 0, 0, 0, 0, 0], false⟩ ⟨0, 5, [], 0, 0, 0, false, 0, 0, 0, 0, false⟩ = (rnm, ⟨3, [5, 5, 0, 0, 0, 0, 0, 0], false⟩, ⟨0, 5, [], 0, 0, 0, false, 0, 0, 0, 0, false⟩) := ⟨by decide +kernel, by kernel_rfl⟩
theorem ran_4 : stE rnm ⟨3, [5, 5, 0, 0, 0, 0, 0, 0], false⟩ ⟨0, 5, [], 0, 0, 0, false, 0, 0, 0, 0, false⟩ = 0 ∧ stR rnm ⟨3, [5, 5, 0, 0, 0, 0, 0, 0], false⟩ ⟨0, 5, [], 0, 0, 0, false, 0, 0, 0, 0, false⟩ = (rnm, ⟨3, [5, 5, 0, 0, 0, 0, 0, 0], true⟩, ⟨0, 5, [], 0, 0, 0, false, 0, 0, 0, 0, false⟩) := ⟨by decide +kernel, by kernel_rfl⟩
theorem ran_c : chkH ⟨3, [5, 5, 0, 0, 0, 0, 0, 0], false⟩ = 0 := by decide +kernel
theorem ran_n : newE 0 = 0 ∧ newH 0 = ⟨0, zero8, false⟩ := ⟨by decide +kernel, by kernel_rfl⟩

theorem ran_go {v u vc : Value} {w : World} {p ba p1 ba1 : Int} {r r1 : List Int} {d1 : Bool} (hE : stE rnm ⟨p, r, false⟩ ⟨0, ba, [], 0, 0, 0, false, 0, 0, 0, 0, false⟩ = 0) (hR : stR rnm ⟨p, r, false⟩ ⟨0, ba, [], 0, 0, 0, false, 0, 0, 0, 0, false⟩ = (rnm, ⟨p1, r1, d1⟩, ⟨0, ba1, [], 0, 0, 0, false, 0, 0, 0, 0, false⟩)) (h8 : r1.length = 8)
    (hs : Sl w v rnm) (hr : Sl w u r) (h : Ls w vc []) :
    Calls Try.prog 14 #[.agg #[v], .agg #[.int .i64 p, u, .bool false], .agg #[.int .i64 0, .int .i64 ba, vc, .int .i64 0, .int .i64 0, .int .i64 0, .bool false, .int .i64 0, .int .i64 0, .int .i64 0, .int .i64 0, .bool false]] w fun e w' => ∃ a1 c1 a2 c2 a3 c3, e = .returned (.tuple #[.agg #[.slice a1 512 c1], .agg #[.int .i64 p1, .slice a2 8 c2, .bool d1], .agg #[.int .i64 0, .int .i64 ba1, .slice a3 0 c3, .int .i64 0, .int .i64 0, .int .i64 0, .bool false, .int .i64 0, .int .i64 0, .int .i64 0, .int .i64 0, .bool false], .int .i64 0]) ∧
      Sl w' (.slice a1 512 c1) rnm ∧ Sl w' (.slice a2 8 c2) r1 ∧ Ls w' (.slice a3 0 c3) [] ∧ Fresh w.heap.size (.slice a1 512 c1) ∧ Fresh w.heap.size (.slice a2 8 c2) ∧ Fresh w.heap.size (.slice a3 0 c3) ∧ Below w.heap.size w w' := by
  refine (step_at hE hR hs hr h).mono ?_
  rintro e w' ⟨a1, c1, a2, c2, a3, c3, rfl, h1⟩
  rw [rnm_len, h8] at h1 ⊢
  exact ⟨a1, c1, a2, c2, a3, c3, rfl, h1⟩

/-- The three variables of ran; what they hold. -/
structure RanAt (w : World) (M H B : Nat) (p : Int) (r : List Int) (ba : Int) (w' : World) : Prop where
  all : ∃ a1 c1 a2 c2 a3 c3, Box w' M 33 #[.slice a1 512 c1] ∧ Box w' H 35 #[.int .i64 p, .slice a2 8 c2, .bool false] ∧ Box w' B 40 #[.int .i64 0, .int .i64 ba, .slice a3 0 c3, .int .i64 0, .int .i64 0, .int .i64 0, .bool false, .int .i64 0, .int .i64 0, .int .i64 0, .int .i64 0, .bool false] ∧
    Sl w' (.slice a1 512 c1) rnm ∧ Sl w' (.slice a2 8 c2) r ∧ Ls w' (.slice a3 0 c3) []
  bel : Below w.heap.size w w'
  lo : w.heap.size ≤ M ∧ M < H ∧ H < B

theorem RanAt.put {w w' w5 : World} {M H B : Nat} {p p1 : Int} {r r1 : List Int} {ba ba1 : Int} (h : RanAt w M H B p r ba w') (b5 : Below w'.heap.size w' w5) {a1 : Option Addr} {c1 : Nat} {a2 : Option Addr} {c2 : Nat} {a3 : Option Addr} {c3 : Nat}
    (s1 : Sl w5 (.slice a1 512 c1) rnm) (s2 : Sl w5 (.slice a2 8 c2) r1) (s3 : Ls w5 (.slice a3 0 c3) []) (f1 : Fresh w'.heap.size (.slice a1 512 c1)) (f2 : Fresh w'.heap.size (.slice a2 8 c2)) (f3 : Fresh w'.heap.size (.slice a3 0 c3)) :
    RanAt w M H B p1 r1 ba1 (((((((((((((((((w5.setCell ⟨M, 0, none⟩ (.slice a1 512 c1)).setCell ⟨H, 0, none⟩ (.int .i64 p1)).setCell ⟨H, 1, none⟩ (.slice a2 8 c2)).setCell ⟨H, 2, none⟩ (.bool false)).setCell ⟨B, 0, none⟩ (.int .i64 0)).setCell ⟨B, 1, none⟩ (.int .i64 ba1)).setCell ⟨B, 2, none⟩ (.slice a3 0 c3)).setCell ⟨B, 3, none⟩ (.int .i64 0)).setCell ⟨B, 4, none⟩ (.int .i64 0)).setCell ⟨B, 5, none⟩ (.int .i64 0)).setCell ⟨B, 6, none⟩ (.bool false)).setCell ⟨B, 7, none⟩ (.int .i64 0)).setCell ⟨B, 8, none⟩ (.int .i64 0)).setCell ⟨B, 9, none⟩ (.int .i64 0)).setCell ⟨B, 10, none⟩ (.int .i64 0)).setCell ⟨B, 11, none⟩ (.bool false))) := by
  obtain ⟨⟨b1, d1, b2, d2, b3, d3, X1, X2, X3, -, -, -⟩, hb, h1, h2, h3⟩ := h
  have l1 := X1.lt
  have l2 := X2.lt
  have l3 := X3.lt
  have hz : ∀ q, w'.heap.size ≤ q → (((((((((((((((((w5.setCell ⟨M, 0, none⟩ (.slice a1 512 c1)).setCell ⟨H, 0, none⟩ (.int .i64 p1)).setCell ⟨H, 1, none⟩ (.slice a2 8 c2)).setCell ⟨H, 2, none⟩ (.bool false)).setCell ⟨B, 0, none⟩ (.int .i64 0)).setCell ⟨B, 1, none⟩ (.int .i64 ba1)).setCell ⟨B, 2, none⟩ (.slice a3 0 c3)).setCell ⟨B, 3, none⟩ (.int .i64 0)).setCell ⟨B, 4, none⟩ (.int .i64 0)).setCell ⟨B, 5, none⟩ (.int .i64 0)).setCell ⟨B, 6, none⟩ (.bool false)).setCell ⟨B, 7, none⟩ (.int .i64 0)).setCell ⟨B, 8, none⟩ (.int .i64 0)).setCell ⟨B, 9, none⟩ (.int .i64 0)).setCell ⟨B, 10, none⟩ (.int .i64 0)).setCell ⟨B, 11, none⟩ (.bool false))).heap[q]? = w5.heap[q]? := fun q hq =>
    (heap_other12 (by omega) _ _ _ _ _ _ _ _ _ _ _ _).trans ((heap_other3 (by omega) _ _ _).trans (heap_other1 (by omega) _))
  have hs : w5.heap.size ≤ (((((((((((((((((w5.setCell ⟨M, 0, none⟩ (.slice a1 512 c1)).setCell ⟨H, 0, none⟩ (.int .i64 p1)).setCell ⟨H, 1, none⟩ (.slice a2 8 c2)).setCell ⟨H, 2, none⟩ (.bool false)).setCell ⟨B, 0, none⟩ (.int .i64 0)).setCell ⟨B, 1, none⟩ (.int .i64 ba1)).setCell ⟨B, 2, none⟩ (.slice a3 0 c3)).setCell ⟨B, 3, none⟩ (.int .i64 0)).setCell ⟨B, 4, none⟩ (.int .i64 0)).setCell ⟨B, 5, none⟩ (.int .i64 0)).setCell ⟨B, 6, none⟩ (.bool false)).setCell ⟨B, 7, none⟩ (.int .i64 0)).setCell ⟨B, 8, none⟩ (.int .i64 0)).setCell ⟨B, 9, none⟩ (.int .i64 0)).setCell ⟨B, 10, none⟩ (.int .i64 0)).setCell ⟨B, 11, none⟩ (.bool false))).heap.size := by simp [World.setCell]
  have Y1 := X1.keep b5
  have Y2 := X2.keep b5
  have Y3 := X3.keep b5
  refine ⟨⟨a1, c1, a2, c2, a3, c3, ?_, ?_, ?_, s1.blk hs (fun q hq => hz q (f1 q hq)), s2.blk hs (fun q hq => hz q (f2 q hq)), s3.blk hs (fun q hq => hz q (f3 q hq))⟩, ?_, h1, h2, h3⟩
  · exact ((Y1.set1 _).other3 (by omega) _ _ _).other12 (by omega) _ _ _ _ _ _ _ _ _ _ _ _
  · exact ((Y2.other (p := ⟨M, 0, none⟩) (by show H ≠ M; omega) _).set3 _ _ _).other12 (by omega) _ _ _ _ _ _ _ _ _ _ _ _
  · exact ((Y3.other (p := ⟨M, 0, none⟩) (by show B ≠ M; omega) _).other3 (by omega) _ _ _).set12 _ _ _ _ _ _ _ _ _ _ _ _
  · exact bel_set12 (by omega) (bel_set3 (by omega) (bel_set1 (by omega) (bel_trans hb b5) _) _ _ _) _ _ _ _ _ _ _ _ _ _ _ _

set_option maxRecDepth 10000 in
set_option maxHeartbeats 8000000 in
theorem ran_true (w : World) : Calls Try.prog 18 #[] w fun e w' => e = .returned (.bool true) ∧ Below w.heap.size w w' := by
  go_enter Try.func18, Try.ntmps18
  go_wp2_with fail
  refine (with_any _ 0 8 [0, 4101, 1, 28673, 2, 33281, 3, 0] 4 _ (sl_block (heap_at rfl) rfl rfl (by simp [maxLen])) rfl (by decide) (by decide)).mono ?_
  rintro e w1 ⟨g1, rfl, h1, b1⟩
  have B1 : Hid (Below w.heap.size w w1) := bel_trans (bel_alloc (Below.refl _ _) _) b1
  have z1 : w.heap.size ≤ w1.heap.size := B1.out.size
  have H1 : Hid (Sl w1 (.slice (some ⟨g1, 0, none⟩) 512 512) rnm) := h1
  clear b1 h1
  go_wp2_with fail
  refine (hNew_any 0 _).mono ?_
  rintro e w2 ⟨p, v2, r2, rfl, h2, hh, b2⟩
  rw [ran_n.1]
  rw [ran_n.2] at hh
  simp only [Ht.mk.injEq, and_true] at hh
  obtain ⟨rfl, rfl⟩ := hh
  have H2 : Hid (Sl w2 v2 zero8) := h2
  obtain ⟨a2, c2, rfl, -⟩ := h2
  rw [show zero8.length = 8 from rfl] at H2 ⊢
  have X1 := (((Box.newAt (w := w1) (n := w1.heap.size) rfl 33 #[.slice (some ⟨g1, 0, none⟩) 512 512]).keep b2).past (.cells #[.int .i64 0, .slice a2 8 c2, .bool false] 35)).past (.cells #[.int .i64 0, .int .i64 0, .slice none 0 0, .int .i64 0, .int .i64 0, .int .i64 0, .bool false, .int .i64 0, .int .i64 0, .int .i64 0, .int .i64 0, .bool false] 40)
  have X2 := (Box.newAt (w := w2) (n := w2.heap.size) rfl 35 #[.int .i64 0, .slice a2 8 c2, .bool false]).past (.cells #[.int .i64 0, .int .i64 0, .slice none 0 0, .int .i64 0, .int .i64 0, .int .i64 0, .bool false, .int .i64 0, .int .i64 0, .int .i64 0, .int .i64 0, .bool false] 40)
  have X3 := Box.newAt (w := w2.alloc (.cells #[.int .i64 0, .slice a2 8 c2, .bool false] 35)) (n := w2.heap.size + 1) (by simp) 40 #[.int .i64 0, .int .i64 0, .slice none 0 0, .int .i64 0, .int .i64 0, .int .i64 0, .bool false, .int .i64 0, .int .i64 0, .int .i64 0, .int .i64 0, .bool false]
  have C3 : Below w2.heap.size w2 ((w2.alloc (.cells #[.int .i64 0, .slice a2 8 c2, .bool false] 35)).alloc (.cells #[.int .i64 0, .int .i64 0, .slice none 0 0, .int .i64 0, .int .i64 0, .int .i64 0, .bool false, .int .i64 0, .int .i64 0, .int .i64 0, .int .i64 0, .bool false] 40)) := bel_alloc (bel_alloc (Below.refl _ _) _) _
  have hzz : w1.heap.size + 1 ≤ w2.heap.size := by have := b2.size; simpa using this
  have R0 : Hid (RanAt w w1.heap.size w2.heap.size (w2.heap.size + 1) 0 zero8 0 ((w2.alloc (.cells #[.int .i64 0, .slice a2 8 c2, .bool false] 35)).alloc (.cells #[.int .i64 0, .int .i64 0, .slice none 0 0, .int .i64 0, .int .i64 0, .int .i64 0, .bool false, .int .i64 0, .int .i64 0, .int .i64 0, .int .i64 0, .bool false] 40))) :=
    ⟨⟨_, _, _, _, _, _, X1, X2, X3, ((H1.out.keep (bel_alloc (Below.refl _ _) _)).keep b2).keep C3, H2.out.keep C3, Ls.nothing _⟩, bel_trans (bel_trans (bel_alloc B1.out _) b2) C3, z1, by omega, by omega⟩
  clear X1 X2 X3 C3 H1 H2 B1
  go_wp2_with fail
  generalize ((w2.alloc (.cells #[.int .i64 0, .slice a2 8 c2, .bool false] 35)).alloc (.cells #[.int .i64 0, .int .i64 0, .slice none 0 0, .int .i64 0, .int .i64 0, .int .i64 0, .bool false, .int .i64 0, .int .i64 0, .int .i64 0, .int .i64 0, .bool false] 40)) = W at *
  generalize w2.heap.size + 1 = B at *
  generalize w2.heap.size = H at *
  generalize w1.heap.size = M at *
  have R := R0
  clear R0 z1 hzz b2
  refine wp_loop_rounds 4 ?_
  rw [rounds_succ]
  obtain ⟨⟨a1, c1, a2, c2, a3, c3, X1, X2, X3, S1, S2, S3⟩, -, hlo, hMH, hHB⟩ := R.out
  have T1 : Hid (Sl W _ rnm) := S1
  have T2 : Hid (Sl W _ _) := S2
  have T3 : Hid (Ls W _ []) := S3
  clear S1 S2 S3
  obtain ⟨m0, -, s1⟩ := X1.one
  obtain ⟨i0, i1, i2, -, -, -, s2⟩ := X2.three
  obtain ⟨⟨d0, d1, d2, d3, d4, d5, d6, d7, d8, d9, d10, d11⟩, s3⟩ := X3.twelve
  go_wp2_with fail
  refine (ran_go ran_1.1 ran_1.2 rfl T1.out T2.out T3.out).mono ?_
  rintro e w5 ⟨b1, e1, b2, e2, b3, e3, rfl, S1, S2, S3, F1, F2, F3, b5⟩
  have R1 : Hid _ := RanAt.put (p1 := 1) (ba1 := 0) R.out b5 S1 S2 S3 F1 F2 F3
  clear S1 S2 S3 F1 F2 F3 m0 s1 i0 i1 i2 s2 d0 d1 d2 d3 d4 d5 d6 d7 d8 d9 d10 d11 s3 T1 T2 T3
  obtain ⟨m0, m1, s1⟩ := (X1.keep b5).one
  obtain ⟨i0, i1, i2, j0, j1, j2, s2⟩ := (X2.keep b5).three
  obtain ⟨⟨d0, d1, d2, d3, d4, d5, d6, d7, d8, d9, d10, d11⟩, s3⟩ := (X3.keep b5).twelve
  have f3 := (X3.keep b5).marksAll
  have n1 : ¬ M = H := by omega
  have n2 : ¬ M = B := by omega
  have n3 : ¬ H = B := by omega
  have n4 : ¬ H = M := by omega
  have n5 : ¬ B = M := by omega
  have n6 : ¬ B = H := by omega
  clear X1 X2 X3 R b5
  go_upto_region 8 with fail
  clear m0 m1 s1 i0 i1 i2 j0 j1 j2 s2 d0 d1 d2 d3 d4 d5 d6 d7 d8 d9 d10 d11 s3 f3 n1 n2 n3 n4 n5 n6 hlo hMH hHB
  generalize (((((((((((((((((w5.setCell ⟨M, 0, none⟩ (.slice b1 512 e1)).setCell ⟨H, 0, none⟩ (.int .i64 1)).setCell ⟨H, 1, none⟩ (.slice b2 8 e2)).setCell ⟨H, 2, none⟩ (.bool false)).setCell ⟨B, 0, none⟩ (.int .i64 0)).setCell ⟨B, 1, none⟩ (.int .i64 0)).setCell ⟨B, 2, none⟩ (.slice b3 0 e3)).setCell ⟨B, 3, none⟩ (.int .i64 0)).setCell ⟨B, 4, none⟩ (.int .i64 0)).setCell ⟨B, 5, none⟩ (.int .i64 0)).setCell ⟨B, 6, none⟩ (.bool false)).setCell ⟨B, 7, none⟩ (.int .i64 0)).setCell ⟨B, 8, none⟩ (.int .i64 0)).setCell ⟨B, 9, none⟩ (.int .i64 0)).setCell ⟨B, 10, none⟩ (.int .i64 0)).setCell ⟨B, 11, none⟩ (.bool false))) = W9 at *
  have R := R1
  clear R1
  obtain ⟨W, hW⟩ : ∃ W, W9 = W := ⟨_, rfl⟩
  rw [hW] at R ⊢
  clear hW
  go_wp2_with fail
  rw [rounds_succ]
  obtain ⟨⟨a1, c1, a2, c2, a3, c3, X1, X2, X3, S1, S2, S3⟩, -, hlo, hMH, hHB⟩ := R.out
  have T1 : Hid (Sl W _ rnm) := S1
  have T2 : Hid (Sl W _ _) := S2
  have T3 : Hid (Ls W _ []) := S3
  clear S1 S2 S3
  obtain ⟨m0, -, s1⟩ := X1.one
  obtain ⟨i0, i1, i2, -, -, -, s2⟩ := X2.three
  obtain ⟨⟨d0, d1, d2, d3, d4, d5, d6, d7, d8, d9, d10, d11⟩, s3⟩ := X3.twelve
  go_wp2_with fail
  refine (ran_go ran_2.1 ran_2.2 rfl T1.out T2.out T3.out).mono ?_
  rintro e w5 ⟨b1, e1, b2, e2, b3, e3, rfl, S1, S2, S3, F1, F2, F3, b5⟩
  have R1 : Hid _ := RanAt.put (p1 := 2) (ba1 := 5) R.out b5 S1 S2 S3 F1 F2 F3
  clear S1 S2 S3 F1 F2 F3 m0 s1 i0 i1 i2 s2 d0 d1 d2 d3 d4 d5 d6 d7 d8 d9 d10 d11 s3 T1 T2 T3
  obtain ⟨m0, m1, s1⟩ := (X1.keep b5).one
  obtain ⟨i0, i1, i2, j0, j1, j2, s2⟩ := (X2.keep b5).three
  obtain ⟨⟨d0, d1, d2, d3, d4, d5, d6, d7, d8, d9, d10, d11⟩, s3⟩ := (X3.keep b5).twelve
  have f3 := (X3.keep b5).marksAll
  have n1 : ¬ M = H := by omega
  have n2 : ¬ M = B := by omega
  have n3 : ¬ H = B := by omega
  have n4 : ¬ H = M := by omega
  have n5 : ¬ B = M := by omega
  have n6 : ¬ B = H := by omega
  clear X1 X2 X3 R b5
  go_upto_region 8 with fail
  clear m0 m1 s1 i0 i1 i2 j0 j1 j2 s2 d0 d1 d2 d3 d4 d5 d6 d7 d8 d9 d10 d11 s3 f3 n1 n2 n3 n4 n5 n6 hlo hMH hHB
  generalize (((((((((((((((((w5.setCell ⟨M, 0, none⟩ (.slice b1 512 e1)).setCell ⟨H, 0, none⟩ (.int .i64 2)).setCell ⟨H, 1, none⟩ (.slice b2 8 e2)).setCell ⟨H, 2, none⟩ (.bool false)).setCell ⟨B, 0, none⟩ (.int .i64 0)).setCell ⟨B, 1, none⟩ (.int .i64 5)).setCell ⟨B, 2, none⟩ (.slice b3 0 e3)).setCell ⟨B, 3, none⟩ (.int .i64 0)).setCell ⟨B, 4, none⟩ (.int .i64 0)).setCell ⟨B, 5, none⟩ (.int .i64 0)).setCell ⟨B, 6, none⟩ (.bool false)).setCell ⟨B, 7, none⟩ (.int .i64 0)).setCell ⟨B, 8, none⟩ (.int .i64 0)).setCell ⟨B, 9, none⟩ (.int .i64 0)).setCell ⟨B, 10, none⟩ (.int .i64 0)).setCell ⟨B, 11, none⟩ (.bool false))) = W9 at *
  have R := R1
  clear R1
  obtain ⟨W, hW⟩ : ∃ W, W9 = W := ⟨_, rfl⟩
  rw [hW] at R ⊢
  clear hW
  go_wp2_with fail
  rw [rounds_succ]
  obtain ⟨⟨a1, c1, a2, c2, a3, c3, X1, X2, X3, S1, S2, S3⟩, -, hlo, hMH, hHB⟩ := R.out
  have T1 : Hid (Sl W _ rnm) := S1
  have T2 : Hid (Sl W _ _) := S2
  have T3 : Hid (Ls W _ []) := S3
  clear S1 S2 S3
  obtain ⟨m0, -, s1⟩ := X1.one
  obtain ⟨i0, i1, i2, -, -, -, s2⟩ := X2.three
  obtain ⟨⟨d0, d1, d2, d3, d4, d5, d6, d7, d8, d9, d10, d11⟩, s3⟩ := X3.twelve
  go_wp2_with fail
  refine (ran_go ran_3.1 ran_3.2 rfl T1.out T2.out T3.out).mono ?_
  rintro e w5 ⟨b1, e1, b2, e2, b3, e3, rfl, S1, S2, S3, F1, F2, F3, b5⟩
  have R1 : Hid _ := RanAt.put (p1 := 3) (ba1 := 5) R.out b5 S1 S2 S3 F1 F2 F3
  clear S1 S2 S3 F1 F2 F3 m0 s1 i0 i1 i2 s2 d0 d1 d2 d3 d4 d5 d6 d7 d8 d9 d10 d11 s3 T1 T2 T3
  obtain ⟨m0, m1, s1⟩ := (X1.keep b5).one
  obtain ⟨i0, i1, i2, j0, j1, j2, s2⟩ := (X2.keep b5).three
  obtain ⟨⟨d0, d1, d2, d3, d4, d5, d6, d7, d8, d9, d10, d11⟩, s3⟩ := (X3.keep b5).twelve
  have f3 := (X3.keep b5).marksAll
  have n1 : ¬ M = H := by omega
  have n2 : ¬ M = B := by omega
  have n3 : ¬ H = B := by omega
  have n4 : ¬ H = M := by omega
  have n5 : ¬ B = M := by omega
  have n6 : ¬ B = H := by omega
  clear X1 X2 X3 R b5
  go_upto_region 8 with fail
  clear m0 m1 s1 i0 i1 i2 j0 j1 j2 s2 d0 d1 d2 d3 d4 d5 d6 d7 d8 d9 d10 d11 s3 f3 n1 n2 n3 n4 n5 n6 hlo hMH hHB
  generalize (((((((((((((((((w5.setCell ⟨M, 0, none⟩ (.slice b1 512 e1)).setCell ⟨H, 0, none⟩ (.int .i64 3)).setCell ⟨H, 1, none⟩ (.slice b2 8 e2)).setCell ⟨H, 2, none⟩ (.bool false)).setCell ⟨B, 0, none⟩ (.int .i64 0)).setCell ⟨B, 1, none⟩ (.int .i64 5)).setCell ⟨B, 2, none⟩ (.slice b3 0 e3)).setCell ⟨B, 3, none⟩ (.int .i64 0)).setCell ⟨B, 4, none⟩ (.int .i64 0)).setCell ⟨B, 5, none⟩ (.int .i64 0)).setCell ⟨B, 6, none⟩ (.bool false)).setCell ⟨B, 7, none⟩ (.int .i64 0)).setCell ⟨B, 8, none⟩ (.int .i64 0)).setCell ⟨B, 9, none⟩ (.int .i64 0)).setCell ⟨B, 10, none⟩ (.int .i64 0)).setCell ⟨B, 11, none⟩ (.bool false))) = W9 at *
  have R := R1
  clear R1
  obtain ⟨W, hW⟩ : ∃ W, W9 = W := ⟨_, rfl⟩
  rw [hW] at R ⊢
  clear hW
  go_wp2_with fail
  rw [rounds_succ]
  obtain ⟨⟨a1, c1, a2, c2, a3, c3, X1, X2, X3, S1, S2, S3⟩, BB, -, -, -⟩ := R.out
  have HB : Hid (Below w.heap.size w W) := BB
  have T1 : Hid (Sl W _ rnm) := S1
  have T2 : Hid (Sl W (.slice a2 8 c2) [5, 5, 0, 0, 0, 0, 0, 0]) := S2
  have T3 : Hid (Ls W _ []) := S3
  clear S1 S2 S3 BB R
  obtain ⟨m0, -, s1⟩ := X1.one
  obtain ⟨i0, i1, i2, -, -, -, s2⟩ := X2.three
  obtain ⟨⟨d0, d1, d2, d3, d4, d5, d6, d7, d8, d9, d10, d11⟩, s3⟩ := X3.twelve
  go_wp2_with fail
  refine (ran_go ran_4.1 ran_4.2 rfl T1.out T2.out T3.out).mono ?_
  rintro e w5 ⟨b1, e1, b2, e2, b3, e3, rfl, S1, S2, S3, F1, F2, F3, b5⟩
  have T2 := T2.out.keep b5
  have HB5 : Hid (Below w.heap.size w w5) := bel_trans HB.out b5
  clear S1 S2 S3 F1 F2 F3 m0 s1 i0 i1 i2 s2 d0 d1 d2 d3 d4 d5 d6 d7 d8 d9 d10 d11 s3 T1 T3 HB
  have X2 := X2.keep b5
  have X3 := X3.keep b5
  obtain ⟨i0, i1, i2, -, -, -, s2⟩ := X2.three
  obtain ⟨⟨d0, d1, d2, d3, d4, d5, d6, d7, d8, d9, d10, d11⟩, s3⟩ := X3.twelve
  have HT2 : Hid (Sl w5 (.slice a2 8 c2) [5, 5, 0, 0, 0, 0, 0, 0]) := T2
  obtain ⟨a, c, ha, -, hh⟩ := T2
  simp only [List.length_cons, List.length_nil, Value.slice.injEq] at ha
  obtain ⟨rfl, -, rfl⟩ := ha
  rcases hh with hh | ⟨b, o, rfl, hbl, hc⟩
  · cases hh
  have g1 : w5.cell? ⟨b, o + 1, none⟩ = some (.int .i64 5) := hc 1 (by decide)
  have hb1 : b < w5.heap.size + 1 := by omega
  have hb2 : b < w5.heap.size + 1 + 1 := by omega
  have hb3 : b < w5.heap.size + 1 + 1 + 1 := by omega
  have t2 : H < w5.heap.size + 1 := by omega
  have t3 : H < w5.heap.size + 1 + 1 := by omega
  have t4 : B < w5.heap.size + 1 := by omega
  have t5 : B < w5.heap.size + 1 + 1 := by omega
  clear X1 X2 X3 hc
  go_wp2_with fail
  refine (hCheck_any 3 _ [5, 5, 0, 0, 0, 0, 0, 0] false _ (HT2.out.keep (bel_alloc (bel_alloc (bel_alloc (Below.refl _ _) _) _) _))).mono ?_
  rintro e w6 ⟨rfl, b6⟩
  rw [ran_c]
  go_wp2
  go_ret
  exact ⟨rfl, bel_trans (bel_alloc (bel_alloc (bel_alloc HB5.out _) _) _) b6⟩
end Go.Proofs.Ytfbmmiikhkmpfac
/-
  slices.Equal on two slices of lines answers whether they read as one list, whatever they are; it only reads.
-/
namespace Go.Proofs.Ytfbmmiikhkmpfac
open Go.RowKit

theorem lines_ext {xs ys : List Ln} (hl : xs.length = ys.length) (h : ∀ i, i < xs.length → lth xs i = lth ys i) : xs = ys := by
  apply List.ext_getElem hl
  intro i h1 h2
  have := h i h1
  rwa [lth_get h1, lth_get h2] at this
theorem lines_ne {xs ys : List Ln} {i : Nat} (h : ¬ lth xs i = lth ys i) : ¬ xs = ys := fun e => h (by rw [e])
/-- Where two lines part first. -/
theorem line_diff {a b c : Int} {d e : Bool} {a' b' c' : Int} {d' e' : Bool} (h : ¬ (a, b, c, d, e) = (a', b', c', d', e')) :
    ¬ a = a' ∨ (a = a' ∧ ¬ b = b') ∨ (a = a' ∧ b = b' ∧ ¬ c = c') ∨ (a = a' ∧ b = b' ∧ c = c' ∧ ¬ d = d') ∨ (a = a' ∧ b = b' ∧ c = c' ∧ d = d' ∧ ¬ e = e') := by
  simp only [Prod.mk.injEq] at h
  by_cases h1 : a = a'
  · by_cases h2 : b = b'
    · by_cases h3 : c = c'
      · by_cases h4 : d = d'
        · by_cases h5 : e = e'
          · exact absurd ⟨h1, h2, h3, h4, h5⟩ h
          · exact .inr (.inr (.inr (.inr ⟨h1, h2, h3, h4, h5⟩)))
        · exact .inr (.inr (.inr (.inl ⟨h1, h2, h3, h4⟩)))
      · exact .inr (.inr (.inl ⟨h1, h2, h3⟩))
    · exact .inr (.inl ⟨h1, h2⟩)
  · exact .inl h1

set_option maxHeartbeats 1000000 in
theorem equalL_any (v1 v2 : Value) (xs ys : List Ln) (w : World) (h1 : Ls w v1 xs) (h2 : Ls w v2 ys) :
    Calls Try.prog 27 #[v1, v2] w fun e w' => e = .returned (.bool (decide (xs = ys))) ∧ ∃ n, w' = w.drewN n := by
  obtain ⟨a1, c1, rfl, n1, l1, h1⟩ := h1
  obtain ⟨a2, c2, rfl, n2, l2, h2⟩ := h2
  unfold maxLen at l1 l2
  by_cases hl : xs.length = ys.length
  · have hne : ((xs.length : Int) != (ys.length : Int)) = false := by simp [hl]
    rcases h1 with rfl | ⟨b1, o1, rfl, hb1, hc1⟩
    · obtain rfl : ys = [] := List.eq_nil_of_length_eq_zero hl.symm
      go_enter Try.func27, Try.ntmps27
      go_wp2
      go_loopw [5, 13] (fun _ i w' => i = .int .i64 0 ∧ w' = w) (fun _ i _ => 0)
      case atStart => exact ⟨rfl, rfl⟩
      case round =>
        obtain ⟨rfl, rfl⟩ := hrel
        go_wp2
        go_ret
        exact ⟨rfl, 0, rfl⟩
    · rcases h2 with rfl | ⟨b2, o2, rfl, hb2, hc2⟩
      · obtain rfl : xs = [] := List.eq_nil_of_length_eq_zero hl
        go_enter Try.func27, Try.ntmps27
        go_wp2
        go_loopw [5, 13] (fun _ i w' => i = .int .i64 0 ∧ w' = w) (fun _ i _ => 0)
        case atStart => exact ⟨rfl, rfl⟩
        case round =>
          obtain ⟨rfl, rfl⟩ := hrel
          go_wp2
          go_ret
          exact ⟨rfl, 0, rfl⟩
      have Hl : Hid (xs.length = ys.length) := hl
      have hle : (xs.length : Int) ≤ ys.length := by omega
      have H1 := hc1
      have H2 := hc2
      clear hl hc1 hc2
      have HC1 : Hid _ := H1
      have HC2 : Hid _ := H2
      clear H1 H2
      go_enter Try.func27, Try.ntmps27
      go_wp2
      go_loopw [5, 13] (fun _ i w' => ∃ k : Nat, k ≤ xs.length ∧ i = .int .i64 k ∧ (∀ j, j < k → lth xs j = lth ys j) ∧ ∃ n, w' = w.drewN n) (fun _ i _ => xs.length - (intOf i).toNat)
      case atStart => exact ⟨0, Nat.zero_le _, rfl, fun j hj => absurd hj (Nat.not_lt_zero _), 0, rfl⟩
      case round =>
        obtain ⟨k, hk, rfl, hpre, n, rfl⟩ := hrel
        have HP : Hid (∀ j, j < k → lth xs j = lth ys j) := hpre
        clear hpre
        by_cases hlt : k < xs.length
        · obtain ⟨g0, g1, g2, g3, g4⟩ := HC1.out k hlt
          obtain ⟨f0, f1, f2, f3, f4⟩ := HC2.out k (by have := Hl.out; omega)
          have hlt1 : (k : Int) < xs.length := by omega
          have hlt2 : (k : Int) < ys.length := by omega
          obtain ⟨y, hy⟩ : ∃ y, y = lth xs k := ⟨_, rfl⟩
          obtain ⟨z, hz⟩ : ∃ z, z = lth ys k := ⟨_, rfl⟩
          have HY : Hid (y = lth xs k) := hy
          have HZ : Hid (z = lth ys k) := hz
          rw [← hy] at g0 g1 g2 g3 g4
          rw [← hz] at f0 f1 f2 f3 f4
          clear hy hz
          obtain ⟨d1, p1, a1, r1, x1⟩ := y
          obtain ⟨d2, p2, a2, r2, x2⟩ := z
          simp only at g0 g1 g2 g3 g4 f0 f1 f2 f3 f4
          by_cases hq : (d1, p1, a1, r1, x1) = ((d2, p2, a2, r2, x2) : Ln)
          · have HQ : Hid (lth xs k = lth ys k) := by show _ = _; rw [← HY.out, ← HZ.out]; exact hq
            simp only [Prod.mk.injEq] at hq
            obtain ⟨rfl, rfl, rfl, rfl, rfl⟩ := hq
            go_wp2
            go_quiet (fail)
            go_wp2
            exact ⟨⟨k + 1, by omega, by go_num, upto_next HP.out HQ.out, _, rfl⟩, by simp [intOf]; omega⟩
          · have HN : Hid (decide (xs = ys) = false) := decide_eq_false (lines_ne (i := k) (by rw [← HY.out, ← HZ.out]; exact hq))
            rcases line_diff hq with e1 | ⟨rfl, e1⟩ | ⟨rfl, rfl, e1⟩ | ⟨rfl, rfl, rfl, e1⟩ | ⟨rfl, rfl, rfl, rfl, e1⟩
            all_goals
              clear hq
              go_wp2
              go_quiet (fail)
              go_wp2
              go_ret
              exact ⟨ret_bool HN.out.symm, n + nq, World.drewN_drewN _ _ _⟩
        · have HD : Hid (decide (xs = ys) = true) := decide_eq_true (lines_ext Hl.out fun i hi => HP.out i (by omega))
          go_wp2
          go_ret
          exact ⟨ret_bool HD.out.symm, _, rfl⟩
  · have hne : ((xs.length : Int) != (ys.length : Int)) = true := by simp; omega
    have hd : decide (xs = ys) = false := by simp; intro e; exact hl (by rw [e])
    rw [hd]
    go_enter Try.func27, Try.ntmps27
    go_wp2
    go_ret
    exact ⟨rfl, 0, rfl⟩
end Go.Proofs.Ytfbmmiikhkmpfac
/-
  bridge.Same and drawbridgeref.SameBridge: are two bridges alike? Nothing that was there turns.
-/
namespace Go.Proofs.Ytfbmmiikhkmpfac
open Go.RowKit

/-- Are they alike? -/
def sameBr (a b : Br) : Bool :=
  decide (a.mode = b.mode) && (decide (a.base = b.base) && (decide (a.cache = b.cache) && (decide (a.op = b.op) && (decide (a.oh = b.oh) && (decide (a.ot = b.ot) && (decide (a.stop = b.stop) && (decide (a.fen = b.fen) && (decide (a.fp = b.fp) && (decide (a.fh = b.fh) && (decide (a.ft = b.ft) && decide (a.lost = b.lost)))))))))))
theorem sameBr_self (b : Br) : sameBr b b = true := by simp [sameBr]
theorem sameBr_eq {a b : Br} (h : sameBr a b = true) : a = b := by
  simp only [sameBr, Bool.and_eq_true, decide_eq_true_eq] at h
  obtain ⟨h0, h1, h2, h3, h4, h5, h6, h7, h8, h9, h10, h11⟩ := h
  cases a; cases b
  simp_all
theorem sameBr_ne {a b : Br} (h : ¬ a = b) : sameBr a b = false := by
  cases hs : sameBr a b
  · rfl
  · exact absurd (sameBr_eq hs) h

set_option maxHeartbeats 4000000 in
theorem bSame_any (mo ba op oh ot fe fp fh ft : Int) (st lo : Bool) (vc : Value) (l : List Ln) (mo1 ba1 op1 oh1 ot1 fe1 fp1 fh1 ft1 : Int) (st1 lo1 : Bool) (vc1 : Value) (l1 : List Ln) (w : World) (h : Ls w vc l) (h1 : Ls w vc1 l1) :
    Calls Try.prog 28 #[.agg #[.int .i64 mo, .int .i64 ba, vc, .int .i64 op, .int .i64 oh, .int .i64 ot, .bool st, .int .i64 fe, .int .i64 fp, .int .i64 fh, .int .i64 ft, .bool lo], .agg #[.int .i64 mo1, .int .i64 ba1, vc1, .int .i64 op1, .int .i64 oh1, .int .i64 ot1, .bool st1, .int .i64 fe1, .int .i64 fp1, .int .i64 fh1, .int .i64 ft1, .bool lo1]] w fun e w' => e = .returned (.bool (sameBr ⟨mo, ba, l, op, oh, ot, st, fe, fp, fh, ft, lo⟩ ⟨mo1, ba1, l1, op1, oh1, ot1, st1, fe1, fp1, fh1, ft1, lo1⟩)) ∧ Below w.heap.size w w' := by
  have HS : Hid (Ls w vc l) := h
  have HS1 : Hid (Ls w vc1 l1) := h1
  obtain ⟨va, vk, rfl, -⟩ := h.shape
  obtain ⟨va1, vk1, rfl, -⟩ := h1.shape
  clear h h1
  by_cases hd : mo = mo1
  rotate_left
  · have HE : Hid (sameBr ⟨mo, ba, l, op, oh, ot, st, fe, fp, fh, ft, lo⟩ ⟨mo1, ba1, l1, op1, oh1, ot1, st1, fe1, fp1, fh1, ft1, lo1⟩ = false) := by show _ = _; simp [sameBr, hd]
    have hq : (mo == mo1) = false := by simpa using hd
    go_enter Try.func28, Try.ntmps28
    go_wp2_with fail
    go_ret
    exact ⟨ret_bool HE.out.symm, by first | exact bel_alloc (bel_alloc (Below.refl _ _) _) _ | exact bel_drewN (bel_alloc (bel_alloc (Below.refl _ _) _) _) _⟩
  subst hd
  by_cases hd : ba = ba1
  rotate_left
  · have HE : Hid (sameBr ⟨mo, ba, l, op, oh, ot, st, fe, fp, fh, ft, lo⟩ ⟨mo, ba1, l1, op1, oh1, ot1, st1, fe1, fp1, fh1, ft1, lo1⟩ = false) := by show _ = _; simp [sameBr, hd]
    have hq : (ba == ba1) = false := by simpa using hd
    go_enter Try.func28, Try.ntmps28
    go_wp2_with fail
    go_ret
    exact ⟨ret_bool HE.out.symm, by first | exact bel_alloc (bel_alloc (Below.refl _ _) _) _ | exact bel_drewN (bel_alloc (bel_alloc (Below.refl _ _) _) _) _⟩
  subst hd
  by_cases hd : l = l1
  rotate_left
  · have HE : Hid (sameBr ⟨mo, ba, l, op, oh, ot, st, fe, fp, fh, ft, lo⟩ ⟨mo, ba, l1, op1, oh1, ot1, st1, fe1, fp1, fh1, ft1, lo1⟩ = false) := by show _ = _; simp [sameBr, hd]
    have hq : decide (l = l1) = false := by simpa using hd
    go_enter Try.func28, Try.ntmps28
    go_wp2_with (go_at_call 27; refine (equalL_any _ _ l l1 _ (HS.out.keep (bel_alloc (bel_alloc (Below.refl _ _) _) _)) (HS1.out.keep (bel_alloc (bel_alloc (Below.refl _ _) _) _))).mono ?_; rintro e w' ⟨rfl, n, rfl⟩)
    go_ret
    exact ⟨ret_bool HE.out.symm, by first | exact bel_alloc (bel_alloc (Below.refl _ _) _) _ | exact bel_drewN (bel_alloc (bel_alloc (Below.refl _ _) _) _) _⟩
  subst hd
  by_cases hd : op = op1
  rotate_left
  · have HE : Hid (sameBr ⟨mo, ba, l, op, oh, ot, st, fe, fp, fh, ft, lo⟩ ⟨mo, ba, l, op1, oh1, ot1, st1, fe1, fp1, fh1, ft1, lo1⟩ = false) := by show _ = _; simp [sameBr, hd]
    have hq : (op == op1) = false := by simpa using hd
    go_enter Try.func28, Try.ntmps28
    go_wp2_with (go_at_call 27; refine (equalL_any _ _ l l _ (HS.out.keep (bel_alloc (bel_alloc (Below.refl _ _) _) _)) (HS1.out.keep (bel_alloc (bel_alloc (Below.refl _ _) _) _))).mono ?_; rintro e w' ⟨rfl, n, rfl⟩)
    go_ret
    exact ⟨ret_bool HE.out.symm, by first | exact bel_alloc (bel_alloc (Below.refl _ _) _) _ | exact bel_drewN (bel_alloc (bel_alloc (Below.refl _ _) _) _) _⟩
  subst hd
  by_cases hd : oh = oh1
  rotate_left
  · have HE : Hid (sameBr ⟨mo, ba, l, op, oh, ot, st, fe, fp, fh, ft, lo⟩ ⟨mo, ba, l, op, oh1, ot1, st1, fe1, fp1, fh1, ft1, lo1⟩ = false) := by show _ = _; simp [sameBr, hd]
    have hq : (oh == oh1) = false := by simpa using hd
    go_enter Try.func28, Try.ntmps28
    go_wp2_with (go_at_call 27; refine (equalL_any _ _ l l _ (HS.out.keep (bel_alloc (bel_alloc (Below.refl _ _) _) _)) (HS1.out.keep (bel_alloc (bel_alloc (Below.refl _ _) _) _))).mono ?_; rintro e w' ⟨rfl, n, rfl⟩)
    go_ret
    exact ⟨ret_bool HE.out.symm, by first | exact bel_alloc (bel_alloc (Below.refl _ _) _) _ | exact bel_drewN (bel_alloc (bel_alloc (Below.refl _ _) _) _) _⟩
  subst hd
  by_cases hd : ot = ot1
  rotate_left
  · have HE : Hid (sameBr ⟨mo, ba, l, op, oh, ot, st, fe, fp, fh, ft, lo⟩ ⟨mo, ba, l, op, oh, ot1, st1, fe1, fp1, fh1, ft1, lo1⟩ = false) := by show _ = _; simp [sameBr, hd]
    have hq : (ot == ot1) = false := by simpa using hd
    go_enter Try.func28, Try.ntmps28
    go_wp2_with (go_at_call 27; refine (equalL_any _ _ l l _ (HS.out.keep (bel_alloc (bel_alloc (Below.refl _ _) _) _)) (HS1.out.keep (bel_alloc (bel_alloc (Below.refl _ _) _) _))).mono ?_; rintro e w' ⟨rfl, n, rfl⟩)
    go_ret
    exact ⟨ret_bool HE.out.symm, by first | exact bel_alloc (bel_alloc (Below.refl _ _) _) _ | exact bel_drewN (bel_alloc (bel_alloc (Below.refl _ _) _) _) _⟩
  subst hd
  by_cases hd : st = st1
  rotate_left
  · have HE : Hid (sameBr ⟨mo, ba, l, op, oh, ot, st, fe, fp, fh, ft, lo⟩ ⟨mo, ba, l, op, oh, ot, st1, fe1, fp1, fh1, ft1, lo1⟩ = false) := by show _ = _; simp [sameBr, hd]
    have hq : (st == st1) = false := by simpa using hd
    go_enter Try.func28, Try.ntmps28
    go_wp2_with (go_at_call 27; refine (equalL_any _ _ l l _ (HS.out.keep (bel_alloc (bel_alloc (Below.refl _ _) _) _)) (HS1.out.keep (bel_alloc (bel_alloc (Below.refl _ _) _) _))).mono ?_; rintro e w' ⟨rfl, n, rfl⟩)
    go_ret
    exact ⟨ret_bool HE.out.symm, by first | exact bel_alloc (bel_alloc (Below.refl _ _) _) _ | exact bel_drewN (bel_alloc (bel_alloc (Below.refl _ _) _) _) _⟩
  subst hd
  by_cases hd : fe = fe1
  rotate_left
  · have HE : Hid (sameBr ⟨mo, ba, l, op, oh, ot, st, fe, fp, fh, ft, lo⟩ ⟨mo, ba, l, op, oh, ot, st, fe1, fp1, fh1, ft1, lo1⟩ = false) := by show _ = _; simp [sameBr, hd]
    have hq : (fe == fe1) = false := by simpa using hd
    go_enter Try.func28, Try.ntmps28
    go_wp2_with (go_at_call 27; refine (equalL_any _ _ l l _ (HS.out.keep (bel_alloc (bel_alloc (Below.refl _ _) _) _)) (HS1.out.keep (bel_alloc (bel_alloc (Below.refl _ _) _) _))).mono ?_; rintro e w' ⟨rfl, n, rfl⟩)
    go_ret
    exact ⟨ret_bool HE.out.symm, by first | exact bel_alloc (bel_alloc (Below.refl _ _) _) _ | exact bel_drewN (bel_alloc (bel_alloc (Below.refl _ _) _) _) _⟩
  subst hd
  by_cases hd : fp = fp1
  rotate_left
  · have HE : Hid (sameBr ⟨mo, ba, l, op, oh, ot, st, fe, fp, fh, ft, lo⟩ ⟨mo, ba, l, op, oh, ot, st, fe, fp1, fh1, ft1, lo1⟩ = false) := by show _ = _; simp [sameBr, hd]
    have hq : (fp == fp1) = false := by simpa using hd
    go_enter Try.func28, Try.ntmps28
    go_wp2_with (go_at_call 27; refine (equalL_any _ _ l l _ (HS.out.keep (bel_alloc (bel_alloc (Below.refl _ _) _) _)) (HS1.out.keep (bel_alloc (bel_alloc (Below.refl _ _) _) _))).mono ?_; rintro e w' ⟨rfl, n, rfl⟩)
    go_ret
    exact ⟨ret_bool HE.out.symm, by first | exact bel_alloc (bel_alloc (Below.refl _ _) _) _ | exact bel_drewN (bel_alloc (bel_alloc (Below.refl _ _) _) _) _⟩
  subst hd
  by_cases hd : fh = fh1
  rotate_left
  · have HE : Hid (sameBr ⟨mo, ba, l, op, oh, ot, st, fe, fp, fh, ft, lo⟩ ⟨mo, ba, l, op, oh, ot, st, fe, fp, fh1, ft1, lo1⟩ = false) := by show _ = _; simp [sameBr, hd]
    have hq : (fh == fh1) = false := by simpa using hd
    go_enter Try.func28, Try.ntmps28
    go_wp2_with (go_at_call 27; refine (equalL_any _ _ l l _ (HS.out.keep (bel_alloc (bel_alloc (Below.refl _ _) _) _)) (HS1.out.keep (bel_alloc (bel_alloc (Below.refl _ _) _) _))).mono ?_; rintro e w' ⟨rfl, n, rfl⟩)
    go_ret
    exact ⟨ret_bool HE.out.symm, by first | exact bel_alloc (bel_alloc (Below.refl _ _) _) _ | exact bel_drewN (bel_alloc (bel_alloc (Below.refl _ _) _) _) _⟩
  subst hd
  by_cases hd : ft = ft1
  rotate_left
  · have HE : Hid (sameBr ⟨mo, ba, l, op, oh, ot, st, fe, fp, fh, ft, lo⟩ ⟨mo, ba, l, op, oh, ot, st, fe, fp, fh, ft1, lo1⟩ = false) := by show _ = _; simp [sameBr, hd]
    have hq : (ft == ft1) = false := by simpa using hd
    go_enter Try.func28, Try.ntmps28
    go_wp2_with (go_at_call 27; refine (equalL_any _ _ l l _ (HS.out.keep (bel_alloc (bel_alloc (Below.refl _ _) _) _)) (HS1.out.keep (bel_alloc (bel_alloc (Below.refl _ _) _) _))).mono ?_; rintro e w' ⟨rfl, n, rfl⟩)
    go_ret
    exact ⟨ret_bool HE.out.symm, by first | exact bel_alloc (bel_alloc (Below.refl _ _) _) _ | exact bel_drewN (bel_alloc (bel_alloc (Below.refl _ _) _) _) _⟩
  subst hd
  by_cases hd : lo = lo1
  rotate_left
  · have HE : Hid (sameBr ⟨mo, ba, l, op, oh, ot, st, fe, fp, fh, ft, lo⟩ ⟨mo, ba, l, op, oh, ot, st, fe, fp, fh, ft, lo1⟩ = false) := by show _ = _; simp [sameBr, hd]
    have hq : (lo == lo1) = false := by simpa using hd
    go_enter Try.func28, Try.ntmps28
    go_wp2_with (go_at_call 27; refine (equalL_any _ _ l l _ (HS.out.keep (bel_alloc (bel_alloc (Below.refl _ _) _) _)) (HS1.out.keep (bel_alloc (bel_alloc (Below.refl _ _) _) _))).mono ?_; rintro e w' ⟨rfl, n, rfl⟩)
    go_ret
    exact ⟨ret_bool HE.out.symm, by first | exact bel_alloc (bel_alloc (Below.refl _ _) _) _ | exact bel_drewN (bel_alloc (bel_alloc (Below.refl _ _) _) _) _⟩
  subst hd
  have HE : Hid (sameBr ⟨mo, ba, l, op, oh, ot, st, fe, fp, fh, ft, lo⟩ ⟨mo, ba, l, op, oh, ot, st, fe, fp, fh, ft, lo⟩ = true) := sameBr_self _
  go_enter Try.func28, Try.ntmps28
  go_wp2_with (go_at_call 27; refine (equalL_any _ _ l l _ (HS.out.keep (bel_alloc (bel_alloc (Below.refl _ _) _) _)) (HS1.out.keep (bel_alloc (bel_alloc (Below.refl _ _) _) _))).mono ?_; rintro e w' ⟨rfl, n, rfl⟩)
  go_ret
  exact ⟨ret_bool HE.out.symm, by first | exact bel_alloc (bel_alloc (Below.refl _ _) _) _ | exact bel_drewN (bel_alloc (bel_alloc (Below.refl _ _) _) _) _⟩

set_option maxHeartbeats 4000000 in
theorem sameBridge_any (mo ba op oh ot fe fp fh ft : Int) (st lo : Bool) (vc : Value) (l : List Ln) (mo1 ba1 op1 oh1 ot1 fe1 fp1 fh1 ft1 : Int) (st1 lo1 : Bool) (vc1 : Value) (l1 : List Ln) (w : World) (h : Ls w vc l) (h1 : Ls w vc1 l1) :
    Calls Try.prog 22 #[.agg #[.int .i64 mo, .int .i64 ba, vc, .int .i64 op, .int .i64 oh, .int .i64 ot, .bool st, .int .i64 fe, .int .i64 fp, .int .i64 fh, .int .i64 ft, .bool lo], .agg #[.int .i64 mo1, .int .i64 ba1, vc1, .int .i64 op1, .int .i64 oh1, .int .i64 ot1, .bool st1, .int .i64 fe1, .int .i64 fp1, .int .i64 fh1, .int .i64 ft1, .bool lo1]] w fun e w' => e = .returned (.bool (sameBr ⟨mo, ba, l, op, oh, ot, st, fe, fp, fh, ft, lo⟩ ⟨mo1, ba1, l1, op1, oh1, ot1, st1, fe1, fp1, fh1, ft1, lo1⟩)) ∧ Below w.heap.size w w' := by
  have HS : Hid (Ls w vc l) := h
  have HS1 : Hid (Ls w vc1 l1) := h1
  obtain ⟨va, vk, rfl, -⟩ := h.shape
  obtain ⟨va1, vk1, rfl, -⟩ := h1.shape
  clear h h1
  by_cases hd : mo = mo1
  rotate_left
  · have HE : Hid (sameBr ⟨mo, ba, l, op, oh, ot, st, fe, fp, fh, ft, lo⟩ ⟨mo1, ba1, l1, op1, oh1, ot1, st1, fe1, fp1, fh1, ft1, lo1⟩ = false) := by show _ = _; simp [sameBr, hd]
    have hq : (mo == mo1) = false := by simpa using hd
    go_enter Try.func22, Try.ntmps22
    go_wp2_with fail
    go_ret
    exact ⟨ret_bool HE.out.symm, by first | exact bel_alloc (bel_alloc (Below.refl _ _) _) _ | exact bel_drewN (bel_alloc (bel_alloc (Below.refl _ _) _) _) _⟩
  subst hd
  by_cases hd : ba = ba1
  rotate_left
  · have HE : Hid (sameBr ⟨mo, ba, l, op, oh, ot, st, fe, fp, fh, ft, lo⟩ ⟨mo, ba1, l1, op1, oh1, ot1, st1, fe1, fp1, fh1, ft1, lo1⟩ = false) := by show _ = _; simp [sameBr, hd]
    have hq : (ba == ba1) = false := by simpa using hd
    go_enter Try.func22, Try.ntmps22
    go_wp2_with fail
    go_ret
    exact ⟨ret_bool HE.out.symm, by first | exact bel_alloc (bel_alloc (Below.refl _ _) _) _ | exact bel_drewN (bel_alloc (bel_alloc (Below.refl _ _) _) _) _⟩
  subst hd
  by_cases hd : l = l1
  rotate_left
  · have HE : Hid (sameBr ⟨mo, ba, l, op, oh, ot, st, fe, fp, fh, ft, lo⟩ ⟨mo, ba, l1, op1, oh1, ot1, st1, fe1, fp1, fh1, ft1, lo1⟩ = false) := by show _ = _; simp [sameBr, hd]
    have hq : decide (l = l1) = false := by simpa using hd
    go_enter Try.func22, Try.ntmps22
    go_wp2_with (go_at_call 27; refine (equalL_any _ _ l l1 _ (HS.out.keep (bel_alloc (bel_alloc (Below.refl _ _) _) _)) (HS1.out.keep (bel_alloc (bel_alloc (Below.refl _ _) _) _))).mono ?_; rintro e w' ⟨rfl, n, rfl⟩)
    go_ret
    exact ⟨ret_bool HE.out.symm, by first | exact bel_alloc (bel_alloc (Below.refl _ _) _) _ | exact bel_drewN (bel_alloc (bel_alloc (Below.refl _ _) _) _) _⟩
  subst hd
  by_cases hd : op = op1
  rotate_left
  · have HE : Hid (sameBr ⟨mo, ba, l, op, oh, ot, st, fe, fp, fh, ft, lo⟩ ⟨mo, ba, l, op1, oh1, ot1, st1, fe1, fp1, fh1, ft1, lo1⟩ = false) := by show _ = _; simp [sameBr, hd]
    have hq : (op == op1) = false := by simpa using hd
    go_enter Try.func22, Try.ntmps22
    go_wp2_with (go_at_call 27; refine (equalL_any _ _ l l _ (HS.out.keep (bel_alloc (bel_alloc (Below.refl _ _) _) _)) (HS1.out.keep (bel_alloc (bel_alloc (Below.refl _ _) _) _))).mono ?_; rintro e w' ⟨rfl, n, rfl⟩)
    go_ret
    exact ⟨ret_bool HE.out.symm, by first | exact bel_alloc (bel_alloc (Below.refl _ _) _) _ | exact bel_drewN (bel_alloc (bel_alloc (Below.refl _ _) _) _) _⟩
  subst hd
  by_cases hd : oh = oh1
  rotate_left
  · have HE : Hid (sameBr ⟨mo, ba, l, op, oh, ot, st, fe, fp, fh, ft, lo⟩ ⟨mo, ba, l, op, oh1, ot1, st1, fe1, fp1, fh1, ft1, lo1⟩ = false) := by show _ = _; simp [sameBr, hd]
    have hq : (oh == oh1) = false := by simpa using hd
    go_enter Try.func22, Try.ntmps22
    go_wp2_with (go_at_call 27; refine (equalL_any _ _ l l _ (HS.out.keep (bel_alloc (bel_alloc (Below.refl _ _) _) _)) (HS1.out.keep (bel_alloc (bel_alloc (Below.refl _ _) _) _))).mono ?_; rintro e w' ⟨rfl, n, rfl⟩)
    go_ret
    exact ⟨ret_bool HE.out.symm, by first | exact bel_alloc (bel_alloc (Below.refl _ _) _) _ | exact bel_drewN (bel_alloc (bel_alloc (Below.refl _ _) _) _) _⟩
  subst hd
  by_cases hd : ot = ot1
  rotate_left
  · have HE : Hid (sameBr ⟨mo, ba, l, op, oh, ot, st, fe, fp, fh, ft, lo⟩ ⟨mo, ba, l, op, oh, ot1, st1, fe1, fp1, fh1, ft1, lo1⟩ = false) := by show _ = _; simp [sameBr, hd]
    have hq : (ot == ot1) = false := by simpa using hd
    go_enter Try.func22, Try.ntmps22
    go_wp2_with (go_at_call 27; refine (equalL_any _ _ l l _ (HS.out.keep (bel_alloc (bel_alloc (Below.refl _ _) _) _)) (HS1.out.keep (bel_alloc (bel_alloc (Below.refl _ _) _) _))).mono ?_; rintro e w' ⟨rfl, n, rfl⟩)
    go_ret
    exact ⟨ret_bool HE.out.symm, by first | exact bel_alloc (bel_alloc (Below.refl _ _) _) _ | exact bel_drewN (bel_alloc (bel_alloc (Below.refl _ _) _) _) _⟩
  subst hd
  by_cases hd : st = st1
  rotate_left
  · have HE : Hid (sameBr ⟨mo, ba, l, op, oh, ot, st, fe, fp, fh, ft, lo⟩ ⟨mo, ba, l, op, oh, ot, st1, fe1, fp1, fh1, ft1, lo1⟩ = false) := by show _ = _; simp [sameBr, hd]
    have hq : (st == st1) = false := by simpa using hd
    go_enter Try.func22, Try.ntmps22
    go_wp2_with (go_at_call 27; refine (equalL_any _ _ l l _ (HS.out.keep (bel_alloc (bel_alloc (Below.refl _ _) _) _)) (HS1.out.keep (bel_alloc (bel_alloc (Below.refl _ _) _) _))).mono ?_; rintro e w' ⟨rfl, n, rfl⟩)
    go_ret
    exact ⟨ret_bool HE.out.symm, by first | exact bel_alloc (bel_alloc (Below.refl _ _) _) _ | exact bel_drewN (bel_alloc (bel_alloc (Below.refl _ _) _) _) _⟩
  subst hd
  by_cases hd : fe = fe1
  rotate_left
  · have HE : Hid (sameBr ⟨mo, ba, l, op, oh, ot, st, fe, fp, fh, ft, lo⟩ ⟨mo, ba, l, op, oh, ot, st, fe1, fp1, fh1, ft1, lo1⟩ = false) := by show _ = _; simp [sameBr, hd]
    have hq : (fe == fe1) = false := by simpa using hd
    go_enter Try.func22, Try.ntmps22
    go_wp2_with (go_at_call 27; refine (equalL_any _ _ l l _ (HS.out.keep (bel_alloc (bel_alloc (Below.refl _ _) _) _)) (HS1.out.keep (bel_alloc (bel_alloc (Below.refl _ _) _) _))).mono ?_; rintro e w' ⟨rfl, n, rfl⟩)
    go_ret
    exact ⟨ret_bool HE.out.symm, by first | exact bel_alloc (bel_alloc (Below.refl _ _) _) _ | exact bel_drewN (bel_alloc (bel_alloc (Below.refl _ _) _) _) _⟩
  subst hd
  by_cases hd : fp = fp1
  rotate_left
  · have HE : Hid (sameBr ⟨mo, ba, l, op, oh, ot, st, fe, fp, fh, ft, lo⟩ ⟨mo, ba, l, op, oh, ot, st, fe, fp1, fh1, ft1, lo1⟩ = false) := by show _ = _; simp [sameBr, hd]
    have hq : (fp == fp1) = false := by simpa using hd
    go_enter Try.func22, Try.ntmps22
    go_wp2_with (go_at_call 27; refine (equalL_any _ _ l l _ (HS.out.keep (bel_alloc (bel_alloc (Below.refl _ _) _) _)) (HS1.out.keep (bel_alloc (bel_alloc (Below.refl _ _) _) _))).mono ?_; rintro e w' ⟨rfl, n, rfl⟩)
    go_ret
    exact ⟨ret_bool HE.out.symm, by first | exact bel_alloc (bel_alloc (Below.refl _ _) _) _ | exact bel_drewN (bel_alloc (bel_alloc (Below.refl _ _) _) _) _⟩
  subst hd
  by_cases hd : fh = fh1
  rotate_left
  · have HE : Hid (sameBr ⟨mo, ba, l, op, oh, ot, st, fe, fp, fh, ft, lo⟩ ⟨mo, ba, l, op, oh, ot, st, fe, fp, fh1, ft1, lo1⟩ = false) := by show _ = _; simp [sameBr, hd]
    have hq : (fh == fh1) = false := by simpa using hd
    go_enter Try.func22, Try.ntmps22
    go_wp2_with (go_at_call 27; refine (equalL_any _ _ l l _ (HS.out.keep (bel_alloc (bel_alloc (Below.refl _ _) _) _)) (HS1.out.keep (bel_alloc (bel_alloc (Below.refl _ _) _) _))).mono ?_; rintro e w' ⟨rfl, n, rfl⟩)
    go_ret
    exact ⟨ret_bool HE.out.symm, by first | exact bel_alloc (bel_alloc (Below.refl _ _) _) _ | exact bel_drewN (bel_alloc (bel_alloc (Below.refl _ _) _) _) _⟩
  subst hd
  by_cases hd : ft = ft1
  rotate_left
  · have HE : Hid (sameBr ⟨mo, ba, l, op, oh, ot, st, fe, fp, fh, ft, lo⟩ ⟨mo, ba, l, op, oh, ot, st, fe, fp, fh, ft1, lo1⟩ = false) := by show _ = _; simp [sameBr, hd]
    have hq : (ft == ft1) = false := by simpa using hd
    go_enter Try.func22, Try.ntmps22
    go_wp2_with (go_at_call 27; refine (equalL_any _ _ l l _ (HS.out.keep (bel_alloc (bel_alloc (Below.refl _ _) _) _)) (HS1.out.keep (bel_alloc (bel_alloc (Below.refl _ _) _) _))).mono ?_; rintro e w' ⟨rfl, n, rfl⟩)
    go_ret
    exact ⟨ret_bool HE.out.symm, by first | exact bel_alloc (bel_alloc (Below.refl _ _) _) _ | exact bel_drewN (bel_alloc (bel_alloc (Below.refl _ _) _) _) _⟩
  subst hd
  by_cases hd : lo = lo1
  rotate_left
  · have HE : Hid (sameBr ⟨mo, ba, l, op, oh, ot, st, fe, fp, fh, ft, lo⟩ ⟨mo, ba, l, op, oh, ot, st, fe, fp, fh, ft, lo1⟩ = false) := by show _ = _; simp [sameBr, hd]
    have hq : (lo == lo1) = false := by simpa using hd
    go_enter Try.func22, Try.ntmps22
    go_wp2_with (go_at_call 27; refine (equalL_any _ _ l l _ (HS.out.keep (bel_alloc (bel_alloc (Below.refl _ _) _) _)) (HS1.out.keep (bel_alloc (bel_alloc (Below.refl _ _) _) _))).mono ?_; rintro e w' ⟨rfl, n, rfl⟩)
    go_ret
    exact ⟨ret_bool HE.out.symm, by first | exact bel_alloc (bel_alloc (Below.refl _ _) _) _ | exact bel_drewN (bel_alloc (bel_alloc (Below.refl _ _) _) _) _⟩
  subst hd
  have HE : Hid (sameBr ⟨mo, ba, l, op, oh, ot, st, fe, fp, fh, ft, lo⟩ ⟨mo, ba, l, op, oh, ot, st, fe, fp, fh, ft, lo⟩ = true) := sameBr_self _
  go_enter Try.func22, Try.ntmps22
  go_wp2_with (go_at_call 27; refine (equalL_any _ _ l l _ (HS.out.keep (bel_alloc (bel_alloc (Below.refl _ _) _) _)) (HS1.out.keep (bel_alloc (bel_alloc (Below.refl _ _) _) _))).mono ?_; rintro e w' ⟨rfl, n, rfl⟩)
  go_ret
  exact ⟨ret_bool HE.out.symm, by first | exact bel_alloc (bel_alloc (Below.refl _ _) _) _ | exact bel_drewN (bel_alloc (bel_alloc (Below.refl _ _) _) _) _⟩
end Go.Proofs.Ytfbmmiikhkmpfac
