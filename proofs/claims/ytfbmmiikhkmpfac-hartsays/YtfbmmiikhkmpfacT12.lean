/-
  Laid together: HRan, Stands, SteppedB, Stepped0, Stepped1, Stepped2.
-/
import Derived.Test.YtfbmmiikhkmpfacT11
import Derived.Deep.RegionHeld3
import Derived.Deep.CutRange
/-
  Package hart: Step where its answer is known; the closed fact 'ran' of the statements answers true; nothing that was there turns.
-/
namespace Go.Proofs.Ytfbmmiikhkmpfac
open Go.RowKit

theorem step_at {v : Value} {zs : List Int} {p : Int} {u : Value} {r : List Int} {d : Bool} {mo ba op oh ot fe fp fh ft : Int} {st lo : Bool} {vc : Value} {l : List Ln} {w : World} {e1 : Int} {zs1 : List Int} {p1 : Int} {r1 : List Int} {d1 : Bool} {mo1 ba1 op1 oh1 ot1 fe1 fp1 fh1 ft1 : Int} {st1 lo1 : Bool} {l1 : List Ln}
    (hE : stE zs ⟨p, r, d⟩ ⟨mo, ba, l, op, oh, ot, st, fe, fp, fh, ft, lo⟩ = e1) (hR : stR zs ⟨p, r, d⟩ ⟨mo, ba, l, op, oh, ot, st, fe, fp, fh, ft, lo⟩ = (zs1, ⟨p1, r1, d1⟩, ⟨mo1, ba1, l1, op1, oh1, ot1, st1, fe1, fp1, fh1, ft1, lo1⟩)) (hs : Sl w v zs) (hr : Sl w u r) (h : Ls w vc l) :
    Calls Try.prog 14 #[.agg #[v], .agg #[.int .i64 p, u, .bool d], .agg #[.int .i64 mo, .int .i64 ba, vc, .int .i64 op, .int .i64 oh, .int .i64 ot, .bool st, .int .i64 fe, .int .i64 fp, .int .i64 fh, .int .i64 ft, .bool lo]] w fun e w' => ∃ a1 c1 a2 c2 a3 c3, e = .returned (.tuple #[.agg #[.slice a1 zs1.length c1], .agg #[.int .i64 p1, .slice a2 r1.length c2, .bool d1], .agg #[.int .i64 mo1, .int .i64 ba1, .slice a3 l1.length c3, .int .i64 op1, .int .i64 oh1, .int .i64 ot1, .bool st1, .int .i64 fe1, .int .i64 fp1, .int .i64 fh1, .int .i64 ft1, .bool lo1], .int .i64 e1]) ∧
      Sl w' (.slice a1 zs1.length c1) zs1 ∧ Sl w' (.slice a2 r1.length c2) r1 ∧ Ls w' (.slice a3 l1.length c3) l1 ∧ Fresh w.heap.size (.slice a1 zs1.length c1) ∧ Fresh w.heap.size (.slice a2 r1.length c2) ∧ Fresh w.heap.size (.slice a3 l1.length c3) ∧ Below w.heap.size w w' := by
  refine (step_any v zs p u r d mo ba op oh ot fe fp fh ft st lo vc l w hs hr h).mono ?_
  rintro e w' ⟨v1, zs2, p2, u1, r2, d2, mo2, ba2, op2, oh2, ot2, fe2, fp2, fh2, ft2, st2, lo2, vc1, l2, rfl, h1, h2, h3, f1, f2, f3, h4, h5⟩
  rw [hR] at h4
  simp only [Prod.mk.injEq, Ht.mk.injEq, Br.mk.injEq] at h4
  obtain ⟨rfl, ⟨rfl, rfl, rfl⟩, rfl, rfl, rfl, rfl, rfl, rfl, rfl, rfl, rfl, rfl, rfl, rfl⟩ := h4
  have g1 := h1
  have g2 := h2
  have g3 := h3
  obtain ⟨a1, c1, rfl, -⟩ := h1
  obtain ⟨a2, c2, rfl, -⟩ := h2
  obtain ⟨a3, c3, rfl, -⟩ := h3
  rw [hE]
  exact ⟨a1, c1, a2, c2, a3, c3, rfl, g1, g2, g3, f1, f2, f3, h5⟩

/-- The memory of the closed fact ran. -/
def rnm : List Int := wth [0, 4101, 1, 28673, 2, 33281, 3, 0] 4
theorem rnm_len : rnm.length = 512 := wth_len _ _
theorem ran_1 : stE rnm ⟨0, zero8, false⟩ ⟨0, 0, [], 0, 0, 0, false, 0, 0, 0, 0, false⟩ = 0 ∧ stR rnm ⟨0, zero8, false⟩ ⟨0, 0, [], 0, 0, 0, false, 0, 0, 0, 0, false⟩ = (rnm, ⟨1, [5, 0, 0, 0, 0, 0, 0, 0], false⟩, ⟨0, 0, [], 0, 0, 0, false, 0, 0, 0, 0, false⟩) := ⟨by decide +kernel, by kernel_rfl⟩
theorem ran_2 : stE rnm ⟨1, [5, 0, 0, 0, 0, 0, 0, 0], false⟩ ⟨0, 0, [], 0, 0, 0, false, 0, 0, 0, 0, false⟩ = 0 ∧ stR rnm ⟨1, [5, 0, 0, 0, 0, 0, 0, 0], false⟩ ⟨0, 0, [], 0, 0, 0, false, 0, 0, 0, 0, false⟩ = (rnm, ⟨2, [5, 0, 0, 0, 0, 0, 0, 0], false⟩, ⟨0, 5, [], 0, 0, 0, false, 0, 0, 0, 0, false⟩) := ⟨by decide +kernel, by kernel_rfl⟩
theorem ran_3 : stE rnm ⟨2, [5, 0, 0, 0, 0, 0, 0, 0], false⟩ ⟨0, 5, [], 0, 0, 0, false, 0, 0, 0, 0, false⟩ = 0 ∧ stR rnm ⟨2, [5, 0, 0, 0, 0, 0, 0, 0], false⟩ ⟨0, 5, [], 0, 0, 0, false, 0, 0, 0, 0, false⟩ = (rnm, ⟨3, [5, 5, 0, 0, 0, 0, 0, 0], false⟩, ⟨0, 5, [], 0, 0, 0, false, 0, 0, 0, 0, false⟩) := ⟨by decide +kernel, by kernel_rfl⟩
theorem ran_4 : stE rnm ⟨3, [5, 5, 0, 0, 0, 0, 0, 0], false⟩ ⟨0, 5, [], 0, 0, 0, false, 0, 0, 0, 0, false⟩ = 0 ∧ stR rnm ⟨3, [5, 5, 0, 0, 0, 0, 0, 0], false⟩ ⟨0, 5, [], 0, 0, 0, false, 0, 0, 0, 0, false⟩ = (rnm, ⟨3, [5, 5, 0, 0, 0, 0, 0, 0], true⟩, ⟨0, 5, [], 0, 0, 0, false, 0, 0, 0, 0, false⟩) := ⟨by decide +kernel, by kernel_rfl⟩
theorem ran_c : chkH ⟨3, [5, 5, 0, 0, 0, 0, 0, 0], false⟩ = 0 := by decide +kernel
theorem ran_n : newE 0 = 0 ∧ newH 0 = ⟨0, zero8, false⟩ := ⟨by decide +kernel, by kernel_rfl⟩

theorem ran_go {v u vc : Value} {w : World} {p ba p1 ba1 : Int} {r r1 : List Int} {d1 : Bool} (hE : stE rnm ⟨p, r, false⟩ ⟨0, ba, [], 0, 0, 0, false, 0, 0, 0, 0, false⟩ = 0) (hR : stR rnm ⟨p, r, false⟩ ⟨0, ba, [], 0, 0, 0, false, 0, 0, 0, 0, false⟩ = (rnm, ⟨p1, r1, d1⟩, ⟨0, ba1, [], 0, 0, 0, false, 0, 0, 0, 0, false⟩)) (h8 : r1.length = 8)
    (hs : Sl w v rnm) (hr : Sl w u r) (h : Ls w vc []) :
    Calls Try.prog 14 #[.agg #[v], .agg #[.int .i64 p, u, .bool false], .agg #[.int .i64 0, .int .i64 ba, vc, .int .i64 0, .int .i64 0, .int .i64 0, .bool false, .int .i64 0, .int .i64 0, .int .i64 0, .int .i64 0, .bool false]] w fun e w' => ∃ a1 c1 a2 c2 a3 c3, e = .returned (.tuple #[.agg #[.slice a1 512 c1], .agg #[.int .i64 p1, .slice a2 8 c2, .bool d1], .agg #[.int .i64 0, .int .i64 ba1, .slice a3 0 c3, .int .i64 0, .int .i64 0, .int .i64 0, .bool false, .int .i64 0, .int .i64 0, .int .i64 0, .int .i64 0, .bool false], .int .i64 0]) ∧
      Sl w' (.slice a1 512 c1) rnm ∧ Sl w' (.slice a2 8 c2) r1 ∧ Ls w' (.slice a3 0 c3) [] ∧ Fresh w.heap.size (.slice a1 512 c1) ∧ Fresh w.heap.size (.slice a2 8 c2) ∧ Fresh w.heap.size (.slice a3 0 c3) ∧ Below w.heap.size w w' := by
  refine (step_at hE hR hs hr h).mono ?_
  rintro e w' ⟨a1, c1, a2, c2, a3, c3, rfl, h1⟩
  rw [rnm_len, h8] at h1 ⊢
  exact ⟨a1, c1, a2, c2, a3, c3, rfl, h1⟩

/-- The three variables of ran; what they hold. -/
structure RanAt (w : World) (M H B : Nat) (p : Int) (r : List Int) (ba : Int) (w' : World) : Prop where
  all : ∃ a1 c1 a2 c2 a3 c3, Box w' M 33 #[.slice a1 512 c1] ∧ Box w' H 35 #[.int .i64 p, .slice a2 8 c2, .bool false] ∧ Box w' B 40 #[.int .i64 0, .int .i64 ba, .slice a3 0 c3, .int .i64 0, .int .i64 0, .int .i64 0, .bool false, .int .i64 0, .int .i64 0, .int .i64 0, .int .i64 0, .bool false] ∧
    Sl w' (.slice a1 512 c1) rnm ∧ Sl w' (.slice a2 8 c2) r ∧ Ls w' (.slice a3 0 c3) []
  bel : Below w.heap.size w w'
  lo : w.heap.size ≤ M ∧ M < H ∧ H < B

theorem RanAt.put {w w' w5 : World} {M H B : Nat} {p p1 : Int} {r r1 : List Int} {ba ba1 : Int} (h : RanAt w M H B p r ba w') (b5 : Below w'.heap.size w' w5) {a1 : Option Addr} {c1 : Nat} {a2 : Option Addr} {c2 : Nat} {a3 : Option Addr} {c3 : Nat}
    (s1 : Sl w5 (.slice a1 512 c1) rnm) (s2 : Sl w5 (.slice a2 8 c2) r1) (s3 : Ls w5 (.slice a3 0 c3) []) (f1 : Fresh w'.heap.size (.slice a1 512 c1)) (f2 : Fresh w'.heap.size (.slice a2 8 c2)) (f3 : Fresh w'.heap.size (.slice a3 0 c3)) :
    RanAt w M H B p1 r1 ba1 (((((((((((((((((w5.setCell ⟨M, 0, none⟩ (.slice a1 512 c1)).setCell ⟨H, 0, none⟩ (.int .i64 p1)).setCell ⟨H, 1, none⟩ (.slice a2 8 c2)).setCell ⟨H, 2, none⟩ (.bool false)).setCell ⟨B, 0, none⟩ (.int .i64 0)).setCell ⟨B, 1, none⟩ (.int .i64 ba1)).setCell ⟨B, 2, none⟩ (.slice a3 0 c3)).setCell ⟨B, 3, none⟩ (.int .i64 0)).setCell ⟨B, 4, none⟩ (.int .i64 0)).setCell ⟨B, 5, none⟩ (.int .i64 0)).setCell ⟨B, 6, none⟩ (.bool false)).setCell ⟨B, 7, none⟩ (.int .i64 0)).setCell ⟨B, 8, none⟩ (.int .i64 0)).setCell ⟨B, 9, none⟩ (.int .i64 0)).setCell ⟨B, 10, none⟩ (.int .i64 0)).setCell ⟨B, 11, none⟩ (.bool false))) := by
  obtain ⟨⟨b1, d1, b2, d2, b3, d3, X1, X2, X3, -, -, -⟩, hb, h1, h2, h3⟩ := h
  have l1 := X1.lt
  have l2 := X2.lt
  have l3 := X3.lt
  have hz : ∀ q, w'.heap.size ≤ q → (((((((((((((((((w5.setCell ⟨M, 0, none⟩ (.slice a1 512 c1)).setCell ⟨H, 0, none⟩ (.int .i64 p1)).setCell ⟨H, 1, none⟩ (.slice a2 8 c2)).setCell ⟨H, 2, none⟩ (.bool false)).setCell ⟨B, 0, none⟩ (.int .i64 0)).setCell ⟨B, 1, none⟩ (.int .i64 ba1)).setCell ⟨B, 2, none⟩ (.slice a3 0 c3)).setCell ⟨B, 3, none⟩ (.int .i64 0)).setCell ⟨B, 4, none⟩ (.int .i64 0)).setCell ⟨B, 5, none⟩ (.int .i64 0)).setCell ⟨B, 6, none⟩ (.bool false)).setCell ⟨B, 7, none⟩ (.int .i64 0)).setCell ⟨B, 8, none⟩ (.int .i64 0)).setCell ⟨B, 9, none⟩ (.int .i64 0)).setCell ⟨B, 10, none⟩ (.int .i64 0)).setCell ⟨B, 11, none⟩ (.bool false))).heap[q]? = w5.heap[q]? := fun q hq =>
    (heap_other12 (by omega) _ _ _ _ _ _ _ _ _ _ _ _).trans ((heap_other3 (by omega) _ _ _).trans (heap_other1 (by omega) _))
  have hs : w5.heap.size ≤ (((((((((((((((((w5.setCell ⟨M, 0, none⟩ (.slice a1 512 c1)).setCell ⟨H, 0, none⟩ (.int .i64 p1)).setCell ⟨H, 1, none⟩ (.slice a2 8 c2)).setCell ⟨H, 2, none⟩ (.bool false)).setCell ⟨B, 0, none⟩ (.int .i64 0)).setCell ⟨B, 1, none⟩ (.int .i64 ba1)).setCell ⟨B, 2, none⟩ (.slice a3 0 c3)).setCell ⟨B, 3, none⟩ (.int .i64 0)).setCell ⟨B, 4, none⟩ (.int .i64 0)).setCell ⟨B, 5, none⟩ (.int .i64 0)).setCell ⟨B, 6, none⟩ (.bool false)).setCell ⟨B, 7, none⟩ (.int .i64 0)).setCell ⟨B, 8, none⟩ (.int .i64 0)).setCell ⟨B, 9, none⟩ (.int .i64 0)).setCell ⟨B, 10, none⟩ (.int .i64 0)).setCell ⟨B, 11, none⟩ (.bool false))).heap.size := by simp [World.setCell]
  have Y1 := X1.keep b5
  have Y2 := X2.keep b5
  have Y3 := X3.keep b5
  refine ⟨⟨a1, c1, a2, c2, a3, c3, ?_, ?_, ?_, s1.blk hs (fun q hq => hz q (f1 q hq)), s2.blk hs (fun q hq => hz q (f2 q hq)), s3.blk hs (fun q hq => hz q (f3 q hq))⟩, ?_, h1, h2, h3⟩
  · exact ((Y1.set1 _).other3 (by omega) _ _ _).other12 (by omega) _ _ _ _ _ _ _ _ _ _ _ _
  · exact ((Y2.other (p := ⟨M, 0, none⟩) (by show H ≠ M; omega) _).set3 _ _ _).other12 (by omega) _ _ _ _ _ _ _ _ _ _ _ _
  · exact ((Y3.other (p := ⟨M, 0, none⟩) (by show B ≠ M; omega) _).other3 (by omega) _ _ _).set12 _ _ _ _ _ _ _ _ _ _ _ _
  · exact bel_set12 (by omega) (bel_set3 (by omega) (bel_set1 (by omega) (bel_trans hb b5) _) _ _ _) _ _ _ _ _ _ _ _ _ _ _ _

set_option maxRecDepth 10000 in
set_option maxHeartbeats 8000000 in
theorem ran_true (w : World) : Calls Try.prog 18 #[] w fun e w' => e = .returned (.bool true) ∧ Below w.heap.size w w' := by
  go_enter Try.func18, Try.ntmps18
  go_wp2_with fail
  refine (with_any _ 0 8 [0, 4101, 1, 28673, 2, 33281, 3, 0] 4 _ (sl_block (heap_at rfl) rfl rfl (by simp [maxLen])) rfl (by decide) (by decide)).mono ?_
  rintro e w1 ⟨g1, rfl, h1, b1⟩
  have B1 : Hid (Below w.heap.size w w1) := bel_trans (bel_alloc (Below.refl _ _) _) b1
  have z1 : w.heap.size ≤ w1.heap.size := B1.out.size
  have H1 : Hid (Sl w1 (.slice (some ⟨g1, 0, none⟩) 512 512) rnm) := h1
  clear b1 h1
  go_wp2_with fail
  refine (hNew_any 0 _).mono ?_
  rintro e w2 ⟨p, v2, r2, rfl, h2, hh, b2⟩
  rw [ran_n.1]
  rw [ran_n.2] at hh
  simp only [Ht.mk.injEq, and_true] at hh
  obtain ⟨rfl, rfl⟩ := hh
  have H2 : Hid (Sl w2 v2 zero8) := h2
  obtain ⟨a2, c2, rfl, -⟩ := h2
  rw [show zero8.length = 8 from rfl] at H2 ⊢
  have X1 := (((Box.newAt (w := w1) (n := w1.heap.size) rfl 33 #[.slice (some ⟨g1, 0, none⟩) 512 512]).keep b2).past (.cells #[.int .i64 0, .slice a2 8 c2, .bool false] 35)).past (.cells #[.int .i64 0, .int .i64 0, .slice none 0 0, .int .i64 0, .int .i64 0, .int .i64 0, .bool false, .int .i64 0, .int .i64 0, .int .i64 0, .int .i64 0, .bool false] 40)
  have X2 := (Box.newAt (w := w2) (n := w2.heap.size) rfl 35 #[.int .i64 0, .slice a2 8 c2, .bool false]).past (.cells #[.int .i64 0, .int .i64 0, .slice none 0 0, .int .i64 0, .int .i64 0, .int .i64 0, .bool false, .int .i64 0, .int .i64 0, .int .i64 0, .int .i64 0, .bool false] 40)
  have X3 := Box.newAt (w := w2.alloc (.cells #[.int .i64 0, .slice a2 8 c2, .bool false] 35)) (n := w2.heap.size + 1) (by simp) 40 #[.int .i64 0, .int .i64 0, .slice none 0 0, .int .i64 0, .int .i64 0, .int .i64 0, .bool false, .int .i64 0, .int .i64 0, .int .i64 0, .int .i64 0, .bool false]
  have C3 : Below w2.heap.size w2 ((w2.alloc (.cells #[.int .i64 0, .slice a2 8 c2, .bool false] 35)).alloc (.cells #[.int .i64 0, .int .i64 0, .slice none 0 0, .int .i64 0, .int .i64 0, .int .i64 0, .bool false, .int .i64 0, .int .i64 0, .int .i64 0, .int .i64 0, .bool false] 40)) := bel_alloc (bel_alloc (Below.refl _ _) _) _
  have hzz : w1.heap.size + 1 ≤ w2.heap.size := by have := b2.size; simpa using this
  have R0 : Hid (RanAt w w1.heap.size w2.heap.size (w2.heap.size + 1) 0 zero8 0 ((w2.alloc (.cells #[.int .i64 0, .slice a2 8 c2, .bool false] 35)).alloc (.cells #[.int .i64 0, .int .i64 0, .slice none 0 0, .int .i64 0, .int .i64 0, .int .i64 0, .bool false, .int .i64 0, .int .i64 0, .int .i64 0, .int .i64 0, .bool false] 40))) :=
    ⟨⟨_, _, _, _, _, _, X1, X2, X3, ((H1.out.keep (bel_alloc (Below.refl _ _) _)).keep b2).keep C3, H2.out.keep C3, Ls.nothing _⟩, bel_trans (bel_trans (bel_alloc B1.out _) b2) C3, z1, by omega, by omega⟩
  clear X1 X2 X3 C3 H1 H2 B1
  go_wp2_with fail
  generalize ((w2.alloc (.cells #[.int .i64 0, .slice a2 8 c2, .bool false] 35)).alloc (.cells #[.int .i64 0, .int .i64 0, .slice none 0 0, .int .i64 0, .int .i64 0, .int .i64 0, .bool false, .int .i64 0, .int .i64 0, .int .i64 0, .int .i64 0, .bool false] 40)) = W at *
  generalize w2.heap.size + 1 = B at *
  generalize w2.heap.size = H at *
  generalize w1.heap.size = M at *
  have R := R0
  clear R0 z1 hzz b2
  refine wp_loop_rounds 4 ?_
  rw [rounds_succ]
  obtain ⟨⟨a1, c1, a2, c2, a3, c3, X1, X2, X3, S1, S2, S3⟩, -, hlo, hMH, hHB⟩ := R.out
  have T1 : Hid (Sl W _ rnm) := S1
  have T2 : Hid (Sl W _ _) := S2
  have T3 : Hid (Ls W _ []) := S3
  clear S1 S2 S3
  obtain ⟨m0, -, s1⟩ := X1.one
  obtain ⟨i0, i1, i2, -, -, -, s2⟩ := X2.three
  obtain ⟨⟨d0, d1, d2, d3, d4, d5, d6, d7, d8, d9, d10, d11⟩, s3⟩ := X3.twelve
  go_wp2_with fail
  refine (ran_go ran_1.1 ran_1.2 rfl T1.out T2.out T3.out).mono ?_
  rintro e w5 ⟨b1, e1, b2, e2, b3, e3, rfl, S1, S2, S3, F1, F2, F3, b5⟩
  have R1 : Hid _ := RanAt.put (p1 := 1) (ba1 := 0) R.out b5 S1 S2 S3 F1 F2 F3
  clear S1 S2 S3 F1 F2 F3 m0 s1 i0 i1 i2 s2 d0 d1 d2 d3 d4 d5 d6 d7 d8 d9 d10 d11 s3 T1 T2 T3
  obtain ⟨m0, m1, s1⟩ := (X1.keep b5).one
  obtain ⟨i0, i1, i2, j0, j1, j2, s2⟩ := (X2.keep b5).three
  obtain ⟨⟨d0, d1, d2, d3, d4, d5, d6, d7, d8, d9, d10, d11⟩, s3⟩ := (X3.keep b5).twelve
  have f3 := (X3.keep b5).marksAll
  have n1 : ¬ M = H := by omega
  have n2 : ¬ M = B := by omega
  have n3 : ¬ H = B := by omega
  have n4 : ¬ H = M := by omega
  have n5 : ¬ B = M := by omega
  have n6 : ¬ B = H := by omega
  clear X1 X2 X3 R b5
  go_upto_region 8 with fail
  clear m0 m1 s1 i0 i1 i2 j0 j1 j2 s2 d0 d1 d2 d3 d4 d5 d6 d7 d8 d9 d10 d11 s3 f3 n1 n2 n3 n4 n5 n6 hlo hMH hHB
  generalize (((((((((((((((((w5.setCell ⟨M, 0, none⟩ (.slice b1 512 e1)).setCell ⟨H, 0, none⟩ (.int .i64 1)).setCell ⟨H, 1, none⟩ (.slice b2 8 e2)).setCell ⟨H, 2, none⟩ (.bool false)).setCell ⟨B, 0, none⟩ (.int .i64 0)).setCell ⟨B, 1, none⟩ (.int .i64 0)).setCell ⟨B, 2, none⟩ (.slice b3 0 e3)).setCell ⟨B, 3, none⟩ (.int .i64 0)).setCell ⟨B, 4, none⟩ (.int .i64 0)).setCell ⟨B, 5, none⟩ (.int .i64 0)).setCell ⟨B, 6, none⟩ (.bool false)).setCell ⟨B, 7, none⟩ (.int .i64 0)).setCell ⟨B, 8, none⟩ (.int .i64 0)).setCell ⟨B, 9, none⟩ (.int .i64 0)).setCell ⟨B, 10, none⟩ (.int .i64 0)).setCell ⟨B, 11, none⟩ (.bool false))) = W9 at *
  have R := R1
  clear R1
  obtain ⟨W, hW⟩ : ∃ W, W9 = W := ⟨_, rfl⟩
  rw [hW] at R ⊢
  clear hW
  go_wp2_with fail
  rw [rounds_succ]
  obtain ⟨⟨a1, c1, a2, c2, a3, c3, X1, X2, X3, S1, S2, S3⟩, -, hlo, hMH, hHB⟩ := R.out
  have T1 : Hid (Sl W _ rnm) := S1
  have T2 : Hid (Sl W _ _) := S2
  have T3 : Hid (Ls W _ []) := S3
  clear S1 S2 S3
  obtain ⟨m0, -, s1⟩ := X1.one
  obtain ⟨i0, i1, i2, -, -, -, s2⟩ := X2.three
  obtain ⟨⟨d0, d1, d2, d3, d4, d5, d6, d7, d8, d9, d10, d11⟩, s3⟩ := X3.twelve
  go_wp2_with fail
  refine (ran_go ran_2.1 ran_2.2 rfl T1.out T2.out T3.out).mono ?_
  rintro e w5 ⟨b1, e1, b2, e2, b3, e3, rfl, S1, S2, S3, F1, F2, F3, b5⟩
  have R1 : Hid _ := RanAt.put (p1 := 2) (ba1 := 5) R.out b5 S1 S2 S3 F1 F2 F3
  clear S1 S2 S3 F1 F2 F3 m0 s1 i0 i1 i2 s2 d0 d1 d2 d3 d4 d5 d6 d7 d8 d9 d10 d11 s3 T1 T2 T3
  obtain ⟨m0, m1, s1⟩ := (X1.keep b5).one
  obtain ⟨i0, i1, i2, j0, j1, j2, s2⟩ := (X2.keep b5).three
  obtain ⟨⟨d0, d1, d2, d3, d4, d5, d6, d7, d8, d9, d10, d11⟩, s3⟩ := (X3.keep b5).twelve
  have f3 := (X3.keep b5).marksAll
  have n1 : ¬ M = H := by omega
  have n2 : ¬ M = B := by omega
  have n3 : ¬ H = B := by omega
  have n4 : ¬ H = M := by omega
  have n5 : ¬ B = M := by omega
  have n6 : ¬ B = H := by omega
  clear X1 X2 X3 R b5
  go_upto_region 8 with fail
  clear m0 m1 s1 i0 i1 i2 j0 j1 j2 s2 d0 d1 d2 d3 d4 d5 d6 d7 d8 d9 d10 d11 s3 f3 n1 n2 n3 n4 n5 n6 hlo hMH hHB
  generalize (((((((((((((((((w5.setCell ⟨M, 0, none⟩ (.slice b1 512 e1)).setCell ⟨H, 0, none⟩ (.int .i64 2)).setCell ⟨H, 1, none⟩ (.slice b2 8 e2)).setCell ⟨H, 2, none⟩ (.bool false)).setCell ⟨B, 0, none⟩ (.int .i64 0)).setCell ⟨B, 1, none⟩ (.int .i64 5)).setCell ⟨B, 2, none⟩ (.slice b3 0 e3)).setCell ⟨B, 3, none⟩ (.int .i64 0)).setCell ⟨B, 4, none⟩ (.int .i64 0)).setCell ⟨B, 5, none⟩ (.int .i64 0)).setCell ⟨B, 6, none⟩ (.bool false)).setCell ⟨B, 7, none⟩ (.int .i64 0)).setCell ⟨B, 8, none⟩ (.int .i64 0)).setCell ⟨B, 9, none⟩ (.int .i64 0)).setCell ⟨B, 10, none⟩ (.int .i64 0)).setCell ⟨B, 11, none⟩ (.bool false))) = W9 at *
  have R := R1
  clear R1
  obtain ⟨W, hW⟩ : ∃ W, W9 = W := ⟨_, rfl⟩
  rw [hW] at R ⊢
  clear hW
  go_wp2_with fail
  rw [rounds_succ]
  obtain ⟨⟨a1, c1, a2, c2, a3, c3, X1, X2, X3, S1, S2, S3⟩, -, hlo, hMH, hHB⟩ := R.out
  have T1 : Hid (Sl W _ rnm) := S1
  have T2 : Hid (Sl W _ _) := S2
  have T3 : Hid (Ls W _ []) := S3
  clear S1 S2 S3
  obtain ⟨m0, -, s1⟩ := X1.one
  obtain ⟨i0, i1, i2, -, -, -, s2⟩ := X2.three
  obtain ⟨⟨d0, d1, d2, d3, d4, d5, d6, d7, d8, d9, d10, d11⟩, s3⟩ := X3.twelve
  go_wp2_with fail
  refine (ran_go ran_3.1 ran_3.2 rfl T1.out T2.out T3.out).mono ?_
  rintro e w5 ⟨b1, e1, b2, e2, b3, e3, rfl, S1, S2, S3, F1, F2, F3, b5⟩
  have R1 : Hid _ := RanAt.put (p1 := 3) (ba1 := 5) R.out b5 S1 S2 S3 F1 F2 F3
  clear S1 S2 S3 F1 F2 F3 m0 s1 i0 i1 i2 s2 d0 d1 d2 d3 d4 d5 d6 d7 d8 d9 d10 d11 s3 T1 T2 T3
  obtain ⟨m0, m1, s1⟩ := (X1.keep b5).one
  obtain ⟨i0, i1, i2, j0, j1, j2, s2⟩ := (X2.keep b5).three
  obtain ⟨⟨d0, d1, d2, d3, d4, d5, d6, d7, d8, d9, d10, d11⟩, s3⟩ := (X3.keep b5).twelve
  have f3 := (X3.keep b5).marksAll
  have n1 : ¬ M = H := by omega
  have n2 : ¬ M = B := by omega
  have n3 : ¬ H = B := by omega
  have n4 : ¬ H = M := by omega
  have n5 : ¬ B = M := by omega
  have n6 : ¬ B = H := by omega
  clear X1 X2 X3 R b5
  go_upto_region 8 with fail
  clear m0 m1 s1 i0 i1 i2 j0 j1 j2 s2 d0 d1 d2 d3 d4 d5 d6 d7 d8 d9 d10 d11 s3 f3 n1 n2 n3 n4 n5 n6 hlo hMH hHB
  generalize (((((((((((((((((w5.setCell ⟨M, 0, none⟩ (.slice b1 512 e1)).setCell ⟨H, 0, none⟩ (.int .i64 3)).setCell ⟨H, 1, none⟩ (.slice b2 8 e2)).setCell ⟨H, 2, none⟩ (.bool false)).setCell ⟨B, 0, none⟩ (.int .i64 0)).setCell ⟨B, 1, none⟩ (.int .i64 5)).setCell ⟨B, 2, none⟩ (.slice b3 0 e3)).setCell ⟨B, 3, none⟩ (.int .i64 0)).setCell ⟨B, 4, none⟩ (.int .i64 0)).setCell ⟨B, 5, none⟩ (.int .i64 0)).setCell ⟨B, 6, none⟩ (.bool false)).setCell ⟨B, 7, none⟩ (.int .i64 0)).setCell ⟨B, 8, none⟩ (.int .i64 0)).setCell ⟨B, 9, none⟩ (.int .i64 0)).setCell ⟨B, 10, none⟩ (.int .i64 0)).setCell ⟨B, 11, none⟩ (.bool false))) = W9 at *
  have R := R1
  clear R1
  obtain ⟨W, hW⟩ : ∃ W, W9 = W := ⟨_, rfl⟩
  rw [hW] at R ⊢
  clear hW
  go_wp2_with fail
  rw [rounds_succ]
  obtain ⟨⟨a1, c1, a2, c2, a3, c3, X1, X2, X3, S1, S2, S3⟩, BB, -, -, -⟩ := R.out
  have HB : Hid (Below w.heap.size w W) := BB
  have T1 : Hid (Sl W _ rnm) := S1
  have T2 : Hid (Sl W (.slice a2 8 c2) [5, 5, 0, 0, 0, 0, 0, 0]) := S2
  have T3 : Hid (Ls W _ []) := S3
  clear S1 S2 S3 BB R
  obtain ⟨m0, -, s1⟩ := X1.one
  obtain ⟨i0, i1, i2, -, -, -, s2⟩ := X2.three
  obtain ⟨⟨d0, d1, d2, d3, d4, d5, d6, d7, d8, d9, d10, d11⟩, s3⟩ := X3.twelve
  go_wp2_with fail
  refine (ran_go ran_4.1 ran_4.2 rfl T1.out T2.out T3.out).mono ?_
  rintro e w5 ⟨b1, e1, b2, e2, b3, e3, rfl, S1, S2, S3, F1, F2, F3, b5⟩
  have T2 := T2.out.keep b5
  have HB5 : Hid (Below w.heap.size w w5) := bel_trans HB.out b5
  clear S1 S2 S3 F1 F2 F3 m0 s1 i0 i1 i2 s2 d0 d1 d2 d3 d4 d5 d6 d7 d8 d9 d10 d11 s3 T1 T3 HB
  have X2 := X2.keep b5
  have X3 := X3.keep b5
  obtain ⟨i0, i1, i2, -, -, -, s2⟩ := X2.three
  obtain ⟨⟨d0, d1, d2, d3, d4, d5, d6, d7, d8, d9, d10, d11⟩, s3⟩ := X3.twelve
  have HT2 : Hid (Sl w5 (.slice a2 8 c2) [5, 5, 0, 0, 0, 0, 0, 0]) := T2
  obtain ⟨a, c, ha, -, hh⟩ := T2
  simp only [List.length_cons, List.length_nil, Value.slice.injEq] at ha
  obtain ⟨rfl, -, rfl⟩ := ha
  rcases hh with hh | ⟨b, o, rfl, hbl, hc⟩
  · cases hh
  have g1 : w5.cell? ⟨b, o + 1, none⟩ = some (.int .i64 5) := hc 1 (by decide)
  have hb1 : b < w5.heap.size + 1 := by omega
  have hb2 : b < w5.heap.size + 1 + 1 := by omega
  have hb3 : b < w5.heap.size + 1 + 1 + 1 := by omega
  have t2 : H < w5.heap.size + 1 := by omega
  have t3 : H < w5.heap.size + 1 + 1 := by omega
  have t4 : B < w5.heap.size + 1 := by omega
  have t5 : B < w5.heap.size + 1 + 1 := by omega
  clear X1 X2 X3 hc
  go_wp2_with fail
  refine (hCheck_any 3 _ [5, 5, 0, 0, 0, 0, 0, 0] false _ (HT2.out.keep (bel_alloc (bel_alloc (bel_alloc (Below.refl _ _) _) _) _))).mono ?_
  rintro e w6 ⟨rfl, b6⟩
  rw [ran_c]
  go_wp2
  go_ret
  exact ⟨rfl, bel_trans (bel_alloc (bel_alloc (bel_alloc HB5.out _) _) _) b6⟩
end Go.Proofs.Ytfbmmiikhkmpfac
/-
  drawbridgeref's Stepped: its closure: the hart stands; nothing else has turned.
-/
namespace Go.Proofs.Ytfbmmiikhkmpfac
open Go.RowKit

/-- All blocks but one stand as they were; what was below stays so. -/
structure ButOne (w w' : World) (n : Nat) : Prop where
  box : ∀ k t cs, k ≠ n → Box w k t cs → Box w' k t cs
  bel : ∀ W : World, W.heap.size ≤ n → Below W.heap.size W w → Below W.heap.size W w'

set_option maxHeartbeats 4000000 in
theorem stands_any (n m q : Nat) (v u : Value) (p : Int) (d : Bool) (mo ba op oh ot fe fp fh ft : Int) (st lo : Bool) (vc : Value) (w : World) (hH : Box w n 35 #[.int .i64 p, u, .bool d]) (hM : Box w m 33 #[v]) (hB : Box w q 40 #[.int .i64 mo, .int .i64 ba, vc, .int .i64 op, .int .i64 oh, .int .i64 ot, .bool st, .int .i64 fe, .int .i64 fp, .int .i64 fh, .int .i64 ft, .bool lo]) (nm : n ≠ m) (nq : n ≠ q)
    (hu : ∃ a k c, u = .slice a k c) (hv : ∃ a k c, v = .slice a k c) (hc : ∃ a k c, vc = .slice a k c) :
    Calls Try.prog 41 #[.pointer (some ⟨n, 0, none⟩), .pointer (some ⟨m, 0, none⟩), .pointer (some ⟨q, 0, none⟩)] w fun e w' =>
      e = .returned (.tuple #[.agg #[v], .agg #[.int .i64 p, u, .bool true], .agg #[.int .i64 mo, .int .i64 ba, vc, .int .i64 op, .int .i64 oh, .int .i64 ot, .bool st, .int .i64 fe, .int .i64 fp, .int .i64 fh, .int .i64 ft, .bool lo]]) ∧ ButOne w w' n := by
  obtain ⟨ua, uk, uc, rfl⟩ := hu
  obtain ⟨va, vk, vcc, rfl⟩ := hv
  obtain ⟨ca, ck, cc, rfl⟩ := hc
  obtain ⟨h0, h1, h2, f0, f1, f2, s0⟩ := hH.three
  obtain ⟨m0, g0, s1⟩ := hM.one
  obtain ⟨⟨q0, q1, q2, q3, q4, q5, q6, q7, q8, q9, q10, q11⟩, s2⟩ := hB.twelve
  have s3 : n < w.heap.size + 1 := by omega
  have s4 : n < w.heap.size + 1 + 1 := by omega
  have s5 : m < w.heap.size + 1 := by omega
  have s6 : m < w.heap.size + 1 + 1 := by omega
  have s7 : q < w.heap.size + 1 := by omega
  have s8 : q < w.heap.size + 1 + 1 := by omega
  have n1 : ¬ n = m := nm
  have n2 : ¬ n = q := nq
  have n3 : ¬ m = n := fun e => nm e.symm
  have n4 : ¬ q = n := fun e => nq e.symm
  go_enter Try.func41, Try.ntmps41
  go_wp2
  go_region
  go_wp2
  refine bodyPost_ret (v := .tuple #[.agg #[.slice va vk vcc], .agg #[.int .i64 p, .slice ua uk uc, .bool true], .agg #[.int .i64 mo, .int .i64 ba, .slice ca ck cc, .int .i64 op, .int .i64 oh, .int .i64 ot, .bool st, .int .i64 fe, .int .i64 fp, .int .i64 fh, .int .i64 ft, .bool lo]]) (by simp [results, Try.results41, go_sem, *]) rfl ⟨rfl, ?_, ?_⟩
  · intro k t cs hk hb
    exact ((((hb.other (p := ⟨n, 2, none⟩) hk _).past _).past _).past _).drew
  · intro W hW hb
    exact Below.drew (bel_alloc (bel_alloc (bel_alloc (hb.setCell (p := ⟨n, 2, none⟩) hW _) _) _) _)
end Go.Proofs.Ytfbmmiikhkmpfac
/-
  drawbridgeref's Stepped: its answer where there is no instruction; nothing that was there turns.
-/
namespace Go.Proofs.Ytfbmmiikhkmpfac
open Go.RowKit

theorem own_lit {w : World} {n base : Nat} (h : n = w.heap.size) (hb : base ≤ w.heap.size) : OwnI (w.alloc (.cells #[] 3)) base (.slice (some ⟨n, 0, none⟩) 0 0) [] := by
  subst h; exact lit_row w base hb
theorem keep2H {W w' : World} {a : Nat} {u0 u1 : Value} (h0 : W.cell? ⟨a, 0, none⟩ = some u0) (h1 : W.cell? ⟨a, 1, none⟩ = some u1) (ha : a < W.heap.size) (hb : Below W.heap.size W w') :
    w'.cell? ⟨a, 0, none⟩ = some u0 ∧ w'.cell? ⟨a, 1, none⟩ = some u1 ∧ Below W.heap.size W w' := ⟨((bcell hb).1 a 0 ha).trans h0, ((bcell hb).1 a 1 ha).trans h1, hb⟩
theorem limb2H {A B C : Prop} (h : A ∧ B ∧ C) : C := h.2.2

theorem ord2 {W w7 : World} {lit : Obj} {cs : Array Value} {t : TypeId} {n c : Nat} (hgr : (((W.alloc lit).alloc (.cells cs t)).drew).grownBy w7 (Value.slice (some ⟨W.heap.size, 0, none⟩) n c).ownBlock) : Box w7 (W.heap.size + 1) t cs :=
  (hgr.block (W.heap.size + 1) (by simp) (by simp [Value.ownBlock])).trans (Box.newAt (by simp) t cs)
theorem ord3 {W w7 : World} {lit : Obj} {cs : Array Value} {t : TypeId} {n c : Nat} (hgr : (((W.alloc (.cells cs t)).alloc lit).drew).grownBy w7 (Value.slice (some ⟨W.heap.size + 1, 0, none⟩) n c).ownBlock) : Box w7 W.heap.size t cs :=
  (hgr.block W.heap.size (by simp; omega) (by simp [Value.ownBlock])).trans ((Box.newAt (w := W) rfl t cs).past lit)

theorem own_ne {w : World} {base g n c k : Nat} {cs : Array Value} {r : List Int} (h : OwnI w base (.slice (some ⟨g, 0, none⟩) n c) r) (hb : Box w k 35 cs) : g ≠ k := by
  obtain ⟨cur, _, _, hg, _⟩ := h.open
  intro e
  subst e
  unfold Box at hb
  rw [hb] at hg
  simp at hg
theorem OwnI.far3 {w : World} {base g n c m : Nat} {r : List Int} (h : OwnI w base (.slice (some ⟨g, 0, none⟩) n c) r) (hp : g ≠ m) (u0 u1 u2 : Value) :
    OwnI (((w.setCell ⟨m, 0, none⟩ u0).setCell ⟨m, 1, none⟩ u1).setCell ⟨m, 2, none⟩ u2) base (.slice (some ⟨g, 0, none⟩) n c) r :=
  h.keep fun k hk => by
    have hk' : g = k := by simpa [Value.ownBlock] using hk
    subst hk'
    rw [heap_setCell_other _ ⟨m, 2, none⟩ g u2 hp, heap_setCell_other _ ⟨m, 1, none⟩ g u1 hp, heap_setCell_other _ ⟨m, 0, none⟩ g u0 hp]
theorem next_wrap {p : Int} (h0 : 0 ≤ p) (h1 : p < 512) : (IntKind.i64.wrap (p + 1)).tmod 512 = nextP p := by
  rw [wraps_i64 _ (by omega) (by omega), Int.tmod_eq_emod_of_nonneg (by omega)]; rfl

theorem OwnI.setLow {w : World} {base m i : Nat} {v : Value} {l : List Int} (hp : m < base) (h : OwnI w base v l) (u : Value) : OwnI (w.setCell ⟨m, i, none⟩ u) base v l :=
  h.keep fun k hk => heap_setCell_other w ⟨m, i, none⟩ k u (by have := h.base k hk; show k ≠ m; omega)

theorem OwnI.far1 {w : World} {base g n c m i : Nat} {r : List Int} (h : OwnI w base (.slice (some ⟨g, 0, none⟩) n c) r) (hp : g ≠ m) (u : Value) : OwnI (w.setCell ⟨m, i, none⟩ u) base (.slice (some ⟨g, 0, none⟩) n c) r :=
  h.keep fun k hk => by
    have hk' : g = k := by simpa [Value.ownBlock] using hk
    subst hk'
    exact heap_setCell_other _ ⟨m, i, none⟩ g u hp

theorem Sl.putN12 {w : World} {v : Value} {zs : List Int} {m : Nat} (h : Sl w v zs) (hn : v.ownBlock ≠ some m) (u0 u1 u2 u3 u4 u5 u6 u7 u8 u9 u10 u11 : Value) :
    Sl ((((((((((((w.setCell ⟨m, 0, none⟩ u0).setCell ⟨m, 1, none⟩ u1).setCell ⟨m, 2, none⟩ u2).setCell ⟨m, 3, none⟩ u3).setCell ⟨m, 4, none⟩ u4).setCell ⟨m, 5, none⟩ u5).setCell ⟨m, 6, none⟩ u6).setCell ⟨m, 7, none⟩ u7).setCell ⟨m, 8, none⟩ u8).setCell ⟨m, 9, none⟩ u9).setCell ⟨m, 10, none⟩ u10).setCell ⟨m, 11, none⟩ u11) v zs :=
  Sl.setOther (p := ⟨m, 11, none⟩) (Sl.setOther (p := ⟨m, 10, none⟩) (Sl.setOther (p := ⟨m, 9, none⟩) (Sl.setOther (p := ⟨m, 8, none⟩) (Sl.setOther (p := ⟨m, 7, none⟩) (Sl.setOther (p := ⟨m, 6, none⟩) (Sl.setOther (p := ⟨m, 5, none⟩) (Sl.setOther (p := ⟨m, 4, none⟩) (Sl.setOther (p := ⟨m, 3, none⟩) (Sl.setOther (p := ⟨m, 2, none⟩) (Sl.setOther (p := ⟨m, 1, none⟩) (Sl.setOther (p := ⟨m, 0, none⟩) h hn u0) hn u1) hn u2) hn u3) hn u4) hn u5) hn u6) hn u7) hn u8) hn u9) hn u10) hn u11

/-- What a step answers. -/
abbrev StepOut (N : Nat) (zs : List Int) (h : Ht) (mo ba op oh ot fe fp fh ft : Int) (st lo : Bool) (vc : Value) (l : List Ln) (w : World) (e : Ending) (w' : World) : Prop :=
  ∃ v1 zs1 p1 u1 r1 d1 mo1 ba1 op1 ot1 fp1 fh1 st1 lo1, e = .returned (.tuple #[.agg #[v1], .agg #[.int .i64 p1, u1, .bool d1], .agg #[.int .i64 mo1, .int .i64 ba1, vc, .int .i64 op1, .int .i64 oh, .int .i64 ot1, .bool st1, .int .i64 fe, .int .i64 fp1, .int .i64 fh1, .int .i64 ft, .bool lo1]]) ∧
    Sl w' v1 zs1 ∧ Sl w' u1 r1 ∧ goS zs h ⟨mo, ba, l, op, oh, ot, st, fe, fp, fh, ft, lo⟩ = (zs1, ⟨p1, r1, d1⟩, ⟨mo1, ba1, l, op1, oh, ot1, st1, fe, fp1, fh1, ft, lo1⟩) ∧ Below N w w'

set_option maxRecDepth 10000 in
set_option maxHeartbeats 8000000 in
theorem stepped_bad (v : Value) (zs : List Int) (p : Int) (u : Value) (r : List Int) (mo ba op oh ot fe fp fh ft : Int) (st lo : Bool) (vc : Value) (l : List Ln) (w : World) (hs : Sl w v zs) (hr : Sl w u r) (h : Ls w vc l) (hE : stE zs ⟨p, r, false⟩ ⟨mo, ba, l, op, oh, ot, st, fe, fp, fh, ft, lo⟩ = 0) (hI : ¬ riE (insW zs ⟨p, r, false⟩) = 0) :
    Calls Try.prog 23 #[.agg #[v], .agg #[.int .i64 p, u, .bool false], .agg #[.int .i64 mo, .int .i64 ba, vc, .int .i64 op, .int .i64 oh, .int .i64 ot, .bool st, .int .i64 fe, .int .i64 fp, .int .i64 fh, .int .i64 ft, .bool lo]] w fun e w' => StepOut w.heap.size zs ⟨p, r, false⟩ mo ba op oh ot fe fp fh ft st lo vc l w e w':= by
  obtain ⟨hz, hh, hb, -⟩ := stE_ok hE
  obtain ⟨hr8, ⟨hp0, hp1⟩, hrw⟩ := chkH_ok hh
  dsimp only at hr8 hp0 hp1 hrw
  have HV : Hid (∃ a k c, v = .slice a k c) := let ⟨a, c, e, _⟩ := hs; ⟨a, _, c, e⟩
  have HL : Hid (Ls w vc l) := h
  obtain ⟨ca, ck, rfl, -⟩ := h
  have HM : Hid (Sl w v zs) := hs
  have HZ : Hid (chk zs = 0) := hz
  have HB : Hid (chkB ⟨mo, ba, l, op, oh, ot, st, fe, fp, fh, ft, lo⟩ = 0) := hb
  have HW : Hid (∀ i, i < 8 → 0 ≤ nth r i ∧ nth r i ≤ 65535) := hrw
  have H8 : Hid (r.length = 8) := hr8
  have HE : Hid _ := hE
  obtain ⟨b, o, cap, rfl, hbb, hcs⟩ := hs.open512 (chk_ok hz).1
  have HCS : Hid (∀ i, i < 512 → w.cell? ⟨b, o + i, none⟩ = some (.int .i64 (nth zs i))) := hcs
  obtain ⟨ra, rc, rfl, hrl, hrr⟩ := hr
  rcases hrr with e | ⟨rb, ro, rfl, hrb, hrc⟩
  · exact absurd hr8 (by rw [e]; simp)
  have HR : Hid (Sl w (.slice (some ⟨rb, ro, none⟩) 8 rc) r) := by
    show Sl _ _ _
    rw [← hr8]; exact ⟨_, rc, rfl, hrl, .inr ⟨rb, ro, rfl, hrb, hrc⟩⟩
  rw [hr8] at hrc ⊢
  have HRC : Hid (∀ i, i < 8 → w.cell? ⟨rb, ro + i, none⟩ = some (.int .i64 (nth r i))) := hrc
  have gz := hcs p.toNat (by omega)
  obtain ⟨z, hzz⟩ : ∃ z, nth zs p.toNat = z := ⟨_, rfl⟩
  rw [hzz] at gz
  have HI : Hid (insW zs ⟨p, r, false⟩ = z) := hzz
  clear hz hh hb hs hcs hrc hrw hE hzz hr8 hrl
  have t1 : b < w.heap.size + 1 := by omega
  have t2 : b < w.heap.size + 1 + 1 := by omega
  have t3 : b < w.heap.size + 1 + 1 + 1 := by omega
  have t4 : b < w.heap.size + 1 + 1 + 1 + 1 := by omega
  have t5 : b < w.heap.size + 1 + 1 + 1 + 1 + 1 := by omega
  obtain ⟨e2, hE2⟩ : ∃ e2, riE z = e2 := ⟨_, rfl⟩
  obtain ⟨k, x, y, i, hX2⟩ : ∃ k x y i, riX z = (k, x, y, i) := ⟨_, _, _, _, rfl⟩
  have HE2 : Hid _ := hE2
  have HX2 : Hid _ := hX2
  clear hE2 hX2
  go_enter Try.func23, Try.ntmps23
  go_wp2_with fail
  refine (insOf_at HE2.out HX2.out).mono ?_
  rintro e w1 ⟨rfl, b1⟩
  have X0 := ((((((Box.newAt (w := w) (n := w.heap.size) rfl 33 #[.slice (some ⟨b, o, none⟩) 512 cap]).past _).past _).past _).past _).past _).keep b1
  have X1 := (((((Box.newAt (n := w.heap.size + 1) (by simp) 35 #[.int .i64 p, .slice (some ⟨rb, ro, none⟩) 8 rc, .bool false]).past _).past _).past _).past _).keep b1
  have X2 := ((((Box.newAt (n := w.heap.size + 1 + 1) (by simp) 40 #[.int .i64 mo, .int .i64 ba, .slice ca l.length ck, .int .i64 op, .int .i64 oh, .int .i64 ot, .bool st, .int .i64 fe, .int .i64 fp, .int .i64 fh, .int .i64 ft, .bool lo]).past _).past _).past _).keep b1
  have X3 := (((Box.newAt (n := w.heap.size + 1 + 1 + 1) (by simp) 33 #[.slice none 0 0]).past _).past _).keep b1
  have X4 := ((Box.newAt (n := w.heap.size + 1 + 1 + 1 + 1) (by simp) 35 #[.int .i64 0, .slice none 0 0, .bool false]).past _).keep b1
  have X5 := (Box.newAt (n := w.heap.size + 1 + 1 + 1 + 1 + 1) (by simp) 40 #[.int .i64 0, .int .i64 0, .slice none 0 0, .int .i64 0, .int .i64 0, .int .i64 0, .bool false, .int .i64 0, .int .i64 0, .int .i64 0, .int .i64 0, .bool false]).keep b1
  have B1 : Hid (Below w.heap.size w w1) := bel_trans (bel_alloc (bel_alloc (bel_alloc (bel_alloc (bel_alloc (bel_alloc (Below.refl _ _) _) _) _) _) _) _) b1
  have z1 : w.heap.size + 1 + 1 + 1 + 1 + 1 + 1 ≤ w1.heap.size := by have := b1.size; simpa using this
  clear b1 gz t1 t2 t3 t4 t5
  have h2 : ¬ e2 = 0 := fun e => hI (by rw [HI.out, HE2.out, e])
  have hq : (e2 != 0) = true := by simpa using h2
  have HT : Hid (goS zs ⟨p, r, false⟩ ⟨mo, ba, l, op, oh, ot, st, fe, fp, fh, ft, lo⟩ = (zs, ⟨p, r, true⟩, ⟨mo, ba, l, op, oh, ot, st, fe, fp, fh, ft, lo⟩)) := by
    show _ = _
    rw [goS, HI.out, if_neg (by rw [HE2.out]; exact h2)]; rfl
  clear h2 HE2 HX2
  go_wp2_with fail
  refine (stands_any (w.heap.size + 1) w.heap.size (w.heap.size + 1 + 1) _ _ p false mo ba op oh ot fe fp fh ft st lo _ _ (X1.past _) (X0.past _) (X2.past _) (by omega) (by omega) ⟨_, _, _, rfl⟩ ⟨_, _, _, rfl⟩ ⟨_, _, _, rfl⟩).mono ?_
  rintro e w2 ⟨rfl, K⟩
  have Y3 := K.box _ _ _ (by omega) (X3.past _)
  have Y4 := K.box _ _ _ (by omega) (X4.past _)
  have Y5 := K.box _ _ _ (by omega) (X5.past _)
  have B2 : Hid (Below w.heap.size w w2) := K.bel w (by omega) (bel_alloc B1.out _)
  clear K X0 X1 X2 X3 X4 X5 B1
  obtain ⟨m0, j0, s3⟩ := Y3.one
  obtain ⟨a0, a1, a2, f0, f1, f2, s4⟩ := Y4.three
  obtain ⟨⟨q0, q1, q2, q3, q4, q5, q6, q7, q8, q9, q10, q11⟩, s5⟩ := Y5.twelve
  obtain ⟨y0, y1, y2, y3, y4, y5, y6, y7, y8, y9, y10, y11⟩ := Y5.marks
  clear Y3 Y4 Y5
  go_wp2
  refine bodyPost_ret (v := .tuple #[.agg #[.slice (some ⟨b, o, none⟩) 512 cap], .agg #[.int .i64 p, .slice (some ⟨rb, ro, none⟩) 8 rc, .bool true], .agg #[.int .i64 mo, .int .i64 ba, .slice ca l.length ck, .int .i64 op, .int .i64 oh, .int .i64 ot, .bool st, .int .i64 fe, .int .i64 fp, .int .i64 fh, .int .i64 ft, .bool lo]]) (by simp [results, Try.results23, go_sem, *]) rfl ⟨_, _, _, _, _, _, _, _, _, _, _, _, _, _, rfl, HM.out.keep ?_, HR.out.keep ?_, HT.out, ?_⟩
  all_goals (repeat (first | with_reducible exact B2.out | with_reducible refine Below.drew ?_ | with_reducible refine bel_alloc ?_ _ | (with_reducible refine bel_set12 ?_ ?_ _ _ _ _ _ _ _ _ _ _ _ _; (focus omega)) | (with_reducible refine bel_set3 ?_ ?_ _ _ _; (focus omega)) | (with_reducible refine bel_set1 ?_ ?_ _; (focus omega))))
end Go.Proofs.Ytfbmmiikhkmpfac
/-
  drawbridgeref's Stepped: kind 0; nothing that was there turns.
-/
namespace Go.Proofs.Ytfbmmiikhkmpfac
open Go.RowKit

set_option maxRecDepth 10000 in
set_option maxHeartbeats 8000000 in
theorem stepped_0 (v : Value) (zs : List Int) (p : Int) (u : Value) (r : List Int) (mo ba op oh ot fe fp fh ft : Int) (st lo : Bool) (vc : Value) (l : List Ln) (w : World) (hs : Sl w v zs) (hr : Sl w u r) (h : Ls w vc l) (hE : stE zs ⟨p, r, false⟩ ⟨mo, ba, l, op, oh, ot, st, fe, fp, fh, ft, lo⟩ = 0) (x y i : Int) (hI : riE (insW zs ⟨p, r, false⟩) = 0) (hX : riX (insW zs ⟨p, r, false⟩) = (0, x, y, i)) :
    Calls Try.prog 23 #[.agg #[v], .agg #[.int .i64 p, u, .bool false], .agg #[.int .i64 mo, .int .i64 ba, vc, .int .i64 op, .int .i64 oh, .int .i64 ot, .bool st, .int .i64 fe, .int .i64 fp, .int .i64 fh, .int .i64 ft, .bool lo]] w fun e w' => StepOut w.heap.size zs ⟨p, r, false⟩ mo ba op oh ot fe fp fh ft st lo vc l w e w' := by
  obtain ⟨hz, hh, hb, -⟩ := stE_ok hE
  obtain ⟨hr8, ⟨hp0, hp1⟩, hrw⟩ := chkH_ok hh
  dsimp only at hr8 hp0 hp1 hrw
  have HV : Hid (∃ a k c, v = .slice a k c) := let ⟨a, c, e, _⟩ := hs; ⟨a, _, c, e⟩
  have HL : Hid (Ls w vc l) := h
  obtain ⟨ca, ck, rfl, -⟩ := h
  have HM : Hid (Sl w v zs) := hs
  have HZ : Hid (chk zs = 0) := hz
  have HB : Hid (chkB ⟨mo, ba, l, op, oh, ot, st, fe, fp, fh, ft, lo⟩ = 0) := hb
  have HW : Hid (∀ i, i < 8 → 0 ≤ nth r i ∧ nth r i ≤ 65535) := hrw
  have H8 : Hid (r.length = 8) := hr8
  have HE : Hid _ := hE
  obtain ⟨b, o, cap, rfl, hbb, hcs⟩ := hs.open512 (chk_ok hz).1
  have HCS : Hid (∀ i, i < 512 → w.cell? ⟨b, o + i, none⟩ = some (.int .i64 (nth zs i))) := hcs
  obtain ⟨ra, rc, rfl, hrl, hrr⟩ := hr
  rcases hrr with e | ⟨rb, ro, rfl, hrb, hrc⟩
  · exact absurd hr8 (by rw [e]; simp)
  have HR : Hid (Sl w (.slice (some ⟨rb, ro, none⟩) 8 rc) r) := by
    show Sl _ _ _
    rw [← hr8]; exact ⟨_, rc, rfl, hrl, .inr ⟨rb, ro, rfl, hrb, hrc⟩⟩
  rw [hr8] at hrc ⊢
  have HRC : Hid (∀ i, i < 8 → w.cell? ⟨rb, ro + i, none⟩ = some (.int .i64 (nth r i))) := hrc
  have gz := hcs p.toNat (by omega)
  obtain ⟨z, hzz⟩ : ∃ z, nth zs p.toNat = z := ⟨_, rfl⟩
  rw [hzz] at gz
  have HI : Hid (insW zs ⟨p, r, false⟩ = z) := hzz
  clear hz hh hb hs hcs hrc hrw hE hzz hr8 hrl
  have t1 : b < w.heap.size + 1 := by omega
  have t2 : b < w.heap.size + 1 + 1 := by omega
  have t3 : b < w.heap.size + 1 + 1 + 1 := by omega
  have t4 : b < w.heap.size + 1 + 1 + 1 + 1 := by omega
  have t5 : b < w.heap.size + 1 + 1 + 1 + 1 + 1 := by omega
  have hE2 : riE z = 0 := by have := hI; rw [HI.out] at this; exact this
  have hX2 : riX z = (0, x, y, i) := by have := hX; rw [HI.out] at this; exact this
  have HE2 : Hid (riE z = 0) := hE2
  have HX2 : Hid (riX z = (0, x, y, i)) := hX2
  clear hI hX
  clear hE2 hX2
  go_enter Try.func23, Try.ntmps23
  go_wp2_with fail
  refine (insOf_at HE2.out HX2.out).mono ?_
  rintro e w1 ⟨rfl, b1⟩
  have X0 := ((((((Box.newAt (w := w) (n := w.heap.size) rfl 33 #[.slice (some ⟨b, o, none⟩) 512 cap]).past _).past _).past _).past _).past _).keep b1
  have X1 := (((((Box.newAt (n := w.heap.size + 1) (by simp) 35 #[.int .i64 p, .slice (some ⟨rb, ro, none⟩) 8 rc, .bool false]).past _).past _).past _).past _).keep b1
  have X2 := ((((Box.newAt (n := w.heap.size + 1 + 1) (by simp) 40 #[.int .i64 mo, .int .i64 ba, .slice ca l.length ck, .int .i64 op, .int .i64 oh, .int .i64 ot, .bool st, .int .i64 fe, .int .i64 fp, .int .i64 fh, .int .i64 ft, .bool lo]).past _).past _).past _).keep b1
  have X3 := (((Box.newAt (n := w.heap.size + 1 + 1 + 1) (by simp) 33 #[.slice none 0 0]).past _).past _).keep b1
  have X4 := ((Box.newAt (n := w.heap.size + 1 + 1 + 1 + 1) (by simp) 35 #[.int .i64 0, .slice none 0 0, .bool false]).past _).keep b1
  have X5 := (Box.newAt (n := w.heap.size + 1 + 1 + 1 + 1 + 1) (by simp) 40 #[.int .i64 0, .int .i64 0, .slice none 0 0, .int .i64 0, .int .i64 0, .int .i64 0, .bool false, .int .i64 0, .int .i64 0, .int .i64 0, .int .i64 0, .bool false]).keep b1
  have B1 : Hid (Below w.heap.size w w1) := bel_trans (bel_alloc (bel_alloc (bel_alloc (bel_alloc (bel_alloc (bel_alloc (Below.refl _ _) _) _) _) _) _) _) b1
  have z1 : w.heap.size + 1 + 1 + 1 + 1 + 1 + 1 ≤ w1.heap.size := by have := b1.size; simpa using this
  clear b1 gz t1 t2 t3 t4 t5
  have XI := Box.newAt (w := w1) (n := w1.heap.size) rfl 23 #[.int .i64 0, .int .i64 x, .int .i64 y, .int .i64 i]
  have X0 := X0.past (.cells #[.int .i64 0, .int .i64 x, .int .i64 y, .int .i64 i] 23)
  have X1 := X1.past (.cells #[.int .i64 0, .int .i64 x, .int .i64 y, .int .i64 i] 23)
  have X2 := X2.past (.cells #[.int .i64 0, .int .i64 x, .int .i64 y, .int .i64 i] 23)
  have X3 := X3.past (.cells #[.int .i64 0, .int .i64 x, .int .i64 y, .int .i64 i] 23)
  have X4 := X4.past (.cells #[.int .i64 0, .int .i64 x, .int .i64 y, .int .i64 i] 23)
  have X5 := X5.past (.cells #[.int .i64 0, .int .i64 x, .int .i64 y, .int .i64 i] 23)
  have BW : Hid (Below w.heap.size w (w1.alloc (.cells #[.int .i64 0, .int .i64 x, .int .i64 y, .int .i64 i] 23))) := bel_alloc B1.out _
  clear B1
  go_upto_region 5 with fail
  generalize hI : w1.heap.size = I at *
  generalize hW : (w1.alloc (.cells #[.int .i64 0, .int .i64 x, .int .i64 y, .int .i64 i] 23)) = W at *
  clear hW hI
  have HRW : Hid (Sl W (.slice (some ⟨rb, ro, none⟩) 8 rc) r) := HR.out.keep BW.out
  have HPN : Hid ((IntKind.i64.wrap (p + 1)).tmod 512 = nextP p) := next_wrap hp0 hp1
  have HNE : Hid (r ≠ []) := fun e => by have := H8.out; rw [e] at this; simp at this
  have HOL : Hid (OwnI (W.alloc (.cells #[] 3)) W.heap.size (.slice (some ⟨W.heap.size, 0, none⟩) 0 0) []) := own_lit rfl (Nat.le_refl _)
  have HOL2 : Hid (∀ ob : Obj, OwnI ((W.alloc ob).alloc (.cells #[] 3)) W.heap.size (.slice (some ⟨W.heap.size + 1, 0, none⟩) 0 0) []) := fun ob => own_lit (by simp) (by simp)
  obtain ⟨a0, a1, -, -, -, -, s1⟩ := X1.three
  have zI := XI.lt
  go_cut [12] from 37 to 45 (fun s wx => ∃ n g cg, s = .pointer (some ⟨n, 0, none⟩) ∧ Box wx n 35 #[.int .i64 (nextP p), .slice (some ⟨g, 0, none⟩) r.length cg, .bool false] ∧ OwnI wx W.heap.size (.slice (some ⟨g, 0, none⟩) r.length cg) r ∧ W.heap.size ≤ n ∧ Below W.heap.size W wx)
  case first =>
    go_region_held3 (fun w' => w'.cell? ⟨w.heap.size + 1, 0, none⟩ = some (.int .i64 p) ∧ w'.cell? ⟨w.heap.size + 1, 1, none⟩ = some (.slice (some ⟨rb, ro, none⟩) 8 rc) ∧ Below W.heap.size W w')
      (with_reducible refine keep2H (by assumption) (by assumption) (by assumption) ?_; (repeat (first | with_reducible assumption | (with_reducible (refine limb2H (?_ : _ ∧ _ ∧ _); assumption)) | with_reducible exact Below.refl _ _ | with_reducible refine Below.drew ?_ | with_reducible refine bel_drewN ?_ _ | with_reducible refine bel_alloc ?_ _ | with_reducible refine Below.trans ?_ (by assumption) | (with_reducible refine bel_set3 ?_ ?_ _ _ _; (focus omega)))))
      (first | (refine step_append_I rfl (.tmp 41) (.tmp 43) rfl W.heap.size (.slice (some ⟨_, 0, none⟩) 0 0) (.slice (some ⟨rb, ro, none⟩) 8 rc) [] r rfl rfl ?_ ?_ ?_ ?_ ?_ ?_; (focus ((repeat (first | with_reducible refine OwnI.drew ?_ | with_reducible exact HOL.out | with_reducible exact HOL2.out _ | with_reducible refine OwnI.alloc ?_ _)); done)); (focus (refine HRW.out.keep ?_; (repeat (first | with_reducible exact Below.refl _ _ | with_reducible refine Below.drew ?_ | with_reducible refine bel_alloc ?_ _)); done)); (focus (rw [H8.out]; simp; done)); (focus (first | (simp; done) | (simp; omega))); (focus (exact HNE.out)); intro g cg w7 hown hgr hbel hat; first | (have XN := ord2 hgr; obtain ⟨i0, i1, i2, j0, j1, j2, l9⟩ := XN.three) | (have XN := ord3 hgr; obtain ⟨i0, i1, i2, j0, j1, j2, l9⟩ := XN.three) | skip))
    all_goals (rename_i hH; have HBE := limb2H hH; clear hH)
    all_goals (go_wp2_with fail; go_meet)
    · refine ⟨_, g, cg, rfl, by rw [← HPN.out]; exact Box.newAt rfl _ _, hown.alloc _, by have := hbel.size; simp at this; omega, HBE⟩
    · refine ⟨_, g, cg, rfl, by rw [← HPN.out]; exact XN.set3 _ _ _, hown.far3 (own_ne hown XN) _ _ _, by omega, HBE⟩
    · refine ⟨_, g, cg, rfl, by rw [← HPN.out]; exact XN.set3 _ _ _, hown.far3 (own_ne hown XN) _ _ _, by omega, HBE⟩
  case rest =>
    obtain ⟨n, g, cg, rfl, XN, HO, hn, BC⟩ := hcut
    rw [H8.out] at XN
    have HO : OwnI wc W.heap.size (.slice (some ⟨g, 0, none⟩) 8 cg) r := by rw [← H8.out]; exact HO
    have X0 := X0.keep BC
    have X1 := X1.keep BC
    have X2 := X2.keep BC
    have X3 := X3.keep BC
    have X4 := X4.keep BC
    have X5 := X5.keep BC
    have XI := XI.keep BC
    have B2 : Hid (Below w.heap.size w wc) := bel_trans BW.out BC
    have HOW : Hid (OwnI wc W.heap.size (.slice (some ⟨g, 0, none⟩) 8 cg) r) := HO
    have hgn := own_ne HO XN
    have hgW := HO.base g rfl
    clear BC BW HRW HOL HOL2 HNE HPN HO
    obtain ⟨i1, i2, i3, i4, -⟩ := iE_ok (i_read HE2.out HX2.out).1
    have rx := HW.out x.toNat (by omega)
    have ry := HW.out y.toNat (by omega)
    have gx := HRC.out x.toNat (by omega)
    have gy := HRC.out y.toNat (by omega)
    obtain ⟨one, h1⟩ : ∃ one, nth r x.toNat = one := ⟨_, rfl⟩
    obtain ⟨two, h2⟩ : ∃ two, nth r y.toNat = two := ⟨_, rfl⟩
    rw [h1] at rx gx
    rw [h2] at ry gy
    rw [← B2.out.cell (p := ⟨rb, ro + x.toNat, none⟩) hrb] at gx
    rw [← B2.out.cell (p := ⟨rb, ro + y.toNat, none⟩) hrb] at gy
    have HT : Hid (goS zs ⟨p, r, false⟩ ⟨mo, ba, l, op, oh, ot, st, fe, fp, fh, ft, lo⟩ = exeI zs ⟨p, r, false⟩ ⟨mo, ba, l, op, oh, ot, st, fe, fp, fh, ft, lo⟩ 0 x y i) := by
      show _ = _
      rw [goS, HI.out, if_pos HE2.out, HX2.out]
    have HO1 : Hid (nth r x.toNat = one) := h1
    have HO2 : Hid (nth r y.toNat = two) := h2
    clear h1 h2 HE2 HX2
    clear i1
    obtain ⟨i2a, i2b⟩ := i2
    obtain ⟨i3a, i3b⟩ := i3
    obtain ⟨i4a, i4b⟩ := i4
    obtain ⟨c0, c1, c2, c3, -, -, -, -, zI2⟩ := XI.four
    clear a0 a1 s1
    obtain ⟨a0, a1, -, -, -, -, s1⟩ := X1.three
    have hrb1 : rb < wc.heap.size := by omega
    go_upto_region 6 with fail
    go_quiet (fail)
    have X0 := X0.drewN nq
    have X1 := X1.drewN nq
    have X2 := X2.drewN nq
    have X3 := X3.drewN nq
    have X4 := X4.drewN nq
    have X5 := X5.drewN nq
    have XN := XN.drewN nq
    have XI := XI.drewN nq
    have HOV : Hid (OwnI (wc.drewN nq) W.heap.size (.slice (some ⟨g, 0, none⟩) 8 cg) r) := HOW.out
    have BV : Hid (Below w.heap.size w (wc.drewN nq)) := bel_drewN B2.out nq
    have lg : g < (wc.drewN nq).heap.size := OwnI.lt HOV.out g rfl
    clear HOW B2 gx gy c0 c1 c2 c3 a0 a1 s1 zI2 hrb1
    generalize wc.drewN nq = V at *
    obtain ⟨rx0, rx1⟩ := rx
    obtain ⟨ry0, ry1⟩ := ry
    have hx9 : x < 8 := by omega
    obtain ⟨c0, c1, c2, c3, -, -, -, -, zI2⟩ := XI.four
    have HT1 : Hid (goS zs ⟨p, r, false⟩ ⟨mo, ba, l, op, oh, ot, st, fe, fp, fh, ft, lo⟩ = (zs, ⟨p, r, true⟩, ⟨mo, ba, l, op, oh, ot, st, fe, fp, fh, ft, lo⟩)) := by
      show _ = _
      rw [HT.out]; rfl
    go_wp2_with fail
    refine (stands_any (w.heap.size + 1) w.heap.size (w.heap.size + 1 + 1) _ _ p false mo ba op oh ot fe fp fh ft st lo _ _ X1 X0 X2 (by omega) (by omega) ⟨_, _, _, rfl⟩ ⟨_, _, _, rfl⟩ ⟨_, _, _, rfl⟩).mono ?_
    rintro e w2 ⟨rfl, K⟩
    have Y3 := K.box _ _ _ (by omega) X3
    have Y4 := K.box _ _ _ (by omega) X4
    have Y5 := K.box _ _ _ (by omega) X5
    have B3 : Hid (Below w.heap.size w w2) := K.bel w (by omega) BV.out
    clear K X0 X1 X2 X3 X4 X5 XN XI HOV BV
    obtain ⟨m0, j0, s3⟩ := Y3.one
    obtain ⟨a0, a1, a2, f0, f1, f2, s4⟩ := Y4.three
    obtain ⟨⟨q0, q1, q2, q3, q4, q5, q6, q7, q8, q9, q10, q11⟩, s5⟩ := Y5.twelve
    obtain ⟨y0, y1, y2, y3, y4, y5, y6, y7, y8, y9, y10, y11⟩ := Y5.marks
    clear Y3 Y4 Y5
    go_wp2
    refine bodyPost_ret (v := .tuple #[.agg #[.slice (some ⟨b, o, none⟩) 512 cap], .agg #[.int .i64 p, .slice (some ⟨rb, ro, none⟩) 8 rc, .bool true], .agg #[.int .i64 mo, .int .i64 ba, .slice ca l.length ck, .int .i64 op, .int .i64 oh, .int .i64 ot, .bool st, .int .i64 fe, .int .i64 fp, .int .i64 fh, .int .i64 ft, .bool lo]]) (by simp [results, Try.results23, go_sem, *]) rfl ⟨_, _, _, _, _, _, _, _, _, _, _, _, _, _, rfl, HM.out.keep ?_, HR.out.keep ?_, HT1.out, ?_⟩
    all_goals (repeat (first | with_reducible exact B3.out | with_reducible refine Below.drew ?_ | with_reducible refine bel_alloc ?_ _ | (with_reducible refine bel_set12 ?_ ?_ _ _ _ _ _ _ _ _ _ _ _ _; (focus omega)) | (with_reducible refine bel_set3 ?_ ?_ _ _ _; (focus omega)) | (with_reducible refine bel_set1 ?_ ?_ _; (focus omega))))
end Go.Proofs.Ytfbmmiikhkmpfac
/-
  drawbridgeref's Stepped: kind 1; nothing that was there turns.
-/
namespace Go.Proofs.Ytfbmmiikhkmpfac
open Go.RowKit

set_option maxRecDepth 10000 in
set_option maxHeartbeats 8000000 in
theorem stepped_1 (v : Value) (zs : List Int) (p : Int) (u : Value) (r : List Int) (mo ba op oh ot fe fp fh ft : Int) (st lo : Bool) (vc : Value) (l : List Ln) (w : World) (hs : Sl w v zs) (hr : Sl w u r) (h : Ls w vc l) (hE : stE zs ⟨p, r, false⟩ ⟨mo, ba, l, op, oh, ot, st, fe, fp, fh, ft, lo⟩ = 0) (x y i : Int) (hI : riE (insW zs ⟨p, r, false⟩) = 0) (hX : riX (insW zs ⟨p, r, false⟩) = (1, x, y, i)) :
    Calls Try.prog 23 #[.agg #[v], .agg #[.int .i64 p, u, .bool false], .agg #[.int .i64 mo, .int .i64 ba, vc, .int .i64 op, .int .i64 oh, .int .i64 ot, .bool st, .int .i64 fe, .int .i64 fp, .int .i64 fh, .int .i64 ft, .bool lo]] w fun e w' => StepOut w.heap.size zs ⟨p, r, false⟩ mo ba op oh ot fe fp fh ft st lo vc l w e w' := by
  obtain ⟨hz, hh, hb, -⟩ := stE_ok hE
  obtain ⟨hr8, ⟨hp0, hp1⟩, hrw⟩ := chkH_ok hh
  dsimp only at hr8 hp0 hp1 hrw
  have HV : Hid (∃ a k c, v = .slice a k c) := let ⟨a, c, e, _⟩ := hs; ⟨a, _, c, e⟩
  have HL : Hid (Ls w vc l) := h
  obtain ⟨ca, ck, rfl, -⟩ := h
  have HM : Hid (Sl w v zs) := hs
  have HZ : Hid (chk zs = 0) := hz
  have HB : Hid (chkB ⟨mo, ba, l, op, oh, ot, st, fe, fp, fh, ft, lo⟩ = 0) := hb
  have HW : Hid (∀ i, i < 8 → 0 ≤ nth r i ∧ nth r i ≤ 65535) := hrw
  have H8 : Hid (r.length = 8) := hr8
  have HE : Hid _ := hE
  obtain ⟨b, o, cap, rfl, hbb, hcs⟩ := hs.open512 (chk_ok hz).1
  have HCS : Hid (∀ i, i < 512 → w.cell? ⟨b, o + i, none⟩ = some (.int .i64 (nth zs i))) := hcs
  obtain ⟨ra, rc, rfl, hrl, hrr⟩ := hr
  rcases hrr with e | ⟨rb, ro, rfl, hrb, hrc⟩
  · exact absurd hr8 (by rw [e]; simp)
  have HR : Hid (Sl w (.slice (some ⟨rb, ro, none⟩) 8 rc) r) := by
    show Sl _ _ _
    rw [← hr8]; exact ⟨_, rc, rfl, hrl, .inr ⟨rb, ro, rfl, hrb, hrc⟩⟩
  rw [hr8] at hrc ⊢
  have HRC : Hid (∀ i, i < 8 → w.cell? ⟨rb, ro + i, none⟩ = some (.int .i64 (nth r i))) := hrc
  have gz := hcs p.toNat (by omega)
  obtain ⟨z, hzz⟩ : ∃ z, nth zs p.toNat = z := ⟨_, rfl⟩
  rw [hzz] at gz
  have HI : Hid (insW zs ⟨p, r, false⟩ = z) := hzz
  clear hz hh hb hs hcs hrc hrw hE hzz hr8 hrl
  have t1 : b < w.heap.size + 1 := by omega
  have t2 : b < w.heap.size + 1 + 1 := by omega
  have t3 : b < w.heap.size + 1 + 1 + 1 := by omega
  have t4 : b < w.heap.size + 1 + 1 + 1 + 1 := by omega
  have t5 : b < w.heap.size + 1 + 1 + 1 + 1 + 1 := by omega
  have hE2 : riE z = 0 := by have := hI; rw [HI.out] at this; exact this
  have hX2 : riX z = (1, x, y, i) := by have := hX; rw [HI.out] at this; exact this
  have HE2 : Hid (riE z = 0) := hE2
  have HX2 : Hid (riX z = (1, x, y, i)) := hX2
  clear hI hX
  clear hE2 hX2
  go_enter Try.func23, Try.ntmps23
  go_wp2_with fail
  refine (insOf_at HE2.out HX2.out).mono ?_
  rintro e w1 ⟨rfl, b1⟩
  have X0 := ((((((Box.newAt (w := w) (n := w.heap.size) rfl 33 #[.slice (some ⟨b, o, none⟩) 512 cap]).past _).past _).past _).past _).past _).keep b1
  have X1 := (((((Box.newAt (n := w.heap.size + 1) (by simp) 35 #[.int .i64 p, .slice (some ⟨rb, ro, none⟩) 8 rc, .bool false]).past _).past _).past _).past _).keep b1
  have X2 := ((((Box.newAt (n := w.heap.size + 1 + 1) (by simp) 40 #[.int .i64 mo, .int .i64 ba, .slice ca l.length ck, .int .i64 op, .int .i64 oh, .int .i64 ot, .bool st, .int .i64 fe, .int .i64 fp, .int .i64 fh, .int .i64 ft, .bool lo]).past _).past _).past _).keep b1
  have X3 := (((Box.newAt (n := w.heap.size + 1 + 1 + 1) (by simp) 33 #[.slice none 0 0]).past _).past _).keep b1
  have X4 := ((Box.newAt (n := w.heap.size + 1 + 1 + 1 + 1) (by simp) 35 #[.int .i64 0, .slice none 0 0, .bool false]).past _).keep b1
  have X5 := (Box.newAt (n := w.heap.size + 1 + 1 + 1 + 1 + 1) (by simp) 40 #[.int .i64 0, .int .i64 0, .slice none 0 0, .int .i64 0, .int .i64 0, .int .i64 0, .bool false, .int .i64 0, .int .i64 0, .int .i64 0, .int .i64 0, .bool false]).keep b1
  have B1 : Hid (Below w.heap.size w w1) := bel_trans (bel_alloc (bel_alloc (bel_alloc (bel_alloc (bel_alloc (bel_alloc (Below.refl _ _) _) _) _) _) _) _) b1
  have z1 : w.heap.size + 1 + 1 + 1 + 1 + 1 + 1 ≤ w1.heap.size := by have := b1.size; simpa using this
  clear b1 gz t1 t2 t3 t4 t5
  have XI := Box.newAt (w := w1) (n := w1.heap.size) rfl 23 #[.int .i64 1, .int .i64 x, .int .i64 y, .int .i64 i]
  have X0 := X0.past (.cells #[.int .i64 1, .int .i64 x, .int .i64 y, .int .i64 i] 23)
  have X1 := X1.past (.cells #[.int .i64 1, .int .i64 x, .int .i64 y, .int .i64 i] 23)
  have X2 := X2.past (.cells #[.int .i64 1, .int .i64 x, .int .i64 y, .int .i64 i] 23)
  have X3 := X3.past (.cells #[.int .i64 1, .int .i64 x, .int .i64 y, .int .i64 i] 23)
  have X4 := X4.past (.cells #[.int .i64 1, .int .i64 x, .int .i64 y, .int .i64 i] 23)
  have X5 := X5.past (.cells #[.int .i64 1, .int .i64 x, .int .i64 y, .int .i64 i] 23)
  have BW : Hid (Below w.heap.size w (w1.alloc (.cells #[.int .i64 1, .int .i64 x, .int .i64 y, .int .i64 i] 23))) := bel_alloc B1.out _
  clear B1
  go_upto_region 5 with fail
  generalize hI : w1.heap.size = I at *
  generalize hW : (w1.alloc (.cells #[.int .i64 1, .int .i64 x, .int .i64 y, .int .i64 i] 23)) = W at *
  clear hW hI
  have HRW : Hid (Sl W (.slice (some ⟨rb, ro, none⟩) 8 rc) r) := HR.out.keep BW.out
  have HPN : Hid ((IntKind.i64.wrap (p + 1)).tmod 512 = nextP p) := next_wrap hp0 hp1
  have HNE : Hid (r ≠ []) := fun e => by have := H8.out; rw [e] at this; simp at this
  have HOL : Hid (OwnI (W.alloc (.cells #[] 3)) W.heap.size (.slice (some ⟨W.heap.size, 0, none⟩) 0 0) []) := own_lit rfl (Nat.le_refl _)
  have HOL2 : Hid (∀ ob : Obj, OwnI ((W.alloc ob).alloc (.cells #[] 3)) W.heap.size (.slice (some ⟨W.heap.size + 1, 0, none⟩) 0 0) []) := fun ob => own_lit (by simp) (by simp)
  obtain ⟨a0, a1, -, -, -, -, s1⟩ := X1.three
  have zI := XI.lt
  go_cut [12] from 37 to 45 (fun s wx => ∃ n g cg, s = .pointer (some ⟨n, 0, none⟩) ∧ Box wx n 35 #[.int .i64 (nextP p), .slice (some ⟨g, 0, none⟩) r.length cg, .bool false] ∧ OwnI wx W.heap.size (.slice (some ⟨g, 0, none⟩) r.length cg) r ∧ W.heap.size ≤ n ∧ Below W.heap.size W wx)
  case first =>
    go_region_held3 (fun w' => w'.cell? ⟨w.heap.size + 1, 0, none⟩ = some (.int .i64 p) ∧ w'.cell? ⟨w.heap.size + 1, 1, none⟩ = some (.slice (some ⟨rb, ro, none⟩) 8 rc) ∧ Below W.heap.size W w')
      (with_reducible refine keep2H (by assumption) (by assumption) (by assumption) ?_; (repeat (first | with_reducible assumption | (with_reducible (refine limb2H (?_ : _ ∧ _ ∧ _); assumption)) | with_reducible exact Below.refl _ _ | with_reducible refine Below.drew ?_ | with_reducible refine bel_drewN ?_ _ | with_reducible refine bel_alloc ?_ _ | with_reducible refine Below.trans ?_ (by assumption) | (with_reducible refine bel_set3 ?_ ?_ _ _ _; (focus omega)))))
      (first | (refine step_append_I rfl (.tmp 41) (.tmp 43) rfl W.heap.size (.slice (some ⟨_, 0, none⟩) 0 0) (.slice (some ⟨rb, ro, none⟩) 8 rc) [] r rfl rfl ?_ ?_ ?_ ?_ ?_ ?_; (focus ((repeat (first | with_reducible refine OwnI.drew ?_ | with_reducible exact HOL.out | with_reducible exact HOL2.out _ | with_reducible refine OwnI.alloc ?_ _)); done)); (focus (refine HRW.out.keep ?_; (repeat (first | with_reducible exact Below.refl _ _ | with_reducible refine Below.drew ?_ | with_reducible refine bel_alloc ?_ _)); done)); (focus (rw [H8.out]; simp; done)); (focus (first | (simp; done) | (simp; omega))); (focus (exact HNE.out)); intro g cg w7 hown hgr hbel hat; first | (have XN := ord2 hgr; obtain ⟨i0, i1, i2, j0, j1, j2, l9⟩ := XN.three) | (have XN := ord3 hgr; obtain ⟨i0, i1, i2, j0, j1, j2, l9⟩ := XN.three) | skip))
    all_goals (rename_i hH; have HBE := limb2H hH; clear hH)
    all_goals (go_wp2_with fail; go_meet)
    · refine ⟨_, g, cg, rfl, by rw [← HPN.out]; exact Box.newAt rfl _ _, hown.alloc _, by have := hbel.size; simp at this; omega, HBE⟩
    · refine ⟨_, g, cg, rfl, by rw [← HPN.out]; exact XN.set3 _ _ _, hown.far3 (own_ne hown XN) _ _ _, by omega, HBE⟩
    · refine ⟨_, g, cg, rfl, by rw [← HPN.out]; exact XN.set3 _ _ _, hown.far3 (own_ne hown XN) _ _ _, by omega, HBE⟩
  case rest =>
    obtain ⟨n, g, cg, rfl, XN, HO, hn, BC⟩ := hcut
    rw [H8.out] at XN
    have HO : OwnI wc W.heap.size (.slice (some ⟨g, 0, none⟩) 8 cg) r := by rw [← H8.out]; exact HO
    have X0 := X0.keep BC
    have X1 := X1.keep BC
    have X2 := X2.keep BC
    have X3 := X3.keep BC
    have X4 := X4.keep BC
    have X5 := X5.keep BC
    have XI := XI.keep BC
    have B2 : Hid (Below w.heap.size w wc) := bel_trans BW.out BC
    have HOW : Hid (OwnI wc W.heap.size (.slice (some ⟨g, 0, none⟩) 8 cg) r) := HO
    have hgn := own_ne HO XN
    have hgW := HO.base g rfl
    clear BC BW HRW HOL HOL2 HNE HPN HO
    obtain ⟨i1, i2, i3, i4, -⟩ := iE_ok (i_read HE2.out HX2.out).1
    have rx := HW.out x.toNat (by omega)
    have ry := HW.out y.toNat (by omega)
    have gx := HRC.out x.toNat (by omega)
    have gy := HRC.out y.toNat (by omega)
    obtain ⟨one, h1⟩ : ∃ one, nth r x.toNat = one := ⟨_, rfl⟩
    obtain ⟨two, h2⟩ : ∃ two, nth r y.toNat = two := ⟨_, rfl⟩
    rw [h1] at rx gx
    rw [h2] at ry gy
    rw [← B2.out.cell (p := ⟨rb, ro + x.toNat, none⟩) hrb] at gx
    rw [← B2.out.cell (p := ⟨rb, ro + y.toNat, none⟩) hrb] at gy
    have HT : Hid (goS zs ⟨p, r, false⟩ ⟨mo, ba, l, op, oh, ot, st, fe, fp, fh, ft, lo⟩ = exeI zs ⟨p, r, false⟩ ⟨mo, ba, l, op, oh, ot, st, fe, fp, fh, ft, lo⟩ 1 x y i) := by
      show _ = _
      rw [goS, HI.out, if_pos HE2.out, HX2.out]
    have HO1 : Hid (nth r x.toNat = one) := h1
    have HO2 : Hid (nth r y.toNat = two) := h2
    clear h1 h2 HE2 HX2
    clear i1
    obtain ⟨i2a, i2b⟩ := i2
    obtain ⟨i3a, i3b⟩ := i3
    obtain ⟨i4a, i4b⟩ := i4
    obtain ⟨c0, c1, c2, c3, -, -, -, -, zI2⟩ := XI.four
    clear a0 a1 s1
    obtain ⟨a0, a1, -, -, -, -, s1⟩ := X1.three
    have hrb1 : rb < wc.heap.size := by omega
    go_upto_region 6 with fail
    go_quiet (fail)
    have X0 := X0.drewN nq
    have X1 := X1.drewN nq
    have X2 := X2.drewN nq
    have X3 := X3.drewN nq
    have X4 := X4.drewN nq
    have X5 := X5.drewN nq
    have XN := XN.drewN nq
    have XI := XI.drewN nq
    have HOV : Hid (OwnI (wc.drewN nq) W.heap.size (.slice (some ⟨g, 0, none⟩) 8 cg) r) := HOW.out
    have BV : Hid (Below w.heap.size w (wc.drewN nq)) := bel_drewN B2.out nq
    have lg : g < (wc.drewN nq).heap.size := OwnI.lt HOV.out g rfl
    clear HOW B2 gx gy c0 c1 c2 c3 a0 a1 s1 zI2 hrb1
    generalize wc.drewN nq = V at *
    obtain ⟨rx0, rx1⟩ := rx
    obtain ⟨ry0, ry1⟩ := ry
    have hx9 : x < 8 := by omega
    have HT1 : Hid (goS zs ⟨p, r, false⟩ ⟨mo, ba, l, op, oh, ot, st, fe, fp, fh, ft, lo⟩ = (zs, ⟨nextP p, r.set x.toNat i, false⟩, ⟨mo, ba, l, op, oh, ot, st, fe, fp, fh, ft, lo⟩)) := by
      show _ = _
      rw [HT.out, exeI, if_pos rfl]
    obtain ⟨m0, m1, m2, n0, n1, n2, zN⟩ := XN.three
    obtain ⟨c0, c1, c2, c3, -, -, -, -, zI2⟩ := XI.four
    have q1 := OwnI.cellAt HOV.out (i := x.toNat) (by rw [H8.out]; omega)
    have q2 := OwnI.frozenAt HOV.out x.toNat
    go_upto_region 63 with fail
    have X0 := X0.other (p := ⟨g, x.toNat, none⟩) (by show w.heap.size ≠ g; omega) (.int .i64 i)
    have X1 := X1.other (p := ⟨g, x.toNat, none⟩) (by show w.heap.size + 1 ≠ g; omega) (.int .i64 i)
    have X2 := X2.other (p := ⟨g, x.toNat, none⟩) (by show w.heap.size + 1 + 1 ≠ g; omega) (.int .i64 i)
    have X3 := X3.other (p := ⟨g, x.toNat, none⟩) (by show w.heap.size + 1 + 1 + 1 ≠ g; omega) (.int .i64 i)
    have X4 := X4.other (p := ⟨g, x.toNat, none⟩) (by show w.heap.size + 1 + 1 + 1 + 1 ≠ g; omega) (.int .i64 i)
    have X5 := X5.other (p := ⟨g, x.toNat, none⟩) (by show w.heap.size + 1 + 1 + 1 + 1 + 1 ≠ g; omega) (.int .i64 i)
    have XN := XN.other (p := ⟨g, x.toNat, none⟩) (by show n ≠ g; omega) (.int .i64 i)
    have HOV : Hid (OwnI (V.setCell ⟨g, x.toNat, none⟩ (.int .i64 i)) W.heap.size (.slice (some ⟨g, 0, none⟩) 8 cg) (r.set x.toNat i)) := OwnI.setAt HOV.out x.toNat i
    have BV : Hid (Below w.heap.size w (V.setCell ⟨g, x.toNat, none⟩ (.int .i64 i))) := BV.out.setCell (p := ⟨g, x.toNat, none⟩) (by show w.heap.size ≤ g; omega) (.int .i64 i)
    clear m0 m1 m2 n0 n1 n2 zN c0 c1 c2 c3 zI2 q1 q2
    generalize (V.setCell ⟨g, x.toNat, none⟩ (.int .i64 i)) = V2 at *
    have B3 := BV
    have ZO := HOV
    clear BV HOV
    obtain ⟨m0, -, s0⟩ := X0.one
    obtain ⟨n0, n1, n2, -, -, -, zN⟩ := XN.three
    obtain ⟨⟨d0, d1, d2, d3, d4, d5, d6, d7, d8, d9, d10, d11⟩, s2⟩ := X2.twelve
    obtain ⟨a3, j3, s3⟩ := X3.one
    obtain ⟨a0, a1, a2, f0, f1, f2, s4⟩ := X4.three
    obtain ⟨⟨q0, q1, q2, q3, q4, q5, q6, q7, q8, q9, q10, q11⟩, s5⟩ := X5.twelve
    obtain ⟨y0, y1, y2, y3, y4, y5, y6, y7, y8, y9, y10, y11⟩ := X5.marks
    clear X0 X1 X2 X3 X4 X5 XN XI
    have e1 : ¬ n = w.heap.size + 1 + 1 + 1 := by omega
    have e2 : ¬ n = w.heap.size + 1 + 1 + 1 + 1 := by omega
    have e3 : ¬ n = w.heap.size + 1 + 1 + 1 + 1 + 1 := by omega
    go_region
    go_wp2
    refine bodyPost_ret (v := .tuple #[.agg #[.slice (some ⟨b, o, none⟩) 512 cap], .agg #[.int .i64 (nextP p), .slice (some ⟨g, 0, none⟩) 8 cg, .bool false], .agg #[.int .i64 mo, .int .i64 ba, .slice ca l.length ck, .int .i64 op, .int .i64 oh, .int .i64 ot, .bool st, .int .i64 fe, .int .i64 fp, .int .i64 fh, .int .i64 ft, .bool lo]]) (by simp [results, Try.results23, go_sem, *]) rfl ⟨_, _, _, _, _, _, _, _, _, _, _, _, _, _, rfl, HM.out.keep ?_, OwnI.sl (base := W.heap.size) ?_ (by rw [List.length_set, H8.out]; simp [maxLen]), HT1.out, ?_⟩
    rotate_left
    · repeat (first | with_reducible exact ZO.out | with_reducible refine OwnI.drew ?_ | with_reducible refine OwnI.alloc ?_ _ | (with_reducible refine OwnI.setLow ?_ ?_ _; (focus omega)))
    all_goals (repeat (first | with_reducible exact B3.out | with_reducible refine Below.drew ?_ | with_reducible refine bel_alloc ?_ _ | (with_reducible refine bel_set12 ?_ ?_ _ _ _ _ _ _ _ _ _ _ _ _; (focus omega)) | (with_reducible refine bel_set3 ?_ ?_ _ _ _; (focus omega)) | (with_reducible refine bel_set1 ?_ ?_ _; (focus omega))))
end Go.Proofs.Ytfbmmiikhkmpfac
/-
  drawbridgeref's Stepped: kind 2; nothing that was there turns.
-/
namespace Go.Proofs.Ytfbmmiikhkmpfac
open Go.RowKit

set_option maxRecDepth 10000 in
set_option maxHeartbeats 8000000 in
theorem stepped_2 (v : Value) (zs : List Int) (p : Int) (u : Value) (r : List Int) (mo ba op oh ot fe fp fh ft : Int) (st lo : Bool) (vc : Value) (l : List Ln) (w : World) (hs : Sl w v zs) (hr : Sl w u r) (h : Ls w vc l) (hE : stE zs ⟨p, r, false⟩ ⟨mo, ba, l, op, oh, ot, st, fe, fp, fh, ft, lo⟩ = 0) (x y i : Int) (hI : riE (insW zs ⟨p, r, false⟩) = 0) (hX : riX (insW zs ⟨p, r, false⟩) = (2, x, y, i)) :
    Calls Try.prog 23 #[.agg #[v], .agg #[.int .i64 p, u, .bool false], .agg #[.int .i64 mo, .int .i64 ba, vc, .int .i64 op, .int .i64 oh, .int .i64 ot, .bool st, .int .i64 fe, .int .i64 fp, .int .i64 fh, .int .i64 ft, .bool lo]] w fun e w' => StepOut w.heap.size zs ⟨p, r, false⟩ mo ba op oh ot fe fp fh ft st lo vc l w e w' := by
  obtain ⟨hz, hh, hb, -⟩ := stE_ok hE
  obtain ⟨hr8, ⟨hp0, hp1⟩, hrw⟩ := chkH_ok hh
  dsimp only at hr8 hp0 hp1 hrw
  have HV : Hid (∃ a k c, v = .slice a k c) := let ⟨a, c, e, _⟩ := hs; ⟨a, _, c, e⟩
  have HL : Hid (Ls w vc l) := h
  obtain ⟨ca, ck, rfl, -⟩ := h
  have HM : Hid (Sl w v zs) := hs
  have HZ : Hid (chk zs = 0) := hz
  have HB : Hid (chkB ⟨mo, ba, l, op, oh, ot, st, fe, fp, fh, ft, lo⟩ = 0) := hb
  have HW : Hid (∀ i, i < 8 → 0 ≤ nth r i ∧ nth r i ≤ 65535) := hrw
  have H8 : Hid (r.length = 8) := hr8
  have HE : Hid _ := hE
  obtain ⟨b, o, cap, rfl, hbb, hcs⟩ := hs.open512 (chk_ok hz).1
  have HCS : Hid (∀ i, i < 512 → w.cell? ⟨b, o + i, none⟩ = some (.int .i64 (nth zs i))) := hcs
  obtain ⟨ra, rc, rfl, hrl, hrr⟩ := hr
  rcases hrr with e | ⟨rb, ro, rfl, hrb, hrc⟩
  · exact absurd hr8 (by rw [e]; simp)
  have HR : Hid (Sl w (.slice (some ⟨rb, ro, none⟩) 8 rc) r) := by
    show Sl _ _ _
    rw [← hr8]; exact ⟨_, rc, rfl, hrl, .inr ⟨rb, ro, rfl, hrb, hrc⟩⟩
  rw [hr8] at hrc ⊢
  have HRC : Hid (∀ i, i < 8 → w.cell? ⟨rb, ro + i, none⟩ = some (.int .i64 (nth r i))) := hrc
  have gz := hcs p.toNat (by omega)
  obtain ⟨z, hzz⟩ : ∃ z, nth zs p.toNat = z := ⟨_, rfl⟩
  rw [hzz] at gz
  have HI : Hid (insW zs ⟨p, r, false⟩ = z) := hzz
  clear hz hh hb hs hcs hrc hrw hE hzz hr8 hrl
  have t1 : b < w.heap.size + 1 := by omega
  have t2 : b < w.heap.size + 1 + 1 := by omega
  have t3 : b < w.heap.size + 1 + 1 + 1 := by omega
  have t4 : b < w.heap.size + 1 + 1 + 1 + 1 := by omega
  have t5 : b < w.heap.size + 1 + 1 + 1 + 1 + 1 := by omega
  have hE2 : riE z = 0 := by have := hI; rw [HI.out] at this; exact this
  have hX2 : riX z = (2, x, y, i) := by have := hX; rw [HI.out] at this; exact this
  have HE2 : Hid (riE z = 0) := hE2
  have HX2 : Hid (riX z = (2, x, y, i)) := hX2
  clear hI hX
  clear hE2 hX2
  go_enter Try.func23, Try.ntmps23
  go_wp2_with fail
  refine (insOf_at HE2.out HX2.out).mono ?_
  rintro e w1 ⟨rfl, b1⟩
  have X0 := ((((((Box.newAt (w := w) (n := w.heap.size) rfl 33 #[.slice (some ⟨b, o, none⟩) 512 cap]).past _).past _).past _).past _).past _).keep b1
  have X1 := (((((Box.newAt (n := w.heap.size + 1) (by simp) 35 #[.int .i64 p, .slice (some ⟨rb, ro, none⟩) 8 rc, .bool false]).past _).past _).past _).past _).keep b1
  have X2 := ((((Box.newAt (n := w.heap.size + 1 + 1) (by simp) 40 #[.int .i64 mo, .int .i64 ba, .slice ca l.length ck, .int .i64 op, .int .i64 oh, .int .i64 ot, .bool st, .int .i64 fe, .int .i64 fp, .int .i64 fh, .int .i64 ft, .bool lo]).past _).past _).past _).keep b1
  have X3 := (((Box.newAt (n := w.heap.size + 1 + 1 + 1) (by simp) 33 #[.slice none 0 0]).past _).past _).keep b1
  have X4 := ((Box.newAt (n := w.heap.size + 1 + 1 + 1 + 1) (by simp) 35 #[.int .i64 0, .slice none 0 0, .bool false]).past _).keep b1
  have X5 := (Box.newAt (n := w.heap.size + 1 + 1 + 1 + 1 + 1) (by simp) 40 #[.int .i64 0, .int .i64 0, .slice none 0 0, .int .i64 0, .int .i64 0, .int .i64 0, .bool false, .int .i64 0, .int .i64 0, .int .i64 0, .int .i64 0, .bool false]).keep b1
  have B1 : Hid (Below w.heap.size w w1) := bel_trans (bel_alloc (bel_alloc (bel_alloc (bel_alloc (bel_alloc (bel_alloc (Below.refl _ _) _) _) _) _) _) _) b1
  have z1 : w.heap.size + 1 + 1 + 1 + 1 + 1 + 1 ≤ w1.heap.size := by have := b1.size; simpa using this
  clear b1 gz t1 t2 t3 t4 t5
  have XI := Box.newAt (w := w1) (n := w1.heap.size) rfl 23 #[.int .i64 2, .int .i64 x, .int .i64 y, .int .i64 i]
  have X0 := X0.past (.cells #[.int .i64 2, .int .i64 x, .int .i64 y, .int .i64 i] 23)
  have X1 := X1.past (.cells #[.int .i64 2, .int .i64 x, .int .i64 y, .int .i64 i] 23)
  have X2 := X2.past (.cells #[.int .i64 2, .int .i64 x, .int .i64 y, .int .i64 i] 23)
  have X3 := X3.past (.cells #[.int .i64 2, .int .i64 x, .int .i64 y, .int .i64 i] 23)
  have X4 := X4.past (.cells #[.int .i64 2, .int .i64 x, .int .i64 y, .int .i64 i] 23)
  have X5 := X5.past (.cells #[.int .i64 2, .int .i64 x, .int .i64 y, .int .i64 i] 23)
  have BW : Hid (Below w.heap.size w (w1.alloc (.cells #[.int .i64 2, .int .i64 x, .int .i64 y, .int .i64 i] 23))) := bel_alloc B1.out _
  clear B1
  go_upto_region 5 with fail
  generalize hI : w1.heap.size = I at *
  generalize hW : (w1.alloc (.cells #[.int .i64 2, .int .i64 x, .int .i64 y, .int .i64 i] 23)) = W at *
  clear hW hI
  have HRW : Hid (Sl W (.slice (some ⟨rb, ro, none⟩) 8 rc) r) := HR.out.keep BW.out
  have HPN : Hid ((IntKind.i64.wrap (p + 1)).tmod 512 = nextP p) := next_wrap hp0 hp1
  have HNE : Hid (r ≠ []) := fun e => by have := H8.out; rw [e] at this; simp at this
  have HOL : Hid (OwnI (W.alloc (.cells #[] 3)) W.heap.size (.slice (some ⟨W.heap.size, 0, none⟩) 0 0) []) := own_lit rfl (Nat.le_refl _)
  have HOL2 : Hid (∀ ob : Obj, OwnI ((W.alloc ob).alloc (.cells #[] 3)) W.heap.size (.slice (some ⟨W.heap.size + 1, 0, none⟩) 0 0) []) := fun ob => own_lit (by simp) (by simp)
  obtain ⟨a0, a1, -, -, -, -, s1⟩ := X1.three
  have zI := XI.lt
  go_cut [12] from 37 to 45 (fun s wx => ∃ n g cg, s = .pointer (some ⟨n, 0, none⟩) ∧ Box wx n 35 #[.int .i64 (nextP p), .slice (some ⟨g, 0, none⟩) r.length cg, .bool false] ∧ OwnI wx W.heap.size (.slice (some ⟨g, 0, none⟩) r.length cg) r ∧ W.heap.size ≤ n ∧ Below W.heap.size W wx)
  case first =>
    go_region_held3 (fun w' => w'.cell? ⟨w.heap.size + 1, 0, none⟩ = some (.int .i64 p) ∧ w'.cell? ⟨w.heap.size + 1, 1, none⟩ = some (.slice (some ⟨rb, ro, none⟩) 8 rc) ∧ Below W.heap.size W w')
      (with_reducible refine keep2H (by assumption) (by assumption) (by assumption) ?_; (repeat (first | with_reducible assumption | (with_reducible (refine limb2H (?_ : _ ∧ _ ∧ _); assumption)) | with_reducible exact Below.refl _ _ | with_reducible refine Below.drew ?_ | with_reducible refine bel_drewN ?_ _ | with_reducible refine bel_alloc ?_ _ | with_reducible refine Below.trans ?_ (by assumption) | (with_reducible refine bel_set3 ?_ ?_ _ _ _; (focus omega)))))
      (first | (refine step_append_I rfl (.tmp 41) (.tmp 43) rfl W.heap.size (.slice (some ⟨_, 0, none⟩) 0 0) (.slice (some ⟨rb, ro, none⟩) 8 rc) [] r rfl rfl ?_ ?_ ?_ ?_ ?_ ?_; (focus ((repeat (first | with_reducible refine OwnI.drew ?_ | with_reducible exact HOL.out | with_reducible exact HOL2.out _ | with_reducible refine OwnI.alloc ?_ _)); done)); (focus (refine HRW.out.keep ?_; (repeat (first | with_reducible exact Below.refl _ _ | with_reducible refine Below.drew ?_ | with_reducible refine bel_alloc ?_ _)); done)); (focus (rw [H8.out]; simp; done)); (focus (first | (simp; done) | (simp; omega))); (focus (exact HNE.out)); intro g cg w7 hown hgr hbel hat; first | (have XN := ord2 hgr; obtain ⟨i0, i1, i2, j0, j1, j2, l9⟩ := XN.three) | (have XN := ord3 hgr; obtain ⟨i0, i1, i2, j0, j1, j2, l9⟩ := XN.three) | skip))
    all_goals (rename_i hH; have HBE := limb2H hH; clear hH)
    all_goals (go_wp2_with fail; go_meet)
    · refine ⟨_, g, cg, rfl, by rw [← HPN.out]; exact Box.newAt rfl _ _, hown.alloc _, by have := hbel.size; simp at this; omega, HBE⟩
    · refine ⟨_, g, cg, rfl, by rw [← HPN.out]; exact XN.set3 _ _ _, hown.far3 (own_ne hown XN) _ _ _, by omega, HBE⟩
    · refine ⟨_, g, cg, rfl, by rw [← HPN.out]; exact XN.set3 _ _ _, hown.far3 (own_ne hown XN) _ _ _, by omega, HBE⟩
  case rest =>
    obtain ⟨n, g, cg, rfl, XN, HO, hn, BC⟩ := hcut
    rw [H8.out] at XN
    have HO : OwnI wc W.heap.size (.slice (some ⟨g, 0, none⟩) 8 cg) r := by rw [← H8.out]; exact HO
    have X0 := X0.keep BC
    have X1 := X1.keep BC
    have X2 := X2.keep BC
    have X3 := X3.keep BC
    have X4 := X4.keep BC
    have X5 := X5.keep BC
    have XI := XI.keep BC
    have B2 : Hid (Below w.heap.size w wc) := bel_trans BW.out BC
    have HOW : Hid (OwnI wc W.heap.size (.slice (some ⟨g, 0, none⟩) 8 cg) r) := HO
    have hgn := own_ne HO XN
    have hgW := HO.base g rfl
    clear BC BW HRW HOL HOL2 HNE HPN HO
    obtain ⟨i1, i2, i3, i4, -⟩ := iE_ok (i_read HE2.out HX2.out).1
    have rx := HW.out x.toNat (by omega)
    have ry := HW.out y.toNat (by omega)
    have gx := HRC.out x.toNat (by omega)
    have gy := HRC.out y.toNat (by omega)
    obtain ⟨one, h1⟩ : ∃ one, nth r x.toNat = one := ⟨_, rfl⟩
    obtain ⟨two, h2⟩ : ∃ two, nth r y.toNat = two := ⟨_, rfl⟩
    rw [h1] at rx gx
    rw [h2] at ry gy
    rw [← B2.out.cell (p := ⟨rb, ro + x.toNat, none⟩) hrb] at gx
    rw [← B2.out.cell (p := ⟨rb, ro + y.toNat, none⟩) hrb] at gy
    have HT : Hid (goS zs ⟨p, r, false⟩ ⟨mo, ba, l, op, oh, ot, st, fe, fp, fh, ft, lo⟩ = exeI zs ⟨p, r, false⟩ ⟨mo, ba, l, op, oh, ot, st, fe, fp, fh, ft, lo⟩ 2 x y i) := by
      show _ = _
      rw [goS, HI.out, if_pos HE2.out, HX2.out]
    have HO1 : Hid (nth r x.toNat = one) := h1
    have HO2 : Hid (nth r y.toNat = two) := h2
    clear h1 h2 HE2 HX2
    clear i1
    obtain ⟨i2a, i2b⟩ := i2
    obtain ⟨i3a, i3b⟩ := i3
    obtain ⟨i4a, i4b⟩ := i4
    obtain ⟨c0, c1, c2, c3, -, -, -, -, zI2⟩ := XI.four
    clear a0 a1 s1
    obtain ⟨a0, a1, -, -, -, -, s1⟩ := X1.three
    have hrb1 : rb < wc.heap.size := by omega
    go_upto_region 6 with fail
    go_quiet (fail)
    have X0 := X0.drewN nq
    have X1 := X1.drewN nq
    have X2 := X2.drewN nq
    have X3 := X3.drewN nq
    have X4 := X4.drewN nq
    have X5 := X5.drewN nq
    have XN := XN.drewN nq
    have XI := XI.drewN nq
    have HOV : Hid (OwnI (wc.drewN nq) W.heap.size (.slice (some ⟨g, 0, none⟩) 8 cg) r) := HOW.out
    have BV : Hid (Below w.heap.size w (wc.drewN nq)) := bel_drewN B2.out nq
    have lg : g < (wc.drewN nq).heap.size := OwnI.lt HOV.out g rfl
    clear HOW B2 gx gy c0 c1 c2 c3 a0 a1 s1 zI2 hrb1
    generalize wc.drewN nq = V at *
    obtain ⟨rx0, rx1⟩ := rx
    obtain ⟨ry0, ry1⟩ := ry
    have hx9 : x < 8 := by omega
    obtain ⟨v2, hv2⟩ : ∃ v2, (one + two) - 65536 * ((one + two) / 65536) = v2 := ⟨_, rfl⟩
    have hv3 : Int.emod (one + two) 65536 = v2 := by rw [← hv2]; have := Int.emod_def (one + two) 65536; exact this
    have hv3 : (one + two) % 65536 = v2 := hv3
    have HT1 : Hid (goS zs ⟨p, r, false⟩ ⟨mo, ba, l, op, oh, ot, st, fe, fp, fh, ft, lo⟩ = (zs, ⟨nextP p, r.set x.toNat v2, false⟩, ⟨mo, ba, l, op, oh, ot, st, fe, fp, fh, ft, lo⟩)) := by
      show _ = _
      rw [HT.out, exeI, if_neg (by decide), if_pos rfl, HO1.out, HO2.out, hv3]
    obtain ⟨m0, m1, m2, n0, n1, n2, zN⟩ := XN.three
    obtain ⟨c0, c1, c2, c3, -, -, -, -, zI2⟩ := XI.four
    have q1 := OwnI.cellAt HOV.out (i := x.toNat) (by rw [H8.out]; omega)
    have q2 := OwnI.frozenAt HOV.out x.toNat
    go_upto_region 63 with fail
    have X0 := X0.other (p := ⟨g, x.toNat, none⟩) (by show w.heap.size ≠ g; omega) (.int .i64 v2)
    have X1 := X1.other (p := ⟨g, x.toNat, none⟩) (by show w.heap.size + 1 ≠ g; omega) (.int .i64 v2)
    have X2 := X2.other (p := ⟨g, x.toNat, none⟩) (by show w.heap.size + 1 + 1 ≠ g; omega) (.int .i64 v2)
    have X3 := X3.other (p := ⟨g, x.toNat, none⟩) (by show w.heap.size + 1 + 1 + 1 ≠ g; omega) (.int .i64 v2)
    have X4 := X4.other (p := ⟨g, x.toNat, none⟩) (by show w.heap.size + 1 + 1 + 1 + 1 ≠ g; omega) (.int .i64 v2)
    have X5 := X5.other (p := ⟨g, x.toNat, none⟩) (by show w.heap.size + 1 + 1 + 1 + 1 + 1 ≠ g; omega) (.int .i64 v2)
    have XN := XN.other (p := ⟨g, x.toNat, none⟩) (by show n ≠ g; omega) (.int .i64 v2)
    have HOV : Hid (OwnI (V.setCell ⟨g, x.toNat, none⟩ (.int .i64 v2)) W.heap.size (.slice (some ⟨g, 0, none⟩) 8 cg) (r.set x.toNat v2)) := OwnI.setAt HOV.out x.toNat v2
    have BV : Hid (Below w.heap.size w (V.setCell ⟨g, x.toNat, none⟩ (.int .i64 v2))) := BV.out.setCell (p := ⟨g, x.toNat, none⟩) (by show w.heap.size ≤ g; omega) (.int .i64 v2)
    clear m0 m1 m2 n0 n1 n2 zN c0 c1 c2 c3 zI2 q1 q2
    generalize (V.setCell ⟨g, x.toNat, none⟩ (.int .i64 v2)) = V2 at *
    have B3 := BV
    have ZO := HOV
    clear BV HOV
    obtain ⟨m0, -, s0⟩ := X0.one
    obtain ⟨n0, n1, n2, -, -, -, zN⟩ := XN.three
    obtain ⟨⟨d0, d1, d2, d3, d4, d5, d6, d7, d8, d9, d10, d11⟩, s2⟩ := X2.twelve
    obtain ⟨a3, j3, s3⟩ := X3.one
    obtain ⟨a0, a1, a2, f0, f1, f2, s4⟩ := X4.three
    obtain ⟨⟨q0, q1, q2, q3, q4, q5, q6, q7, q8, q9, q10, q11⟩, s5⟩ := X5.twelve
    obtain ⟨y0, y1, y2, y3, y4, y5, y6, y7, y8, y9, y10, y11⟩ := X5.marks
    clear X0 X1 X2 X3 X4 X5 XN XI
    have e1 : ¬ n = w.heap.size + 1 + 1 + 1 := by omega
    have e2 : ¬ n = w.heap.size + 1 + 1 + 1 + 1 := by omega
    have e3 : ¬ n = w.heap.size + 1 + 1 + 1 + 1 + 1 := by omega
    go_region
    go_wp2
    refine bodyPost_ret (v := .tuple #[.agg #[.slice (some ⟨b, o, none⟩) 512 cap], .agg #[.int .i64 (nextP p), .slice (some ⟨g, 0, none⟩) 8 cg, .bool false], .agg #[.int .i64 mo, .int .i64 ba, .slice ca l.length ck, .int .i64 op, .int .i64 oh, .int .i64 ot, .bool st, .int .i64 fe, .int .i64 fp, .int .i64 fh, .int .i64 ft, .bool lo]]) (by simp [results, Try.results23, go_sem, *]) rfl ⟨_, _, _, _, _, _, _, _, _, _, _, _, _, _, rfl, HM.out.keep ?_, OwnI.sl (base := W.heap.size) ?_ (by rw [List.length_set, H8.out]; simp [maxLen]), HT1.out, ?_⟩
    rotate_left
    · repeat (first | with_reducible exact ZO.out | with_reducible refine OwnI.drew ?_ | with_reducible refine OwnI.alloc ?_ _ | (with_reducible refine OwnI.setLow ?_ ?_ _; (focus omega)))
    all_goals (repeat (first | with_reducible exact B3.out | with_reducible refine Below.drew ?_ | with_reducible refine bel_alloc ?_ _ | (with_reducible refine bel_set12 ?_ ?_ _ _ _ _ _ _ _ _ _ _ _ _; (focus omega)) | (with_reducible refine bel_set3 ?_ ?_ _ _ _; (focus omega)) | (with_reducible refine bel_set1 ?_ ?_ _; (focus omega))))
end Go.Proofs.Ytfbmmiikhkmpfac
