/-
  Laid together: HRan, HStandsWalk, Open0, Open, OpenH, OpenO, OpenL, OpenR, OpenB.
-/
import Derived.Test.YtfbmmiikhkmpfacT15
import Derived.ProofKit
import Derived.OpenShut
import Derived.ShutString
import Derived.ChangeOld
import Derived.Deep.Slices
/-
  Package hart: Step where its answer is known; the closed fact 'ran' of the statements answers true; nothing that was there turns.
-/
namespace Go.Proofs.Ytfbmmiikhkmpfac
open Go.RowKit

theorem step_at {v : Value} {zs : List Int} {p : Int} {u : Value} {r : List Int} {d : Bool} {mo ba op oh ot fe fp fh ft : Int} {st lo : Bool} {vc : Value} {l : List Ln} {w : World} {e1 : Int} {zs1 : List Int} {p1 : Int} {r1 : List Int} {d1 : Bool} {mo1 ba1 op1 oh1 ot1 fe1 fp1 fh1 ft1 : Int} {st1 lo1 : Bool} {l1 : List Ln}
    (hE : stE zs ⟨p, r, d⟩ ⟨mo, ba, l, op, oh, ot, st, fe, fp, fh, ft, lo⟩ = e1) (hR : stR zs ⟨p, r, d⟩ ⟨mo, ba, l, op, oh, ot, st, fe, fp, fh, ft, lo⟩ = (zs1, ⟨p1, r1, d1⟩, ⟨mo1, ba1, l1, op1, oh1, ot1, st1, fe1, fp1, fh1, ft1, lo1⟩)) (hs : Sl w v zs) (hr : Sl w u r) (h : Ls w vc l) :
    Calls Try.prog 14 #[.agg #[v], .agg #[.int .i64 p, u, .bool d], .agg #[.int .i64 mo, .int .i64 ba, vc, .int .i64 op, .int .i64 oh, .int .i64 ot, .bool st, .int .i64 fe, .int .i64 fp, .int .i64 fh, .int .i64 ft, .bool lo]] w fun e w' => ∃ a1 c1 a2 c2 a3 c3, e = .returned (.tuple #[.agg #[.slice a1 zs1.length c1], .agg #[.int .i64 p1, .slice a2 r1.length c2, .bool d1], .agg #[.int .i64 mo1, .int .i64 ba1, .slice a3 l1.length c3, .int .i64 op1, .int .i64 oh1, .int .i64 ot1, .bool st1, .int .i64 fe1, .int .i64 fp1, .int .i64 fh1, .int .i64 ft1, .bool lo1], .int .i64 e1]) ∧
      Sl w' (.slice a1 zs1.length c1) zs1 ∧ Sl w' (.slice a2 r1.length c2) r1 ∧ Ls w' (.slice a3 l1.length c3) l1 ∧ Fresh w.heap.size (.slice a1 zs1.length c1) ∧ Fresh w.heap.size (.slice a2 r1.length c2) ∧ Fresh w.heap.size (.slice a3 l1.length c3) ∧ Below w.heap.size w w' := by
  refine (step_any v zs p u r d mo ba op oh ot fe fp fh ft st lo vc l w hs hr h).mono ?_
  rintro e w' ⟨v1, zs2, p2, u1, r2, d2, mo2, ba2, op2, oh2, ot2, fe2, fp2, fh2, ft2, st2, lo2, vc1, l2, rfl, h1, h2, h3, f1, f2, f3, h4, h5⟩
  rw [hR] at h4
  simp only [Prod.mk.injEq, Ht.mk.injEq, Br.mk.injEq] at h4
  obtain ⟨rfl, ⟨rfl, rfl, rfl⟩, rfl, rfl, rfl, rfl, rfl, rfl, rfl, rfl, rfl, rfl, rfl, rfl⟩ := h4
  have g1 := h1
  have g2 := h2
  have g3 := h3
  obtain ⟨a1, c1, rfl, -⟩ := h1
  obtain ⟨a2, c2, rfl, -⟩ := h2
  obtain ⟨a3, c3, rfl, -⟩ := h3
  rw [hE]
  exact ⟨a1, c1, a2, c2, a3, c3, rfl, g1, g2, g3, f1, f2, f3, h5⟩

/-- The memory of the closed fact ran. -/
def rnm : List Int := wth [0, 4101, 1, 28673, 2, 33281, 3, 0] 4
theorem rnm_len : rnm.length = 512 := wth_len _ _
theorem ran_1 : stE rnm ⟨0, zero8, false⟩ ⟨0, 0, [], 0, 0, 0, false, 0, 0, 0, 0, false⟩ = 0 ∧ stR rnm ⟨0, zero8, false⟩ ⟨0, 0, [], 0, 0, 0, false, 0, 0, 0, 0, false⟩ = (rnm, ⟨1, [5, 0, 0, 0, 0, 0, 0, 0], false⟩, ⟨0, 0, [], 0, 0, 0, false, 0, 0, 0, 0, false⟩) := ⟨by decide +kernel, by kernel_rfl⟩
theorem ran_2 : stE rnm ⟨1, [5, 0, 0, 0, 0, 0, 0, 0], false⟩ ⟨0, 0, [], 0, 0, 0, false, 0, 0, 0, 0, false⟩ = 0 ∧ stR rnm ⟨1, [5, 0, 0, 0, 0, 0, 0, 0], false⟩ ⟨0, 0, [], 0, 0, 0, false, 0, 0, 0, 0, false⟩ = (rnm, ⟨2, [5, 0, 0, 0, 0, 0, 0, 0], false⟩, ⟨0, 5, [], 0, 0, 0, false, 0, 0, 0, 0, false⟩) := ⟨by decide +kernel, by kernel_rfl⟩
theorem ran_3 : stE rnm ⟨2, [5, 0, 0, 0, 0, 0, 0, 0], false⟩ ⟨0, 5, [], 0, 0, 0, false, 0, 0, 0, 0, false⟩ = 0 ∧ stR rnm ⟨2, [5, 0, 0, 0, 0, 0, 0, 0], false⟩ ⟨0, 5, [], 0, 0, 0, false, 0, 0, 0, 0, false⟩ = (rnm, ⟨3, [5, 5, 0, 0, 0, 0, 0, 0], false⟩, ⟨0, 5, [], 0, 0, 0, false, 0, 0, 0, 0, false⟩) := ⟨by decide +kernel, by kernel_rfl⟩
theorem ran_4 : stE rnm ⟨3, [5, 5, 0, 0, 0, 0, 0, 0], false⟩ ⟨0, 5, [], 0, 0, 0, false, 0, 0, 0, 0, false⟩ = 0 ∧ stR rnm ⟨3, [5, 5, 0, 0, 0, 0, 0, 0], false⟩ ⟨0, 5, [], 0, 0, 0, false, 0, 0, 0, 0, false⟩ = (rnm, ⟨3, [5, 5, 0, 0, 0, 0, 0, 0], true⟩, ⟨0, 5, [], 0, 0, 0, false, 0, 0, 0, 0, false⟩) := ⟨by decide +kernel, by kernel_rfl⟩
theorem ran_c : chkH ⟨3, [5, 5, 0, 0, 0, 0, 0, 0], false⟩ = 0 := by decide +kernel
theorem ran_n : newE 0 = 0 ∧ newH 0 = ⟨0, zero8, false⟩ := ⟨by decide +kernel, by kernel_rfl⟩

theorem ran_go {v u vc : Value} {w : World} {p ba p1 ba1 : Int} {r r1 : List Int} {d1 : Bool} (hE : stE rnm ⟨p, r, false⟩ ⟨0, ba, [], 0, 0, 0, false, 0, 0, 0, 0, false⟩ = 0) (hR : stR rnm ⟨p, r, false⟩ ⟨0, ba, [], 0, 0, 0, false, 0, 0, 0, 0, false⟩ = (rnm, ⟨p1, r1, d1⟩, ⟨0, ba1, [], 0, 0, 0, false, 0, 0, 0, 0, false⟩)) (h8 : r1.length = 8)
    (hs : Sl w v rnm) (hr : Sl w u r) (h : Ls w vc []) :
    Calls Try.prog 14 #[.agg #[v], .agg #[.int .i64 p, u, .bool false], .agg #[.int .i64 0, .int .i64 ba, vc, .int .i64 0, .int .i64 0, .int .i64 0, .bool false, .int .i64 0, .int .i64 0, .int .i64 0, .int .i64 0, .bool false]] w fun e w' => ∃ a1 c1 a2 c2 a3 c3, e = .returned (.tuple #[.agg #[.slice a1 512 c1], .agg #[.int .i64 p1, .slice a2 8 c2, .bool d1], .agg #[.int .i64 0, .int .i64 ba1, .slice a3 0 c3, .int .i64 0, .int .i64 0, .int .i64 0, .bool false, .int .i64 0, .int .i64 0, .int .i64 0, .int .i64 0, .bool false], .int .i64 0]) ∧
      Sl w' (.slice a1 512 c1) rnm ∧ Sl w' (.slice a2 8 c2) r1 ∧ Ls w' (.slice a3 0 c3) [] ∧ Fresh w.heap.size (.slice a1 512 c1) ∧ Fresh w.heap.size (.slice a2 8 c2) ∧ Fresh w.heap.size (.slice a3 0 c3) ∧ Below w.heap.size w w' := by
  refine (step_at hE hR hs hr h).mono ?_
  rintro e w' ⟨a1, c1, a2, c2, a3, c3, rfl, h1⟩
  rw [rnm_len, h8] at h1 ⊢
  exact ⟨a1, c1, a2, c2, a3, c3, rfl, h1⟩

/-- The three variables of ran; what they hold. -/
structure RanAt (w : World) (M H B : Nat) (p : Int) (r : List Int) (ba : Int) (w' : World) : Prop where
  all : ∃ a1 c1 a2 c2 a3 c3, Box w' M 33 #[.slice a1 512 c1] ∧ Box w' H 35 #[.int .i64 p, .slice a2 8 c2, .bool false] ∧ Box w' B 40 #[.int .i64 0, .int .i64 ba, .slice a3 0 c3, .int .i64 0, .int .i64 0, .int .i64 0, .bool false, .int .i64 0, .int .i64 0, .int .i64 0, .int .i64 0, .bool false] ∧
    Sl w' (.slice a1 512 c1) rnm ∧ Sl w' (.slice a2 8 c2) r ∧ Ls w' (.slice a3 0 c3) []
  bel : Below w.heap.size w w'
  lo : w.heap.size ≤ M ∧ M < H ∧ H < B

theorem RanAt.put {w w' w5 : World} {M H B : Nat} {p p1 : Int} {r r1 : List Int} {ba ba1 : Int} (h : RanAt w M H B p r ba w') (b5 : Below w'.heap.size w' w5) {a1 : Option Addr} {c1 : Nat} {a2 : Option Addr} {c2 : Nat} {a3 : Option Addr} {c3 : Nat}
    (s1 : Sl w5 (.slice a1 512 c1) rnm) (s2 : Sl w5 (.slice a2 8 c2) r1) (s3 : Ls w5 (.slice a3 0 c3) []) (f1 : Fresh w'.heap.size (.slice a1 512 c1)) (f2 : Fresh w'.heap.size (.slice a2 8 c2)) (f3 : Fresh w'.heap.size (.slice a3 0 c3)) :
    RanAt w M H B p1 r1 ba1 (((((((((((((((((w5.setCell ⟨M, 0, none⟩ (.slice a1 512 c1)).setCell ⟨H, 0, none⟩ (.int .i64 p1)).setCell ⟨H, 1, none⟩ (.slice a2 8 c2)).setCell ⟨H, 2, none⟩ (.bool false)).setCell ⟨B, 0, none⟩ (.int .i64 0)).setCell ⟨B, 1, none⟩ (.int .i64 ba1)).setCell ⟨B, 2, none⟩ (.slice a3 0 c3)).setCell ⟨B, 3, none⟩ (.int .i64 0)).setCell ⟨B, 4, none⟩ (.int .i64 0)).setCell ⟨B, 5, none⟩ (.int .i64 0)).setCell ⟨B, 6, none⟩ (.bool false)).setCell ⟨B, 7, none⟩ (.int .i64 0)).setCell ⟨B, 8, none⟩ (.int .i64 0)).setCell ⟨B, 9, none⟩ (.int .i64 0)).setCell ⟨B, 10, none⟩ (.int .i64 0)).setCell ⟨B, 11, none⟩ (.bool false))) := by
  obtain ⟨⟨b1, d1, b2, d2, b3, d3, X1, X2, X3, -, -, -⟩, hb, h1, h2, h3⟩ := h
  have l1 := X1.lt
  have l2 := X2.lt
  have l3 := X3.lt
  have hz : ∀ q, w'.heap.size ≤ q → (((((((((((((((((w5.setCell ⟨M, 0, none⟩ (.slice a1 512 c1)).setCell ⟨H, 0, none⟩ (.int .i64 p1)).setCell ⟨H, 1, none⟩ (.slice a2 8 c2)).setCell ⟨H, 2, none⟩ (.bool false)).setCell ⟨B, 0, none⟩ (.int .i64 0)).setCell ⟨B, 1, none⟩ (.int .i64 ba1)).setCell ⟨B, 2, none⟩ (.slice a3 0 c3)).setCell ⟨B, 3, none⟩ (.int .i64 0)).setCell ⟨B, 4, none⟩ (.int .i64 0)).setCell ⟨B, 5, none⟩ (.int .i64 0)).setCell ⟨B, 6, none⟩ (.bool false)).setCell ⟨B, 7, none⟩ (.int .i64 0)).setCell ⟨B, 8, none⟩ (.int .i64 0)).setCell ⟨B, 9, none⟩ (.int .i64 0)).setCell ⟨B, 10, none⟩ (.int .i64 0)).setCell ⟨B, 11, none⟩ (.bool false))).heap[q]? = w5.heap[q]? := fun q hq =>
    (heap_other12 (by omega) _ _ _ _ _ _ _ _ _ _ _ _).trans ((heap_other3 (by omega) _ _ _).trans (heap_other1 (by omega) _))
  have hs : w5.heap.size ≤ (((((((((((((((((w5.setCell ⟨M, 0, none⟩ (.slice a1 512 c1)).setCell ⟨H, 0, none⟩ (.int .i64 p1)).setCell ⟨H, 1, none⟩ (.slice a2 8 c2)).setCell ⟨H, 2, none⟩ (.bool false)).setCell ⟨B, 0, none⟩ (.int .i64 0)).setCell ⟨B, 1, none⟩ (.int .i64 ba1)).setCell ⟨B, 2, none⟩ (.slice a3 0 c3)).setCell ⟨B, 3, none⟩ (.int .i64 0)).setCell ⟨B, 4, none⟩ (.int .i64 0)).setCell ⟨B, 5, none⟩ (.int .i64 0)).setCell ⟨B, 6, none⟩ (.bool false)).setCell ⟨B, 7, none⟩ (.int .i64 0)).setCell ⟨B, 8, none⟩ (.int .i64 0)).setCell ⟨B, 9, none⟩ (.int .i64 0)).setCell ⟨B, 10, none⟩ (.int .i64 0)).setCell ⟨B, 11, none⟩ (.bool false))).heap.size := by simp [World.setCell]
  have Y1 := X1.keep b5
  have Y2 := X2.keep b5
  have Y3 := X3.keep b5
  refine ⟨⟨a1, c1, a2, c2, a3, c3, ?_, ?_, ?_, s1.blk hs (fun q hq => hz q (f1 q hq)), s2.blk hs (fun q hq => hz q (f2 q hq)), s3.blk hs (fun q hq => hz q (f3 q hq))⟩, ?_, h1, h2, h3⟩
  · exact ((Y1.set1 _).other3 (by omega) _ _ _).other12 (by omega) _ _ _ _ _ _ _ _ _ _ _ _
  · exact ((Y2.other (p := ⟨M, 0, none⟩) (by show H ≠ M; omega) _).set3 _ _ _).other12 (by omega) _ _ _ _ _ _ _ _ _ _ _ _
  · exact ((Y3.other (p := ⟨M, 0, none⟩) (by show B ≠ M; omega) _).other3 (by omega) _ _ _).set12 _ _ _ _ _ _ _ _ _ _ _ _
  · exact bel_set12 (by omega) (bel_set3 (by omega) (bel_set1 (by omega) (bel_trans hb b5) _) _ _ _) _ _ _ _ _ _ _ _ _ _ _ _

set_option maxRecDepth 10000 in
set_option maxHeartbeats 8000000 in
theorem ran_true (w : World) : Calls Try.prog 18 #[] w fun e w' => e = .returned (.bool true) ∧ Below w.heap.size w w' := by
  go_enter Try.func18, Try.ntmps18
  go_wp2_with fail
  refine (with_any _ 0 8 [0, 4101, 1, 28673, 2, 33281, 3, 0] 4 _ (sl_block (heap_at rfl) rfl rfl (by simp [maxLen])) rfl (by decide) (by decide)).mono ?_
  rintro e w1 ⟨g1, rfl, h1, b1⟩
  have B1 : Hid (Below w.heap.size w w1) := bel_trans (bel_alloc (Below.refl _ _) _) b1
  have z1 : w.heap.size ≤ w1.heap.size := B1.out.size
  have H1 : Hid (Sl w1 (.slice (some ⟨g1, 0, none⟩) 512 512) rnm) := h1
  clear b1 h1
  go_wp2_with fail
  refine (hNew_any 0 _).mono ?_
  rintro e w2 ⟨p, v2, r2, rfl, h2, hh, b2⟩
  rw [ran_n.1]
  rw [ran_n.2] at hh
  simp only [Ht.mk.injEq, and_true] at hh
  obtain ⟨rfl, rfl⟩ := hh
  have H2 : Hid (Sl w2 v2 zero8) := h2
  obtain ⟨a2, c2, rfl, -⟩ := h2
  rw [show zero8.length = 8 from rfl] at H2 ⊢
  have X1 := (((Box.newAt (w := w1) (n := w1.heap.size) rfl 33 #[.slice (some ⟨g1, 0, none⟩) 512 512]).keep b2).past (.cells #[.int .i64 0, .slice a2 8 c2, .bool false] 35)).past (.cells #[.int .i64 0, .int .i64 0, .slice none 0 0, .int .i64 0, .int .i64 0, .int .i64 0, .bool false, .int .i64 0, .int .i64 0, .int .i64 0, .int .i64 0, .bool false] 40)
  have X2 := (Box.newAt (w := w2) (n := w2.heap.size) rfl 35 #[.int .i64 0, .slice a2 8 c2, .bool false]).past (.cells #[.int .i64 0, .int .i64 0, .slice none 0 0, .int .i64 0, .int .i64 0, .int .i64 0, .bool false, .int .i64 0, .int .i64 0, .int .i64 0, .int .i64 0, .bool false] 40)
  have X3 := Box.newAt (w := w2.alloc (.cells #[.int .i64 0, .slice a2 8 c2, .bool false] 35)) (n := w2.heap.size + 1) (by simp) 40 #[.int .i64 0, .int .i64 0, .slice none 0 0, .int .i64 0, .int .i64 0, .int .i64 0, .bool false, .int .i64 0, .int .i64 0, .int .i64 0, .int .i64 0, .bool false]
  have C3 : Below w2.heap.size w2 ((w2.alloc (.cells #[.int .i64 0, .slice a2 8 c2, .bool false] 35)).alloc (.cells #[.int .i64 0, .int .i64 0, .slice none 0 0, .int .i64 0, .int .i64 0, .int .i64 0, .bool false, .int .i64 0, .int .i64 0, .int .i64 0, .int .i64 0, .bool false] 40)) := bel_alloc (bel_alloc (Below.refl _ _) _) _
  have hzz : w1.heap.size + 1 ≤ w2.heap.size := by have := b2.size; simpa using this
  have R0 : Hid (RanAt w w1.heap.size w2.heap.size (w2.heap.size + 1) 0 zero8 0 ((w2.alloc (.cells #[.int .i64 0, .slice a2 8 c2, .bool false] 35)).alloc (.cells #[.int .i64 0, .int .i64 0, .slice none 0 0, .int .i64 0, .int .i64 0, .int .i64 0, .bool false, .int .i64 0, .int .i64 0, .int .i64 0, .int .i64 0, .bool false] 40))) :=
    ⟨⟨_, _, _, _, _, _, X1, X2, X3, ((H1.out.keep (bel_alloc (Below.refl _ _) _)).keep b2).keep C3, H2.out.keep C3, Ls.nothing _⟩, bel_trans (bel_trans (bel_alloc B1.out _) b2) C3, z1, by omega, by omega⟩
  clear X1 X2 X3 C3 H1 H2 B1
  go_wp2_with fail
  generalize ((w2.alloc (.cells #[.int .i64 0, .slice a2 8 c2, .bool false] 35)).alloc (.cells #[.int .i64 0, .int .i64 0, .slice none 0 0, .int .i64 0, .int .i64 0, .int .i64 0, .bool false, .int .i64 0, .int .i64 0, .int .i64 0, .int .i64 0, .bool false] 40)) = W at *
  generalize w2.heap.size + 1 = B at *
  generalize w2.heap.size = H at *
  generalize w1.heap.size = M at *
  have R := R0
  clear R0 z1 hzz b2
  refine wp_loop_rounds 4 ?_
  rw [rounds_succ]
  obtain ⟨⟨a1, c1, a2, c2, a3, c3, X1, X2, X3, S1, S2, S3⟩, -, hlo, hMH, hHB⟩ := R.out
  have T1 : Hid (Sl W _ rnm) := S1
  have T2 : Hid (Sl W _ _) := S2
  have T3 : Hid (Ls W _ []) := S3
  clear S1 S2 S3
  obtain ⟨m0, -, s1⟩ := X1.one
  obtain ⟨i0, i1, i2, -, -, -, s2⟩ := X2.three
  obtain ⟨⟨d0, d1, d2, d3, d4, d5, d6, d7, d8, d9, d10, d11⟩, s3⟩ := X3.twelve
  go_wp2_with fail
  refine (ran_go ran_1.1 ran_1.2 rfl T1.out T2.out T3.out).mono ?_
  rintro e w5 ⟨b1, e1, b2, e2, b3, e3, rfl, S1, S2, S3, F1, F2, F3, b5⟩
  have R1 : Hid _ := RanAt.put (p1 := 1) (ba1 := 0) R.out b5 S1 S2 S3 F1 F2 F3
  clear S1 S2 S3 F1 F2 F3 m0 s1 i0 i1 i2 s2 d0 d1 d2 d3 d4 d5 d6 d7 d8 d9 d10 d11 s3 T1 T2 T3
  obtain ⟨m0, m1, s1⟩ := (X1.keep b5).one
  obtain ⟨i0, i1, i2, j0, j1, j2, s2⟩ := (X2.keep b5).three
  obtain ⟨⟨d0, d1, d2, d3, d4, d5, d6, d7, d8, d9, d10, d11⟩, s3⟩ := (X3.keep b5).twelve
  have f3 := (X3.keep b5).marksAll
  have n1 : ¬ M = H := by omega
  have n2 : ¬ M = B := by omega
  have n3 : ¬ H = B := by omega
  have n4 : ¬ H = M := by omega
  have n5 : ¬ B = M := by omega
  have n6 : ¬ B = H := by omega
  clear X1 X2 X3 R b5
  go_upto_region 8 with fail
  clear m0 m1 s1 i0 i1 i2 j0 j1 j2 s2 d0 d1 d2 d3 d4 d5 d6 d7 d8 d9 d10 d11 s3 f3 n1 n2 n3 n4 n5 n6 hlo hMH hHB
  generalize (((((((((((((((((w5.setCell ⟨M, 0, none⟩ (.slice b1 512 e1)).setCell ⟨H, 0, none⟩ (.int .i64 1)).setCell ⟨H, 1, none⟩ (.slice b2 8 e2)).setCell ⟨H, 2, none⟩ (.bool false)).setCell ⟨B, 0, none⟩ (.int .i64 0)).setCell ⟨B, 1, none⟩ (.int .i64 0)).setCell ⟨B, 2, none⟩ (.slice b3 0 e3)).setCell ⟨B, 3, none⟩ (.int .i64 0)).setCell ⟨B, 4, none⟩ (.int .i64 0)).setCell ⟨B, 5, none⟩ (.int .i64 0)).setCell ⟨B, 6, none⟩ (.bool false)).setCell ⟨B, 7, none⟩ (.int .i64 0)).setCell ⟨B, 8, none⟩ (.int .i64 0)).setCell ⟨B, 9, none⟩ (.int .i64 0)).setCell ⟨B, 10, none⟩ (.int .i64 0)).setCell ⟨B, 11, none⟩ (.bool false))) = W9 at *
  have R := R1
  clear R1
  obtain ⟨W, hW⟩ : ∃ W, W9 = W := ⟨_, rfl⟩
  rw [hW] at R ⊢
  clear hW
  go_wp2_with fail
  rw [rounds_succ]
  obtain ⟨⟨a1, c1, a2, c2, a3, c3, X1, X2, X3, S1, S2, S3⟩, -, hlo, hMH, hHB⟩ := R.out
  have T1 : Hid (Sl W _ rnm) := S1
  have T2 : Hid (Sl W _ _) := S2
  have T3 : Hid (Ls W _ []) := S3
  clear S1 S2 S3
  obtain ⟨m0, -, s1⟩ := X1.one
  obtain ⟨i0, i1, i2, -, -, -, s2⟩ := X2.three
  obtain ⟨⟨d0, d1, d2, d3, d4, d5, d6, d7, d8, d9, d10, d11⟩, s3⟩ := X3.twelve
  go_wp2_with fail
  refine (ran_go ran_2.1 ran_2.2 rfl T1.out T2.out T3.out).mono ?_
  rintro e w5 ⟨b1, e1, b2, e2, b3, e3, rfl, S1, S2, S3, F1, F2, F3, b5⟩
  have R1 : Hid _ := RanAt.put (p1 := 2) (ba1 := 5) R.out b5 S1 S2 S3 F1 F2 F3
  clear S1 S2 S3 F1 F2 F3 m0 s1 i0 i1 i2 s2 d0 d1 d2 d3 d4 d5 d6 d7 d8 d9 d10 d11 s3 T1 T2 T3
  obtain ⟨m0, m1, s1⟩ := (X1.keep b5).one
  obtain ⟨i0, i1, i2, j0, j1, j2, s2⟩ := (X2.keep b5).three
  obtain ⟨⟨d0, d1, d2, d3, d4, d5, d6, d7, d8, d9, d10, d11⟩, s3⟩ := (X3.keep b5).twelve
  have f3 := (X3.keep b5).marksAll
  have n1 : ¬ M = H := by omega
  have n2 : ¬ M = B := by omega
  have n3 : ¬ H = B := by omega
  have n4 : ¬ H = M := by omega
  have n5 : ¬ B = M := by omega
  have n6 : ¬ B = H := by omega
  clear X1 X2 X3 R b5
  go_upto_region 8 with fail
  clear m0 m1 s1 i0 i1 i2 j0 j1 j2 s2 d0 d1 d2 d3 d4 d5 d6 d7 d8 d9 d10 d11 s3 f3 n1 n2 n3 n4 n5 n6 hlo hMH hHB
  generalize (((((((((((((((((w5.setCell ⟨M, 0, none⟩ (.slice b1 512 e1)).setCell ⟨H, 0, none⟩ (.int .i64 2)).setCell ⟨H, 1, none⟩ (.slice b2 8 e2)).setCell ⟨H, 2, none⟩ (.bool false)).setCell ⟨B, 0, none⟩ (.int .i64 0)).setCell ⟨B, 1, none⟩ (.int .i64 5)).setCell ⟨B, 2, none⟩ (.slice b3 0 e3)).setCell ⟨B, 3, none⟩ (.int .i64 0)).setCell ⟨B, 4, none⟩ (.int .i64 0)).setCell ⟨B, 5, none⟩ (.int .i64 0)).setCell ⟨B, 6, none⟩ (.bool false)).setCell ⟨B, 7, none⟩ (.int .i64 0)).setCell ⟨B, 8, none⟩ (.int .i64 0)).setCell ⟨B, 9, none⟩ (.int .i64 0)).setCell ⟨B, 10, none⟩ (.int .i64 0)).setCell ⟨B, 11, none⟩ (.bool false))) = W9 at *
  have R := R1
  clear R1
  obtain ⟨W, hW⟩ : ∃ W, W9 = W := ⟨_, rfl⟩
  rw [hW] at R ⊢
  clear hW
  go_wp2_with fail
  rw [rounds_succ]
  obtain ⟨⟨a1, c1, a2, c2, a3, c3, X1, X2, X3, S1, S2, S3⟩, -, hlo, hMH, hHB⟩ := R.out
  have T1 : Hid (Sl W _ rnm) := S1
  have T2 : Hid (Sl W _ _) := S2
  have T3 : Hid (Ls W _ []) := S3
  clear S1 S2 S3
  obtain ⟨m0, -, s1⟩ := X1.one
  obtain ⟨i0, i1, i2, -, -, -, s2⟩ := X2.three
  obtain ⟨⟨d0, d1, d2, d3, d4, d5, d6, d7, d8, d9, d10, d11⟩, s3⟩ := X3.twelve
  go_wp2_with fail
  refine (ran_go ran_3.1 ran_3.2 rfl T1.out T2.out T3.out).mono ?_
  rintro e w5 ⟨b1, e1, b2, e2, b3, e3, rfl, S1, S2, S3, F1, F2, F3, b5⟩
  have R1 : Hid _ := RanAt.put (p1 := 3) (ba1 := 5) R.out b5 S1 S2 S3 F1 F2 F3
  clear S1 S2 S3 F1 F2 F3 m0 s1 i0 i1 i2 s2 d0 d1 d2 d3 d4 d5 d6 d7 d8 d9 d10 d11 s3 T1 T2 T3
  obtain ⟨m0, m1, s1⟩ := (X1.keep b5).one
  obtain ⟨i0, i1, i2, j0, j1, j2, s2⟩ := (X2.keep b5).three
  obtain ⟨⟨d0, d1, d2, d3, d4, d5, d6, d7, d8, d9, d10, d11⟩, s3⟩ := (X3.keep b5).twelve
  have f3 := (X3.keep b5).marksAll
  have n1 : ¬ M = H := by omega
  have n2 : ¬ M = B := by omega
  have n3 : ¬ H = B := by omega
  have n4 : ¬ H = M := by omega
  have n5 : ¬ B = M := by omega
  have n6 : ¬ B = H := by omega
  clear X1 X2 X3 R b5
  go_upto_region 8 with fail
  clear m0 m1 s1 i0 i1 i2 j0 j1 j2 s2 d0 d1 d2 d3 d4 d5 d6 d7 d8 d9 d10 d11 s3 f3 n1 n2 n3 n4 n5 n6 hlo hMH hHB
  generalize (((((((((((((((((w5.setCell ⟨M, 0, none⟩ (.slice b1 512 e1)).setCell ⟨H, 0, none⟩ (.int .i64 3)).setCell ⟨H, 1, none⟩ (.slice b2 8 e2)).setCell ⟨H, 2, none⟩ (.bool false)).setCell ⟨B, 0, none⟩ (.int .i64 0)).setCell ⟨B, 1, none⟩ (.int .i64 5)).setCell ⟨B, 2, none⟩ (.slice b3 0 e3)).setCell ⟨B, 3, none⟩ (.int .i64 0)).setCell ⟨B, 4, none⟩ (.int .i64 0)).setCell ⟨B, 5, none⟩ (.int .i64 0)).setCell ⟨B, 6, none⟩ (.bool false)).setCell ⟨B, 7, none⟩ (.int .i64 0)).setCell ⟨B, 8, none⟩ (.int .i64 0)).setCell ⟨B, 9, none⟩ (.int .i64 0)).setCell ⟨B, 10, none⟩ (.int .i64 0)).setCell ⟨B, 11, none⟩ (.bool false))) = W9 at *
  have R := R1
  clear R1
  obtain ⟨W, hW⟩ : ∃ W, W9 = W := ⟨_, rfl⟩
  rw [hW] at R ⊢
  clear hW
  go_wp2_with fail
  rw [rounds_succ]
  obtain ⟨⟨a1, c1, a2, c2, a3, c3, X1, X2, X3, S1, S2, S3⟩, BB, -, -, -⟩ := R.out
  have HB : Hid (Below w.heap.size w W) := BB
  have T1 : Hid (Sl W _ rnm) := S1
  have T2 : Hid (Sl W (.slice a2 8 c2) [5, 5, 0, 0, 0, 0, 0, 0]) := S2
  have T3 : Hid (Ls W _ []) := S3
  clear S1 S2 S3 BB R
  obtain ⟨m0, -, s1⟩ := X1.one
  obtain ⟨i0, i1, i2, -, -, -, s2⟩ := X2.three
  obtain ⟨⟨d0, d1, d2, d3, d4, d5, d6, d7, d8, d9, d10, d11⟩, s3⟩ := X3.twelve
  go_wp2_with fail
  refine (ran_go ran_4.1 ran_4.2 rfl T1.out T2.out T3.out).mono ?_
  rintro e w5 ⟨b1, e1, b2, e2, b3, e3, rfl, S1, S2, S3, F1, F2, F3, b5⟩
  have T2 := T2.out.keep b5
  have HB5 : Hid (Below w.heap.size w w5) := bel_trans HB.out b5
  clear S1 S2 S3 F1 F2 F3 m0 s1 i0 i1 i2 s2 d0 d1 d2 d3 d4 d5 d6 d7 d8 d9 d10 d11 s3 T1 T3 HB
  have X2 := X2.keep b5
  have X3 := X3.keep b5
  obtain ⟨i0, i1, i2, -, -, -, s2⟩ := X2.three
  obtain ⟨⟨d0, d1, d2, d3, d4, d5, d6, d7, d8, d9, d10, d11⟩, s3⟩ := X3.twelve
  have HT2 : Hid (Sl w5 (.slice a2 8 c2) [5, 5, 0, 0, 0, 0, 0, 0]) := T2
  obtain ⟨a, c, ha, -, hh⟩ := T2
  simp only [List.length_cons, List.length_nil, Value.slice.injEq] at ha
  obtain ⟨rfl, -, rfl⟩ := ha
  rcases hh with hh | ⟨b, o, rfl, hbl, hc⟩
  · cases hh
  have g1 : w5.cell? ⟨b, o + 1, none⟩ = some (.int .i64 5) := hc 1 (by decide)
  have hb1 : b < w5.heap.size + 1 := by omega
  have hb2 : b < w5.heap.size + 1 + 1 := by omega
  have hb3 : b < w5.heap.size + 1 + 1 + 1 := by omega
  have t2 : H < w5.heap.size + 1 := by omega
  have t3 : H < w5.heap.size + 1 + 1 := by omega
  have t4 : B < w5.heap.size + 1 := by omega
  have t5 : B < w5.heap.size + 1 + 1 := by omega
  clear X1 X2 X3 hc
  go_wp2_with fail
  refine (hCheck_any 3 _ [5, 5, 0, 0, 0, 0, 0, 0] false _ (HT2.out.keep (bel_alloc (bel_alloc (bel_alloc (Below.refl _ _) _) _) _))).mono ?_
  rintro e w6 ⟨rfl, b6⟩
  rw [ran_c]
  go_wp2
  go_ret
  exact ⟨rfl, bel_trans (bel_alloc (bel_alloc (bel_alloc HB5.out _) _) _) b6⟩
end Go.Proofs.Ytfbmmiikhkmpfac
/-
  HartStands answers true, whatever it is asked.
-/
namespace Go.Proofs.Ytfbmmiikhkmpfac
open Go.RowKit

set_option maxRecDepth 10000 in
set_option maxHeartbeats 8000000 in
theorem hstands_walk (v : Value) (zs : List Int) (p : Int) (u : Value) (r : List Int) (d : Bool) (mo ba op oh ot fe fp fh ft : Int) (st lo : Bool) (vc : Value) (l : List Ln) (w : World) (hs : Sl w v zs) (hr : Sl w u r) (h : Ls w vc l) :
    Calls Try.prog 7 #[.agg #[v], .agg #[.int .i64 p, u, .bool d], .agg #[.int .i64 mo, .int .i64 ba, vc, .int .i64 op, .int .i64 oh, .int .i64 ot, .bool st, .int .i64 fe, .int .i64 fp, .int .i64 fh, .int .i64 ft, .bool lo]] w fun e w' => e = .returned (.bool true) ∧ Below w.heap.size w w' := by
  have HM : Hid (Sl w v zs) := hs
  have HR : Hid (Sl w u r) := hr
  have HL : Hid (Ls w vc l) := h
  obtain ⟨a1, n1, c1, rfl⟩ : ∃ a k c, v = .slice a k c := let ⟨a, c, e, _⟩ := hs; ⟨a, _, c, e⟩
  obtain ⟨a2, n2, c2, rfl⟩ : ∃ a k c, u = .slice a k c := let ⟨a, c, e, _⟩ := hr; ⟨a, _, c, e⟩
  obtain ⟨ca, cc, rfl, -⟩ := h.shape
  obtain ⟨ck, hck⟩ : ∃ ck, ck = l.length := ⟨_, rfl⟩
  rw [← hck] at HL ⊢
  clear hs hr h hck
  obtain ⟨f1, hE⟩ : ∃ f1, stE zs ⟨p, r, d⟩ ⟨mo, ba, l, op, oh, ot, st, fe, fp, fh, ft, lo⟩ = f1 := ⟨_, rfl⟩
  obtain ⟨zs1, p1, r1, d1, mo1, ba1, op1, oh1, ot1, fe1, fp1, fh1, ft1, st1, lo1, l1, hR⟩ : ∃ zs1 p1 r1 d1 mo1 ba1 op1 oh1 ot1 fe1 fp1 fh1 ft1 st1 lo1 l1, stR zs ⟨p, r, d⟩ ⟨mo, ba, l, op, oh, ot, st, fe, fp, fh, ft, lo⟩ = (zs1, ⟨p1, r1, d1⟩, ⟨mo1, ba1, l1, op1, oh1, ot1, st1, fe1, fp1, fh1, ft1, lo1⟩) := ⟨_, _, _, _, _, _, _, _, _, _, _, _, _, _, _, _, rfl⟩
  have HE : Hid _ := hE
  have HST : Hid _ := hR
  clear hE hR
  have X0 := ((Box.newAt (w := w) (n := w.heap.size) (by simp) 33 #[.slice a1 n1 c1]).past (.cells #[.int .i64 p, .slice a2 n2 c2, .bool d] 35)).past (.cells #[.int .i64 mo, .int .i64 ba, .slice ca ck cc, .int .i64 op, .int .i64 oh, .int .i64 ot, .bool st, .int .i64 fe, .int .i64 fp, .int .i64 fh, .int .i64 ft, .bool lo] 40)
  have X1 := (Box.newAt (w := (w.alloc (.cells #[.slice a1 n1 c1] 33))) (n := w.heap.size + 1) (by simp) 35 #[.int .i64 p, .slice a2 n2 c2, .bool d]).past (.cells #[.int .i64 mo, .int .i64 ba, .slice ca ck cc, .int .i64 op, .int .i64 oh, .int .i64 ot, .bool st, .int .i64 fe, .int .i64 fp, .int .i64 fh, .int .i64 ft, .bool lo] 40)
  have X2 := Box.newAt (w := ((w.alloc (.cells #[.slice a1 n1 c1] 33)).alloc (.cells #[.int .i64 p, .slice a2 n2 c2, .bool d] 35))) (n := w.heap.size + 1 + 1) (by simp) 40 #[.int .i64 mo, .int .i64 ba, .slice ca ck cc, .int .i64 op, .int .i64 oh, .int .i64 ot, .bool st, .int .i64 fe, .int .i64 fp, .int .i64 fh, .int .i64 ft, .bool lo]
  have BW : Hid (Below w.heap.size w _) := bel_alloc (bel_alloc (bel_alloc (Below.refl w.heap.size w) (.cells #[.slice a1 n1 c1] 33)) (.cells #[.int .i64 p, .slice a2 n2 c2, .bool d] 35)) (.cells #[.int .i64 mo, .int .i64 ba, .slice ca ck cc, .int .i64 op, .int .i64 oh, .int .i64 ot, .bool st, .int .i64 fe, .int .i64 fp, .int .i64 fh, .int .i64 ft, .bool lo] 40)
  have WS : Hid ((((w.alloc (.cells #[.slice a1 n1 c1] 33)).alloc (.cells #[.int .i64 p, .slice a2 n2 c2, .bool d] 35)).alloc (.cells #[.int .i64 mo, .int .i64 ba, .slice ca ck cc, .int .i64 op, .int .i64 oh, .int .i64 ot, .bool st, .int .i64 fe, .int .i64 fp, .int .i64 fh, .int .i64 ft, .bool lo] 40)).heap.size = w.heap.size + 1 + 1 + 1) := by show _ = _; simp
  go_enter Try.func7, Try.ntmps7
  go_upto_region 1 with fail
  generalize (((w.alloc (.cells #[.slice a1 n1 c1] 33)).alloc (.cells #[.int .i64 p, .slice a2 n2 c2, .bool d] 35)).alloc (.cells #[.int .i64 mo, .int .i64 ba, .slice ca ck cc, .int .i64 op, .int .i64 oh, .int .i64 ot, .bool st, .int .i64 fe, .int .i64 fp, .int .i64 fh, .int .i64 ft, .bool lo] 40)) = W at *
  obtain ⟨m0, -, s0⟩ := X0.one
  obtain ⟨i0, i1, i2, -, -, -, s1⟩ := X1.three
  obtain ⟨⟨d0, d1', d2, d3, d4, d5, d6, d7, d8, d9, d10, d11⟩, s2⟩ := X2.twelve
  go_wp2_with fail
  refine (step_at HE.out HST.out (HM.out.keep BW.out) (HR.out.keep BW.out) (HL.out.keep BW.out)).mono ?_
  rintro e w1 ⟨b1, e1, b2, e2, b3, e3, rfl, S1, S2, S3, -, -, -, k1⟩
  have X0 := (((X0.keep k1).past (.cells #[.slice b1 zs1.length e1] 33)).past (.cells #[.int .i64 p1, .slice b2 r1.length e2, .bool d1] 35)).past (.cells #[.int .i64 mo1, .int .i64 ba1, .slice b3 l1.length e3, .int .i64 op1, .int .i64 oh1, .int .i64 ot1, .bool st1, .int .i64 fe1, .int .i64 fp1, .int .i64 fh1, .int .i64 ft1, .bool lo1] 40)
  have X1 := (((X1.keep k1).past (.cells #[.slice b1 zs1.length e1] 33)).past (.cells #[.int .i64 p1, .slice b2 r1.length e2, .bool d1] 35)).past (.cells #[.int .i64 mo1, .int .i64 ba1, .slice b3 l1.length e3, .int .i64 op1, .int .i64 oh1, .int .i64 ot1, .bool st1, .int .i64 fe1, .int .i64 fp1, .int .i64 fh1, .int .i64 ft1, .bool lo1] 40)
  have X2 := (((X2.keep k1).past (.cells #[.slice b1 zs1.length e1] 33)).past (.cells #[.int .i64 p1, .slice b2 r1.length e2, .bool d1] 35)).past (.cells #[.int .i64 mo1, .int .i64 ba1, .slice b3 l1.length e3, .int .i64 op1, .int .i64 oh1, .int .i64 ot1, .bool st1, .int .i64 fe1, .int .i64 fp1, .int .i64 fh1, .int .i64 ft1, .bool lo1] 40)
  have Y0 := ((Box.newAt (w := w1) (n := w1.heap.size) rfl 33 #[.slice b1 zs1.length e1]).past (.cells #[.int .i64 p1, .slice b2 r1.length e2, .bool d1] 35)).past (.cells #[.int .i64 mo1, .int .i64 ba1, .slice b3 l1.length e3, .int .i64 op1, .int .i64 oh1, .int .i64 ot1, .bool st1, .int .i64 fe1, .int .i64 fp1, .int .i64 fh1, .int .i64 ft1, .bool lo1] 40)
  have Y1 := (Box.newAt (w := w1.alloc (.cells #[.slice b1 zs1.length e1] 33)) (n := w1.heap.size + 1) (by simp) 35 #[.int .i64 p1, .slice b2 r1.length e2, .bool d1]).past (.cells #[.int .i64 mo1, .int .i64 ba1, .slice b3 l1.length e3, .int .i64 op1, .int .i64 oh1, .int .i64 ot1, .bool st1, .int .i64 fe1, .int .i64 fp1, .int .i64 fh1, .int .i64 ft1, .bool lo1] 40)
  have Y2 := Box.newAt (w := (w1.alloc (.cells #[.slice b1 zs1.length e1] 33)).alloc (.cells #[.int .i64 p1, .slice b2 r1.length e2, .bool d1] 35)) (n := w1.heap.size + 1 + 1) (by simp) 40 #[.int .i64 mo1, .int .i64 ba1, .slice b3 l1.length e3, .int .i64 op1, .int .i64 oh1, .int .i64 ot1, .bool st1, .int .i64 fe1, .int .i64 fp1, .int .i64 fh1, .int .i64 ft1, .bool lo1]
  have C4 : Below w1.heap.size w1 (((w1.alloc (.cells #[.slice b1 zs1.length e1] 33)).alloc (.cells #[.int .i64 p1, .slice b2 r1.length e2, .bool d1] 35)).alloc (.cells #[.int .i64 mo1, .int .i64 ba1, .slice b3 l1.length e3, .int .i64 op1, .int .i64 oh1, .int .i64 ot1, .bool st1, .int .i64 fe1, .int .i64 fp1, .int .i64 fh1, .int .i64 ft1, .bool lo1] 40)) := bel_alloc (bel_alloc (bel_alloc (Below.refl _ _) _) _) _
  have B4 : Hid (Below w.heap.size w (((w1.alloc (.cells #[.slice b1 zs1.length e1] 33)).alloc (.cells #[.int .i64 p1, .slice b2 r1.length e2, .bool d1] 35)).alloc (.cells #[.int .i64 mo1, .int .i64 ba1, .slice b3 l1.length e3, .int .i64 op1, .int .i64 oh1, .int .i64 ot1, .bool st1, .int .i64 fe1, .int .i64 fp1, .int .i64 fh1, .int .i64 ft1, .bool lo1] 40))) := bel_trans (bel_trans BW.out k1) C4
  have T1 : Hid (Sl (((w1.alloc (.cells #[.slice b1 zs1.length e1] 33)).alloc (.cells #[.int .i64 p1, .slice b2 r1.length e2, .bool d1] 35)).alloc (.cells #[.int .i64 mo1, .int .i64 ba1, .slice b3 l1.length e3, .int .i64 op1, .int .i64 oh1, .int .i64 ot1, .bool st1, .int .i64 fe1, .int .i64 fp1, .int .i64 fh1, .int .i64 ft1, .bool lo1] 40)) (.slice b1 zs1.length e1) zs1) := S1.keep C4
  have T2 : Hid (Sl (((w1.alloc (.cells #[.slice b1 zs1.length e1] 33)).alloc (.cells #[.int .i64 p1, .slice b2 r1.length e2, .bool d1] 35)).alloc (.cells #[.int .i64 mo1, .int .i64 ba1, .slice b3 l1.length e3, .int .i64 op1, .int .i64 oh1, .int .i64 ot1, .bool st1, .int .i64 fe1, .int .i64 fp1, .int .i64 fh1, .int .i64 ft1, .bool lo1] 40)) (.slice b2 r1.length e2) r1) := S2.keep C4
  have T3 : Hid (Ls (((w1.alloc (.cells #[.slice b1 zs1.length e1] 33)).alloc (.cells #[.int .i64 p1, .slice b2 r1.length e2, .bool d1] 35)).alloc (.cells #[.int .i64 mo1, .int .i64 ba1, .slice b3 l1.length e3, .int .i64 op1, .int .i64 oh1, .int .i64 ot1, .bool st1, .int .i64 fe1, .int .i64 fp1, .int .i64 fh1, .int .i64 ft1, .bool lo1] 40)) (.slice b3 l1.length e3) l1) := S3.keep C4
  have hz1 : w.heap.size + 1 + 1 + 1 ≤ w1.heap.size := by have := k1.size; have := WS.out; omega
  clear S1 S2 S3 k1 C4 BW m0 s0 i0 i1 i2 s1 d0 d1' d2 d3 d4 d5 d6 d7 d8 d9 d10 d11 s2 WS
  go_upto_region 2 with fail
  generalize ((w1.alloc (.cells #[.slice b1 zs1.length e1] 33)).alloc (.cells #[.int .i64 p1, .slice b2 r1.length e2, .bool d1] 35)).alloc (.cells #[.int .i64 mo1, .int .i64 ba1, .slice b3 l1.length e3, .int .i64 op1, .int .i64 oh1, .int .i64 ot1, .bool st1, .int .i64 fe1, .int .i64 fp1, .int .i64 fh1, .int .i64 ft1, .bool lo1] 40) = W4 at *
  generalize w1.heap.size = N at *
  obtain ⟨N1, hN1⟩ : ∃ N1, N + 1 = N1 := ⟨_, rfl⟩
  obtain ⟨N2, hN2⟩ : ∃ N2, N + 1 + 1 = N2 := ⟨_, rfl⟩
  rw [hN2] at Y2 ⊢
  rw [hN1] at Y1 ⊢
  clear hN1 hN2 hz1
  go_wp2_with fail
  refine (ran_true _).mono ?_
  rintro e w5 ⟨rfl, k5⟩
  have X0 := X0.keep k5
  have X1 := X1.keep k5
  have X2 := X2.keep k5
  have Y0 := Y0.keep k5
  have Y1 := Y1.keep k5
  have Y2 := Y2.keep k5
  have B5 : Hid (Below w.heap.size w w5) := bel_trans B4.out k5
  have T1 : Hid (Sl w5 (.slice b1 zs1.length e1) zs1) := T1.out.keep k5
  have T2 : Hid (Sl w5 (.slice b2 r1.length e2) r1) := T2.out.keep k5
  have T3 : Hid (Ls w5 (.slice b3 l1.length e3) l1) := T3.out.keep k5
  clear k5 B4
  by_cases hf : f1 = 0
  rotate_left
  · have hq : (f1 != 0) = true := by simpa using hf
    clear hf HE X0 X1 X2 Y0 Y1 Y2
    go_wp2_with fail
    refine (ran_true _).mono ?_
    rintro e w6 ⟨rfl, k6⟩
    go_wp2
    go_ret
    exact ⟨rfl, bel_trans B5.out k6⟩
  subst hf
  have hgo : goS zs ⟨p, r, d⟩ ⟨mo, ba, l, op, oh, ot, st, fe, fp, fh, ft, lo⟩ = (zs1, ⟨p1, r1, d1⟩, ⟨mo1, ba1, l1, op1, oh1, ot1, st1, fe1, fp1, fh1, ft1, lo1⟩) := by rw [← HST.out, stR, if_pos HE.out]
  obtain ⟨hk1, hk2, hk3, hk4, hk5, hk6, hk7, hk8, hk9, hk10, hk11⟩ := goS_keeps HE.out hgo
  clear hgo
  dsimp only at hk1 hk2 hk3 hk4 hk5 hk6 hk7 hk8 hk9 hk10 hk11
  have hpp := (chkH_ok (stE_ok HE.out).2.1).2.1
  dsimp only at hpp
  obtain ⟨hp0, hp1⟩ := hpp
  have HE2 : Hid (stE zs1 ⟨p1, r1, d1⟩ ⟨mo1, ba1, l1, op1, oh1, ot1, st1, fe1, fp1, fh1, ft1, lo1⟩ = if d1 = true then 6 else 0) := stE_mk hk1 hk2 hk3
  have HK11 : Hid (p1 = nextP p ∨ d1 = true ∧ p1 = p ∨ d1 = false ∧ p1 ≤ 63) := hk11
  clear hk1 hk2 hk3 hk4 hk5 hk6 hk7 hk8 hk9 hk10 hk11 HE HST X0 X2
  obtain ⟨zs2, p2, r2, d2, mo2, ba2, op2, oh2, ot2, fe2, fp2, fh2, ft2, st2, lo2, l2, hR⟩ : ∃ zs2 p2 r2 d2 mo2 ba2 op2 oh2 ot2 fe2 fp2 fh2 ft2 st2 lo2 l2, stR zs1 ⟨p1, r1, d1⟩ ⟨mo1, ba1, l1, op1, oh1, ot1, st1, fe1, fp1, fh1, ft1, lo1⟩ = (zs2, ⟨p2, r2, d2⟩, ⟨mo2, ba2, l2, op2, oh2, ot2, st2, fe2, fp2, fh2, ft2, lo2⟩) := ⟨_, _, _, _, _, _, _, _, _, _, _, _, _, _, _, _, rfl⟩
  have HR2 : Hid _ := hR
  clear hR
  obtain ⟨f2, hf2⟩ : ∃ f2 : Int, (if d1 = true then (6 : Int) else 0) = f2 := ⟨_, rfl⟩
  have HF2 : Hid _ := hf2
  rw [hf2] at HE2
  clear hf2
  obtain ⟨m0, -, s0⟩ := Y0.one
  obtain ⟨i0, i1, i2, -, -, -, s1⟩ := Y1.three
  obtain ⟨⟨q0, q1, q2, q3, q4, q5, q6, q7, q8, q9, q10, q11⟩, s2⟩ := Y2.twelve
  go_wp2_with fail
  refine (step_at HE2.out HR2.out T1.out T2.out T3.out).mono ?_
  rintro e w6 ⟨g1, o1, g2, o2, g3, o3, rfl, -, -, -, -, -, -, k6⟩
  have X1 := X1.keep k6
  have Y1 := Y1.keep k6
  have B6 : Hid (Below w.heap.size w w6) := bel_trans B5.out k6
  clear k6 m0 s0 i0 i1 i2 s1 q0 q1 q2 q3 q4 q5 q6 q7 q8 q9 q10 q11 s2 Y0 Y2 T1 T2 T3 HR2 HE2
  obtain ⟨i0, i1, i2, -, -, -, s1⟩ := Y1.three
  obtain ⟨j0, j1, j2, -, -, -, s2⟩ := X1.three
  have t1 : N1 < w6.heap.size + 1 := by omega
  have t2 : N1 < w6.heap.size + 1 + 1 := by omega
  have t3 : N1 < w6.heap.size + 1 + 1 + 1 := by omega
  have t4 : w.heap.size + 1 < w6.heap.size + 1 := by omega
  have t5 : w.heap.size + 1 < w6.heap.size + 1 + 1 := by omega
  have t6 : w.heap.size + 1 < w6.heap.size + 1 + 1 + 1 := by omega
  have hwr : IntKind.i64.wrap (p + 1) = p + 1 := wraps_i64 _ (by omega) (by omega)
  obtain ⟨np, hnp⟩ : ∃ np, (p + 1) % 512 = np := ⟨_, rfl⟩
  have HNP : Hid (nextP p = np) := hnp
  have F2 := HF2.out
  clear HF2
  rw [HNP.out] at HK11
  by_cases hA : p1 = np
  · have qA : (p1 == np) = true := by simpa using hA
    clear hA HK11
    cases d1
    · obtain rfl : (0 : Int) = f2 := by simpa using F2
      clear F2
      go_wp2
      go_ret
      exact ⟨rfl, bel_alloc (bel_alloc (bel_alloc B6.out _) _) _⟩
    · obtain rfl : (6 : Int) = f2 := by simpa using F2
      clear F2
      go_wp2
      go_ret
      exact ⟨rfl, bel_alloc (bel_alloc (bel_alloc B6.out _) _) _⟩
  · have qA : (p1 == np) = false := by simpa using hA
    cases d1
    · obtain rfl : (0 : Int) = f2 := by simpa using F2
      have qC : p1 ≤ 63 := by
        rcases HK11.out with e | ⟨e, -⟩ | ⟨-, e⟩
        · exact absurd e hA
        · cases e
        · exact e
      clear F2 hA HK11
      go_wp2
      go_ret
      exact ⟨rfl, bel_alloc (bel_alloc (bel_alloc B6.out _) _) _⟩
    · obtain rfl : (6 : Int) = f2 := by simpa using F2
      have qB : (p1 == p) = true := by
        rcases HK11.out with e | ⟨-, e⟩ | ⟨e, -⟩
        · exact absurd e hA
        · simpa using e
        · cases e
      clear F2 hA HK11
      go_wp2
      go_ret
      exact ⟨rfl, bel_alloc (bel_alloc (bel_alloc B6.out _) _) _⟩
end Go.Proofs.Ytfbmmiikhkmpfac
/-
  What the openers share.
-/
namespace Go.Proofs.Ytfbmmiikhkmpfac
open Go.ChangeShapes Go.WideShapes Go.ChangeAt Go.RowKit

theorem law_own : ownKnob Try.prog.godebug = none := by kernel_rfl
theorem law_laidOut : laidOutB Try.prog = true := by kernel_rfl
theorem int_cells : Try.prog.cellsOf 3 = 1 := by kernel_rfl
theorem bool_cells : Try.prog.cellsOf 4 = 1 := by kernel_rfl

theorem array5 {cs : List Value} (h : cs.length = 5) : ∃ c0 c1 c2 c3 c4, cs = [c0, c1, c2, c3, c4] := by
  match cs, h with
  | [c0, c1, c2, c3, c4], _ => exact ⟨c0, c1, c2, c3, c4, rfl⟩
theorem array3 {cs : List Value} (h : cs.length = 3) : ∃ c0 c1 c2, cs = [c0, c1, c2] := by
  match cs, h with
  | [c0, c1, c2], _ => exact ⟨c0, c1, c2, rfl⟩
theorem array4 {cs : List Value} (h : cs.length = 4) : ∃ c0 c1 c2 c3, cs = [c0, c1, c2, c3] := by
  match cs, h with
  | [c0, c1, c2, c3], _ => exact ⟨c0, c1, c2, c3, rfl⟩

section
variable {H : Type} {enc : TypeId × Value → H} {W : World}

theorem cell_int {n : Nat} {c : Value} {y : Option (DataW H × List MemPlace)} (h : DataW.trod enc Try.prog W 0 (fun _ => true) true n 3 [c] = y) (hy : y ≠ none) : ∃ a, c = .int .i64 a := by
  cases y with
  | none => exact absurd rfl hy
  | some y =>
    obtain ⟨a, e, _⟩ := DataW.trod_int Try.underlying3 h
    exact ⟨a, by simpa using e⟩
theorem cell_bool {n : Nat} {c : Value} {y : Option (DataW H × List MemPlace)} (h : DataW.trod enc Try.prog W 0 (fun _ => true) true n 4 [c] = y) (hy : y ≠ none) : ∃ a, c = .bool a := by
  cases y with
  | none => exact absurd rfl hy
  | some y =>
    obtain ⟨a, e, _⟩ := DataW.trod_bool Try.underlying4 h
    exact ⟨a, by simpa using e⟩

set_option maxRecDepth 100000 in
theorem cell_intw {n : Nat} {c : Value} {y : Option (DataW H × List MemPlace)} (h : DataW.trod enc Try.prog W 0 (fun _ => true) true n 3 [c] = y) (hy : y ≠ none) : ∃ a, c = .int .i64 a ∧ -9223372036854775808 ≤ a ∧ a ≤ 9223372036854775807 := by
  cases y with
  | none => exact absurd rfl hy
  | some y =>
    obtain ⟨a, e, _, hw⟩ := DataW.trod_int Try.underlying3 h
    refine ⟨a, by simpa using e, ?_⟩
    simp only [Lit.wf, Bool.and_eq_true, decide_eq_true_eq] at hw
    exact hw

end
end Go.Proofs.Ytfbmmiikhkmpfac
/-
  A memory that comes in as an argument reads as a list of numbers (Sl).
-/
namespace Go.Proofs.Ytfbmmiikhkmpfac
open Go.ChangeShapes Go.WideShapes Go.ChangeAt Go.RowKit

theorem mem_cells : Try.prog.cellsOf 33 = 1 := by kernel_rfl
theorem slice_cells : Try.prog.cellsOf 31 = 1 := by kernel_rfl

/-- A cell that reads as a slice of numbers. -/
theorem open_row {H : Type} {enc : TypeId × Value → H} {W : World} {fuel : Nat} {c0 : Value} {x : DataW H × List MemPlace}
    (h : DataW.trod enc Try.prog W 0 (fun _ => true) true fuel 31 [c0] = some x) : ∃ zs, Sl W c0 zs := by
  rcases open_ints Try.underlying31 Try.underlying3 int_cells h with ⟨hcs, _⟩ | ⟨a, len, cap, zs, hcs, _, hl, hm, hz, _, hcell, _⟩
  · simp only [List.cons.injEq, and_true] at hcs
    subst hcs
    exact ⟨[], Sl.nil _ _ _⟩
  · simp only [List.cons.injEq, and_true] at hcs
    subst hcs
    simp only [if_true] at hz
    by_cases h0 : len = 0
    · subst h0
      exact ⟨[], Sl.nil _ _ _⟩
    · obtain ⟨b, off, spot⟩ := a
      have hc := hcell 0 (by omega)
      have hspot : spot = none := by simpa [Addr.add] using World.cell?_spot hc
      subst hspot
      have hlen : (zs.take len).length = len := by simp; omega
      refine ⟨zs.take len, _, cap, by rw [hlen], by omega, .inr ⟨b, off, rfl, ?_, fun i hi => ?_⟩⟩
      · have := World.block_lt_of_cell? W _ hc
        simpa [Addr.add] using this
      · have ha : Addr.add ⟨b, off, none⟩ i = ⟨b, off + i, none⟩ := by unfold Addr.add; split <;> simp_all
        have := hcell i (by omega)
        rw [ha] at this
        rw [this]
        have hi' : i < len := by omega
        simp [nth, hi']

set_option maxRecDepth 100000 in
theorem open_mem {H : Type} {enc : TypeId × Value → H} {W : World} {b0 : Nat} {v : Value} {d : DataW H} {p : List MemPlace} (hv : Value.okWide Try.prog W .any b0 33 v)
    (h : DataW.Trod enc Try.prog W 0 (fun _ => true) true 33 v d p) : ∃ v0 zs, v = .agg #[v0] ∧ Sl W v0 zs := by
  obtain ⟨cs, rfl, hsz⟩ := okWide_struct Try.underlying33 hv
  rw [mem_cells] at hsz
  obtain ⟨l⟩ := cs
  match l, hsz with
  | [c0], _ =>
    obtain ⟨fuel, hf⟩ := h
    obtain ⟨y0, n, _, _, h0⟩ := trod_struct1 Try.underlying33 hf
    obtain ⟨zs, hs⟩ := open_row (c0 := c0) (by simpa [Value.cells, slice_cells] using h0)
    exact ⟨c0, zs, rfl, hs⟩
end Go.Proofs.Ytfbmmiikhkmpfac
/-
  A hart that comes in as an argument is written out.
-/
namespace Go.Proofs.Ytfbmmiikhkmpfac
open Go.ChangeShapes Go.WideShapes Go.ChangeAt Go.RowKit

theorem hart_cells : Try.prog.cellsOf 35 = 3 := by kernel_rfl
section
variable {H : Type} {enc : TypeId × Value → H} {W : World}
set_option maxRecDepth 100000 in
theorem open_hrt {b0 : Nat} {v : Value} {d : DataW H} {p : List MemPlace} (hv : Value.okWide Try.prog W .any b0 35 v) (h : DataW.Trod enc Try.prog W 0 (fun _ => true) true 35 v d p) :
    ∃ a u l b, v = .agg #[.int .i64 a, u, .bool b] ∧ Sl W u l := by
  obtain ⟨cs, rfl, _⟩ := okWide_struct Try.underlying35 hv
  obtain ⟨fuel, hf⟩ := h
  obtain ⟨xs, n, _, _, hl, hlen, hf⟩ := DataW.trod_struct Try.underlying35 hf
  rw [hart_cells] at hl
  obtain ⟨l⟩ := cs
  simp only [Value.cells] at hl hf
  obtain ⟨c0, c1, c2, rfl⟩ := array3 hl
  have some_at : ∀ i, i < 3 → ∃ y, xs[i]? = some y := fun i hi => by
    rw [List.getElem?_eq_getElem (by rw [hlen]; exact hi)]; simp
  have ne_at : ∀ i, i < 3 → xs[i]? ≠ none := fun i hi => by
    obtain ⟨y, hy⟩ := some_at i hi; rw [hy]; simp
  obtain ⟨a, rfl⟩ := cell_int (by simpa [int_cells, bool_cells, slice_cells] using hf 0 _ rfl) (ne_at 0 (by omega))
  obtain ⟨y1, hy1⟩ := some_at 1 (by omega)
  obtain ⟨l, hL⟩ := open_row (c0 := c1) (x := y1) (by rw [← hy1]; simpa [int_cells, bool_cells, slice_cells] using hf 1 _ rfl)
  obtain ⟨b, rfl⟩ := cell_bool (by simpa [int_cells, bool_cells, slice_cells] using hf 2 _ rfl) (ne_at 2 (by omega))
  exact ⟨a, c1, l, b, rfl, hL⟩
end
end Go.Proofs.Ytfbmmiikhkmpfac
/-
  An order that comes in as an argument is written out.
-/
namespace Go.Proofs.Ytfbmmiikhkmpfac
open Go.ChangeShapes Go.WideShapes Go.ChangeAt Go.RowKit

section
variable {H : Type} {enc : TypeId × Value → H} {W : World}

end
end Go.Proofs.Ytfbmmiikhkmpfac
/-
  Lines, a line, an order that come in as arguments are written out.
-/
namespace Go.Proofs.Ytfbmmiikhkmpfac
open Go.ChangeShapes Go.WideShapes Go.ChangeAt Go.RowKit

theorem line_cells : Try.prog.cellsOf 56 = 5 := by kernel_rfl

section
variable {H : Type} {enc : TypeId × Value → H} {W : World}

set_option maxRecDepth 100000 in
/-- The cells of a line. -/
theorem line_open {fuel : Nat} {cs : List Value} {x : DataW H × List MemPlace} (h : DataW.trod enc Try.prog W 0 (fun _ => true) true fuel 56 cs = some x) :
    ∃ y : Ln, cs = [.int .i64 y.1, .int .i64 y.2.1, .int .i64 y.2.2.1, .bool y.2.2.2.1, .bool y.2.2.2.2] := by
  obtain ⟨xs, n, _, _, hl, hlen, hf⟩ := DataW.trod_struct Try.underlying56 h
  rw [line_cells] at hl
  obtain ⟨c0, c1, c2, c3, c4, rfl⟩ := array5 hl
  have some_at : ∀ i, i < 5 → xs[i]? ≠ none := fun i hi => by
    rw [List.getElem?_eq_getElem (by rw [hlen]; exact hi)]; simp
  obtain ⟨a, rfl⟩ := cell_int (by simpa [int_cells] using hf 0 _ rfl) (some_at 0 (by omega))
  obtain ⟨b, rfl⟩ := cell_int (by simpa [int_cells] using hf 1 _ rfl) (some_at 1 (by omega))
  obtain ⟨c, rfl⟩ := cell_int (by simpa [int_cells] using hf 2 _ rfl) (some_at 2 (by omega))
  obtain ⟨d, rfl⟩ := cell_bool (by simpa [bool_cells] using hf 3 _ rfl) (some_at 3 (by omega))
  obtain ⟨p, rfl⟩ := cell_bool (by simpa [bool_cells] using hf 4 _ rfl) (some_at 4 (by omega))
  exact ⟨(a, b, c, d, p), rfl⟩
set_option maxRecDepth 100000 in
theorem open_line {b0 : Nat} {v : Value} {d : DataW H} {p : List MemPlace} (hv : Value.okWide Try.prog W .any b0 56 v) (h : DataW.Trod enc Try.prog W 0 (fun _ => true) true 56 v d p) :
    ∃ a b c e n, v = .agg #[.int .i64 a, .int .i64 b, .int .i64 c, .bool e, .bool n] := by
  obtain ⟨cs, rfl, _⟩ := okWide_struct Try.underlying56 hv
  obtain ⟨fuel, hf⟩ := h
  obtain ⟨y, hc⟩ := line_open hf
  obtain ⟨l⟩ := cs
  simp only [Value.cells] at hc
  exact ⟨_, _, _, _, _, by rw [hc]⟩
theorem choose_len {P : Nat → Ln → Prop} : ∀ n, (∀ i, i < n → ∃ y, P i y) → ∃ l : List Ln, l.length = n ∧ ∀ i, i < n → P i (lth l i)
  | 0, _ => ⟨[], rfl, fun i hi => absurd hi (Nat.not_lt_zero _)⟩
  | n + 1, h => by
    obtain ⟨l, hl, hp⟩ := choose_len n fun i hi => h i (by omega)
    obtain ⟨y, hy⟩ := h n (by omega)
    refine ⟨l ++ [y], by simp [hl], fun i hi => ?_⟩
    by_cases e : i = n
    · subst e
      have : lth (l ++ [y]) i = y := by simp [lth, ← hl]
      rw [this]; exact hy
    · have : lth (l ++ [y]) i = lth l i := by
        have hi' : i < l.length := by omega
        simp [lth, List.getElem?_append_left hi']
      rw [this]; exact hp i (by omega)

set_option maxRecDepth 100000 in
/-- A cell that reads as a slice of lines. -/
theorem lines_row {fuel : Nat} {c0 : Value} {x : DataW H × List MemPlace} (h : DataW.trod enc Try.prog W 0 (fun _ => true) true fuel 36 [c0] = some x) : ∃ l, Ls W c0 l := by
  rcases Deep.open_slice Try.underlying36 h with ⟨hcs, _⟩ | ⟨a, len, cap, m, n, D, Pl, hcs, hb, hl, hm, hmm, _, hx⟩
  · simp only [List.cons.injEq, and_true] at hcs
    subst hcs
    exact ⟨[], Ls.nothing _⟩
  · simp only [List.cons.injEq, and_true] at hcs
    subst hcs
    simp only [if_true] at hmm
    rw [line_cells] at hx
    by_cases h0 : len = 0
    · subst h0
      exact ⟨[], Ls.nil _ _ _ hm⟩
    · obtain ⟨b, off, spot⟩ := a
      have each : ∀ i, i < len → ∃ y : Ln, ∀ j u, (j < 5 ∧ [Value.int .i64 y.1, .int .i64 y.2.1, .int .i64 y.2.2.1, .bool y.2.2.2.1, .bool y.2.2.2.2][j]? = some u) → W.cell? ((⟨b, off, spot⟩ : Addr).add (i * 5 + j)) = some u := by
        intro i hi
        obtain ⟨cs', h1, h2⟩ := hx i (by omega)
        obtain ⟨y, rfl⟩ := line_open h2
        obtain ⟨_, _, hcell⟩ := World.cells?_some h1
        refine ⟨y, fun j u ⟨hj, hu⟩ => ?_⟩
        have := hcell j (by omega)
        rw [Deep.add_add, hu] at this
        exact this
      obtain ⟨l, hlen, hp⟩ := choose_len (P := fun i y => ∀ j u, (j < 5 ∧ [Value.int .i64 y.1, .int .i64 y.2.1, .int .i64 y.2.2.1, .bool y.2.2.2.1, .bool y.2.2.2.2][j]? = some u) → W.cell? ((⟨b, off, spot⟩ : Addr).add (i * 5 + j)) = some u) len each
      have hc := hp 0 (by omega) 0 _ ⟨by omega, rfl⟩
      have hspot : spot = none := by simpa [Addr.add] using World.cell?_spot hc
      subst hspot
      have ha : ∀ i, Addr.add ⟨b, off, none⟩ i = ⟨b, off + i, none⟩ := fun i => by unfold Addr.add; split <;> simp_all
      refine ⟨l, _, cap, by rw [hlen], by omega, hm, .inr ⟨b, off, rfl, ?_, fun i hi => ?_⟩⟩
      · have := World.block_lt_of_cell? W _ hc
        simpa [Addr.add] using this
      · rw [hlen] at hi
        have hq := hp i hi
        refine ⟨?_, ?_, ?_, ?_, ?_⟩
        · have := hq 0 _ ⟨by omega, rfl⟩; rw [ha] at this; exact this
        · have := hq 1 _ ⟨by omega, rfl⟩; rw [ha, ← Nat.add_assoc] at this; exact this
        · have := hq 2 _ ⟨by omega, rfl⟩; rw [ha, ← Nat.add_assoc] at this; exact this
        · have := hq 3 _ ⟨by omega, rfl⟩; rw [ha, ← Nat.add_assoc] at this; exact this
        · have := hq 4 _ ⟨by omega, rfl⟩; rw [ha, ← Nat.add_assoc] at this; exact this
set_option maxRecDepth 100000 in
theorem open_lines {b0 : Nat} {v : Value} {d : DataW H} {p : List MemPlace} (hv : Value.okWide Try.prog W .any b0 36 v) (h : DataW.Trod enc Try.prog W 0 (fun _ => true) true 36 v d p) :
    ∃ l, Ls W v l := by
  obtain ⟨fuel, hf⟩ := h
  have hone : v.cells.toList = [v] := by
    simp only [Value.okWide, Try.underlying36, Cell.okWide] at hv
    cases v <;> simp_all [Value.cells, Cell.ok]
  rw [hone] at hf
  exact lines_row hf
end
end Go.Proofs.Ytfbmmiikhkmpfac
/-
  A ring that comes in as an argument is written out.
-/
namespace Go.Proofs.Ytfbmmiikhkmpfac
open Go.ChangeShapes Go.WideShapes Go.ChangeAt Go.RowKit

theorem ring_cells : Try.prog.cellsOf 38 = 3 := by kernel_rfl
section
variable {H : Type} {enc : TypeId × Value → H} {W : World}
set_option maxRecDepth 100000 in
/-- The cells of a ring. -/
theorem ring_open {fuel : Nat} {cs : List Value} {x : DataW H × List MemPlace} (h : DataW.trod enc Try.prog W 0 (fun _ => true) true fuel 38 cs = some x) :
    ∃ a b p, cs = [.int .i64 a, .int .i64 b, .int .i64 p] := by
  obtain ⟨xs, n, _, _, hl, hlen, hf⟩ := DataW.trod_struct Try.underlying38 h
  rw [ring_cells] at hl
  obtain ⟨c0, c1, c2, rfl⟩ := array3 hl
  have some_at : ∀ i, i < 3 → xs[i]? ≠ none := fun i hi => by
    rw [List.getElem?_eq_getElem (by rw [hlen]; exact hi)]; simp
  obtain ⟨a, rfl⟩ := cell_int (by simpa [int_cells] using hf 0 _ rfl) (some_at 0 (by omega))
  obtain ⟨b, rfl⟩ := cell_int (by simpa [int_cells] using hf 1 _ rfl) (some_at 1 (by omega))
  obtain ⟨p, rfl⟩ := cell_int (by simpa [int_cells] using hf 2 _ rfl) (some_at 2 (by omega))
  exact ⟨a, b, p, rfl⟩
set_option maxRecDepth 100000 in
theorem open_ring {b0 : Nat} {v : Value} {d : DataW H} {p : List MemPlace} (hv : Value.okWide Try.prog W .any b0 38 v) (h : DataW.Trod enc Try.prog W 0 (fun _ => true) true 38 v d p) :
    ∃ a b n, v = .agg #[.int .i64 a, .int .i64 b, .int .i64 n] := by
  obtain ⟨cs, rfl, _⟩ := okWide_struct Try.underlying38 hv
  obtain ⟨fuel, hf⟩ := h
  obtain ⟨a, b, n, hc⟩ := ring_open hf
  obtain ⟨l⟩ := cs
  simp only [Value.cells] at hc
  exact ⟨a, b, n, by rw [hc]⟩
end
end Go.Proofs.Ytfbmmiikhkmpfac
/-
  A bridge that comes in as an argument is written out.
-/
namespace Go.Proofs.Ytfbmmiikhkmpfac
open Go.ChangeShapes Go.WideShapes Go.ChangeAt Go.RowKit

theorem bri_cells : Try.prog.cellsOf 40 = 12 := by kernel_rfl
theorem lines_cells : Try.prog.cellsOf 36 = 1 := by kernel_rfl
theorem array12 {cs : List Value} (h : cs.length = 12) : ∃ c0 c1 c2 c3 c4 c5 c6 c7 c8 c9 c10 c11, cs = [c0, c1, c2, c3, c4, c5, c6, c7, c8, c9, c10, c11] := by
  match cs, h with
  | [c0, c1, c2, c3, c4, c5, c6, c7, c8, c9, c10, c11], _ => exact ⟨c0, c1, c2, c3, c4, c5, c6, c7, c8, c9, c10, c11, rfl⟩
section
variable {H : Type} {enc : TypeId × Value → H} {W : World}
set_option maxRecDepth 100000 in
theorem open_bri {b0 : Nat} {v : Value} {d : DataW H} {p : List MemPlace} (hv : Value.okWide Try.prog W .any b0 40 v) (h : DataW.Trod enc Try.prog W 0 (fun _ => true) true 40 v d p) :
    ∃ mo ba op oh ot fe fp fh ft st lo vc l, v = .agg #[.int .i64 mo, .int .i64 ba, vc, .int .i64 op, .int .i64 oh, .int .i64 ot, .bool st, .int .i64 fe, .int .i64 fp, .int .i64 fh, .int .i64 ft, .bool lo] ∧ Ls W vc l := by
  obtain ⟨cs, rfl, _⟩ := okWide_struct Try.underlying40 hv
  obtain ⟨fuel, hf⟩ := h
  obtain ⟨xs, n, _, _, hl, hlen, hf⟩ := DataW.trod_struct Try.underlying40 hf
  rw [bri_cells] at hl
  obtain ⟨l⟩ := cs
  simp only [Value.cells] at hl hf
  obtain ⟨c0, c1, c2, c3, c4, c5, c6, c7, c8, c9, c10, c11, rfl⟩ := array12 hl
  have some_at : ∀ i, i < 8 → ∃ y, xs[i]? = some y := fun i hi => by
    rw [List.getElem?_eq_getElem (by rw [hlen]; exact hi)]; simp
  have ne_at : ∀ i, i < 8 → xs[i]? ≠ none := fun i hi => by
    obtain ⟨y, hy⟩ := some_at i hi; rw [hy]; simp
  obtain ⟨mo, rfl⟩ := cell_int (by simpa [int_cells, bool_cells, lines_cells, ring_cells] using hf 0 _ rfl) (ne_at 0 (by omega))
  obtain ⟨ba, rfl⟩ := cell_int (by simpa [int_cells, bool_cells, lines_cells, ring_cells] using hf 1 _ rfl) (ne_at 1 (by omega))
  obtain ⟨y2, hy2⟩ := some_at 2 (by omega)
  obtain ⟨l, hL⟩ := lines_row (c0 := c2) (x := y2) (by rw [← hy2]; simpa [int_cells, bool_cells, lines_cells, ring_cells] using hf 2 _ rfl)
  obtain ⟨y3, hy3⟩ := some_at 3 (by omega)
  obtain ⟨op, oh, ot, e3⟩ := ring_open (cs := [c3, c4, c5]) (x := y3) (by rw [← hy3]; simpa [int_cells, bool_cells, lines_cells, ring_cells] using hf 3 _ rfl)
  obtain ⟨st, rfl⟩ := cell_bool (by simpa [int_cells, bool_cells, lines_cells, ring_cells] using hf 4 _ rfl) (ne_at 4 (by omega))
  obtain ⟨fe, rfl⟩ := cell_int (by simpa [int_cells, bool_cells, lines_cells, ring_cells] using hf 5 _ rfl) (ne_at 5 (by omega))
  obtain ⟨y6, hy6⟩ := some_at 6 (by omega)
  obtain ⟨fp, fh, ft, e6⟩ := ring_open (cs := [c8, c9, c10]) (x := y6) (by rw [← hy6]; simpa [int_cells, bool_cells, lines_cells, ring_cells] using hf 6 _ rfl)
  obtain ⟨lo, rfl⟩ := cell_bool (by simpa [int_cells, bool_cells, lines_cells, ring_cells] using hf 7 _ rfl) (ne_at 7 (by omega))
  simp only [List.cons.injEq, and_true] at e3 e6
  obtain ⟨rfl, rfl, rfl⟩ := e3
  obtain ⟨rfl, rfl, rfl⟩ := e6
  exact ⟨mo, ba, op, oh, ot, fe, fp, fh, ft, st, lo, c2, l, rfl, hL⟩
end
end Go.Proofs.Ytfbmmiikhkmpfac
