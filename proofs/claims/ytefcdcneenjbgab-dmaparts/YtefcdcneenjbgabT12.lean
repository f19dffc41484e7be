/-
  Laid together: PlainB, Crossed, Carried, EqualT, RefAsk, EqualL.
-/
import Derived.Test.YtefcdcneenjbgabT11
/-
  Package bridge: Plain; and the forms of Through and Plain where what they answer is known.
-/
namespace Go.Proofs.Ytefcdcneenjbgab
open Go.RowKit

theorem through_at {v : Value} {zs : List Int} {mo ba op oh ot fe fp fh ft : Int} {st lo : Bool} {vc : Value} {l : List Ln} {d p : Int} {wr : Bool} {w : World} {mo1 ba1 op1 oh1 ot1 fe1 fp1 fh1 ft1 : Int} {st1 lo1 : Bool} {l1 : List Ln} {k f e0 : Int} (hs : Sl w v zs) (h : Ls w vc l) (hE : thE zs ⟨mo, ba, l, op, oh, ot, st, fe, fp, fh, ft, lo⟩ d p = e0) (hR : thR zs ⟨mo, ba, l, op, oh, ot, st, fe, fp, fh, ft, lo⟩ d p wr = (⟨mo1, ba1, l1, op1, oh1, ot1, st1, fe1, fp1, fh1, ft1, lo1⟩, k, f)) :
    Calls Try.prog 24 #[.agg #[v], .agg #[.int .i64 mo, .int .i64 ba, vc, .int .i64 op, .int .i64 oh, .int .i64 ot, .bool st, .int .i64 fe, .int .i64 fp, .int .i64 fh, .int .i64 ft, .bool lo], .int .i64 d, .int .i64 p, .bool wr] w fun e w' =>
      ∃ va1 vk1, e = .returned (.tuple #[.agg #[.int .i64 mo1, .int .i64 ba1, .slice va1 l1.length vk1, .int .i64 op1, .int .i64 oh1, .int .i64 ot1, .bool st1, .int .i64 fe1, .int .i64 fp1, .int .i64 fh1, .int .i64 ft1, .bool lo1], .int .i64 k, .int .i64 f, .int .i64 e0]) ∧ Ls w' (.slice va1 l1.length vk1) l1 ∧ Below w.heap.size w w' := by
  refine (through_any v zs mo ba op oh ot fe fp fh ft st lo vc l d p wr w hs h).mono ?_
  rintro e w' ⟨mo2, ba2, op2, oh2, ot2, fe2, fp2, fh2, ft2, st2, lo2, va2, vk2, l2, k2, f2, rfl, hR2, hl, hb⟩
  rw [hR] at hR2
  simp only [Prod.mk.injEq, Br.mk.injEq] at hR2
  obtain ⟨⟨rfl, rfl, rfl, rfl, rfl, rfl, rfl, rfl, rfl, rfl, rfl, rfl⟩, rfl, rfl⟩ := hR2
  rw [hE]
  exact ⟨va2, vk2, rfl, hl, hb⟩

set_option maxHeartbeats 4000000 in
theorem plain_at {v : Value} {zs : List Int} {mo ba op oh ot fe fp fh ft : Int} {st lo : Bool} {vc : Value} {l : List Ln} {d p : Int} {wr : Bool} {w : World} {c : Br} {k f e0 : Int} (hs : Sl w v zs) (h : Ls w vc l) (hE : thE zs ⟨mo, ba, [], op, oh, ot, st, fe, fp, fh, ft, lo⟩ d p = e0) (hR : thR zs ⟨mo, ba, [], op, oh, ot, st, fe, fp, fh, ft, lo⟩ d p wr = (c, k, f)) :
    Calls Try.prog 25 #[.agg #[v], .agg #[.int .i64 mo, .int .i64 ba, vc, .int .i64 op, .int .i64 oh, .int .i64 ot, .bool st, .int .i64 fe, .int .i64 fp, .int .i64 fh, .int .i64 ft, .bool lo], .int .i64 d, .int .i64 p, .bool wr] w fun e w' =>
      e = .returned (.tuple #[.int .i64 k, .int .i64 f, .int .i64 e0]) ∧ Below w.heap.size w w' := by
  obtain ⟨va, vk, rfl, -⟩ := h.shape
  have HM : Hid (Sl w v zs) := hs
  obtain ⟨ma, mc, rfl⟩ := hs.shape
  obtain ⟨mo1, ba1, l1, op1, oh1, ot1, st1, fe1, fp1, fh1, ft1, lo1⟩ := c
  have HE : Hid (_ = _) := hE
  have HR : Hid (_ = _) := hR
  clear h hs hE hR
  go_enter Try.func25, Try.ntmps25
  go_wp2_with fail
  have B1 : Hid (Below w.heap.size w _) := bel_alloc (bel_alloc (Below.refl w.heap.size w) (.cells #[.slice ma zs.length mc] 39)) (.cells #[.int .i64 mo, .int .i64 ba, .slice none 0 0, .int .i64 op, .int .i64 oh, .int .i64 ot, .bool st, .int .i64 fe, .int .i64 fp, .int .i64 fh, .int .i64 ft, .bool lo] 44)
  refine (through_at (HM.out.keep B1.out) (Ls.nothing _) HE.out HR.out).mono ?_
  rintro e w2 ⟨va1, vk1, rfl, hl, hb⟩
  have B2 : Hid (Below w.heap.size w w2) := bel_trans B1.out hb
  clear hb hl
  go_wp2
  refine bodyPost_ret (v := .tuple #[.int .i64 k, .int .i64 f, .int .i64 e0]) (by simp [results, Try.results25, go_sem, *]) rfl ⟨rfl, ?_⟩
  (repeat (first | with_reducible exact B2.out | with_reducible refine bel_alloc ?_ _ | (with_reducible refine bel_set12 ?_ ?_ _ _ _ _ _ _ _ _ _ _ _ _; (focus omega))))
end Go.Proofs.Ytefcdcneenjbgab
/-
  The closed fact 'crossed' of the statements answers true; nothing that was there turns.
-/
namespace Go.Proofs.Ytefcdcneenjbgab
open Go.RowKit
def tab : List Int := wth [9, 33, 10, 3, 16, 49, 24, 159, 25, 139] 5
def tab2 : List Int := tab.set 24 0
theorem cr1 : thE tab ⟨2, 1, [], 40, 0, 0, false, 0, 41, 0, 0, false⟩ 1 0 = 0 := by kernel_rfl
theorem cr2 : thR tab ⟨2, 1, [], 40, 0, 0, false, 0, 41, 0, 0, false⟩ 1 0 true = (⟨2, 1, [(1, 0, 9, true, true)], 40, 0, 0, false, 0, 41, 0, 0, false⟩, 9, 0) := by kernel_rfl
theorem cr3 : thE tab2 ⟨2, 1, [(1, 0, 9, true, true)], 40, 0, 0, false, 0, 41, 0, 0, false⟩ 1 0 = 0 := by kernel_rfl
theorem cr4 : thR tab2 ⟨2, 1, [(1, 0, 9, true, true)], 40, 0, 0, false, 0, 41, 0, 0, false⟩ 1 0 true = (⟨2, 1, [(1, 0, 9, true, true)], 40, 0, 0, false, 0, 41, 0, 0, false⟩, 9, 0) := by kernel_rfl
theorem cr5 : thE tab2 ⟨2, 1, [], 40, 0, 0, false, 0, 41, 0, 0, false⟩ 1 0 = 0 := by kernel_rfl
theorem cr6 : thR tab2 ⟨2, 1, [], 40, 0, 0, false, 0, 41, 0, 0, false⟩ 1 0 true = (⟨2, 1, [], 40, 0, 0, false, 0, 41, 0, 0, false⟩, 0, 3) := by kernel_rfl
theorem cr7 : thR tab2 ⟨2, 1, [], 40, 0, 0, false, 0, 41, 0, 0, false⟩ 2 7 true = (⟨2, 1, [], 40, 0, 0, false, 0, 41, 0, 0, false⟩, 7, 0) := by kernel_rfl
theorem cr8 : thR tab2 ⟨2, 1, [], 40, 0, 0, false, 0, 41, 0, 0, false⟩ 3 7 true = (⟨2, 1, [], 40, 0, 0, false, 0, 41, 0, 0, false⟩, 0, 2) := by kernel_rfl
theorem cr9 : thE tab2 ⟨2, 1, [], 40, 0, 0, false, 0, 41, 0, 0, false⟩ 2 7 = 0 := by kernel_rfl
theorem cr10 : thE tab2 ⟨2, 1, [], 40, 0, 0, false, 0, 41, 0, 0, false⟩ 3 7 = 0 := by kernel_rfl

theorem tab_len : tab.length = 512 := wth_len _ _
theorem tab2_len : tab2.length = 512 := by rw [tab2, List.length_set, tab_len]

set_option maxHeartbeats 4000000 in
theorem tables_own (w : World) : Calls Try.prog 66 #[] w fun e w' =>
    ∃ g, e = .returned (.tuple #[.agg #[.slice (some ⟨g, 0, none⟩) 512 512], .agg #[.int .i64 2, .int .i64 1, .slice none 0 0, .int .i64 40, .int .i64 0, .int .i64 0, .bool false, .int .i64 0, .int .i64 41, .int .i64 0, .int .i64 0, .bool false]]) ∧ w'.heap[g]? = some (.cells (intCells tab) 3 (0, 0)) ∧ w.heap.size ≤ g ∧ Below w.heap.size w w' := by
  go_enter Try.func66, Try.ntmps66
  go_wp2_with fail
  refine (with_own _ 0 10 [9, 33, 10, 3, 16, 49, 24, 159, 25, 139] 5 _ ?_ rfl (by decide) (by decide)).mono ?_
  · exact sl_block (heap_at (by simp)) rfl rfl (by simp [maxLen])
  rintro e w1 ⟨g, rfl, hS, b1, hg, cs, hgc, hcs⟩
  have X0 := (((Box.newAt (n := w.heap.size) rfl 39 #[.slice none 0 0]).past _).past _).keep b1
  have X1 := ((Box.newAt (n := w.heap.size + 1) (by simp) 44 #[.int .i64 0, .int .i64 0, .slice none 0 0, .int .i64 0, .int .i64 0, .int .i64 0, .bool false, .int .i64 0, .int .i64 0, .int .i64 0, .int .i64 0, .bool false]).past _).keep b1
  have B1 : Hid (Below w.heap.size w w1) := bel_trans (bel_alloc (bel_alloc (bel_alloc (Below.refl _ _) _) _) _) b1
  have hg' : w.heap.size + 1 + 1 + 1 ≤ g := by simpa using hg
  have hcc : cs = intCells tab := by
    apply Array.ext'
    rw [hcs, intCells_list]; rfl
  have HG : Hid (w1.heap[g]? = some (.cells (intCells tab) 3 (0, 0))) := by show _ = _; rw [hgc, hcc]
  clear b1 hS hg hgc hcs hcc
  obtain ⟨r0, r1, s0⟩ := X0.one
  obtain ⟨⟨u0, u1, u2, u3, u4, u5, u6, u7, u8, u9, u10, u11⟩, s1⟩ := X1.twelve
  obtain ⟨y0, y1, y2, y3, y4, y5, y6, y7, y8, y9, y10, y11⟩ := X1.marks
  go_wp2
  refine bodyPost_ret (v := .tuple #[.agg #[.slice (some ⟨g, 0, none⟩) 512 512], .agg #[.int .i64 2, .int .i64 1, .slice none 0 0, .int .i64 40, .int .i64 0, .int .i64 0, .bool false, .int .i64 0, .int .i64 41, .int .i64 0, .int .i64 0, .bool false]]) (by simp [results, Try.results66, go_sem, *]) rfl ⟨g, rfl, ?_, by omega, ?_⟩
  · exact (Box.other (p := ⟨w.heap.size, 0, none⟩) HG.out (by dsimp only; omega) _).other12 (by omega) _ _ _ _ _ _ _ _ _ _ _ _
  · exact bel_set12 (by omega) (bel_set (p := ⟨w.heap.size, 0, none⟩) (Nat.le_refl _) B1.out _) _ _ _ _ _ _ _ _ _ _ _ _

theorem sl_tab {w : World} {g : Nat} {zs : List Int} (h : w.heap[g]? = some (.cells (intCells zs) 3 (0, 0))) (hl : zs.length = 512) : Sl w (.slice (some ⟨g, 0, none⟩) 512 512) zs :=
  sl_block h (intCells_list _) hl.symm (by rw [hl]; simp [maxLen])

set_option maxHeartbeats 4000000 in
theorem crossed_true (w : World) : Calls Try.prog 28 #[] w fun e w' => e = .returned (.bool true) ∧ Below w.heap.size w w' := by
  go_enter Try.func28, Try.ntmps28
  go_wp2_with fail
  refine (tables_own _).mono ?_
  rintro e w1 ⟨g, rfl, hg1, hg, b1⟩
  have hgl : g < w1.heap.size := Box.lt hg1
  have z1 : w.heap.size ≤ w1.heap.size := b1.size
  have HG : Hid _ := hg1
  have B1 : Hid (Below w.heap.size w w1) := b1
  clear hg1 b1
  have G2 := heap_past (o := .cells #[.int .i64 2, .int .i64 1, .slice none 0 0, .int .i64 40, .int .i64 0, .int .i64 0, .bool false, .int .i64 0, .int .i64 41, .int .i64 0, .int .i64 0, .bool false] 44) (by simp; omega) (heap_past (o := .cells #[.slice (some ⟨g, 0, none⟩) 512 512] 39) hgl HG.out)
  go_wp2_with fail
  refine (through_at (sl_tab G2 tab_len) (Ls.nothing _) cr1 cr2).mono ?_
  rintro e w2 ⟨va, vk, rfl, hL2, b2⟩
  have X1 := ((Box.newAt (w := w1) rfl 39 #[.slice (some ⟨g, 0, none⟩) 512 512]).past (.cells #[.int .i64 2, .int .i64 1, .slice none 0 0, .int .i64 40, .int .i64 0, .int .i64 0, .bool false, .int .i64 0, .int .i64 41, .int .i64 0, .int .i64 0, .bool false] 44)).keep b2
  have X2 := (Box.newAt (w := w1.alloc (.cells #[.slice (some ⟨g, 0, none⟩) 512 512] 39)) (n := w1.heap.size + 1) (by simp) 44 #[.int .i64 2, .int .i64 1, .slice none 0 0, .int .i64 40, .int .i64 0, .int .i64 0, .bool false, .int .i64 0, .int .i64 41, .int .i64 0, .int .i64 0, .bool false]).keep b2
  have G2 := heap_kept b2 (by simp; omega) G2
  have B2 : Hid (Below w.heap.size w w2) := bel_trans (bel_alloc (bel_alloc B1.out _) _) b2
  clear b2 B1 HG
  have zA : w.heap.size ≤ w1.heap.size := z1
  have zg : g < w2.heap.size := Box.lt G2
  have nA : ¬ g = w1.heap.size := by omega
  have nA1 : ¬ g = w1.heap.size + 1 := by omega
  generalize w1.heap.size = A at *
  clear z1 hgl
  have hL2 : Ls w2 (.slice va 1 vk) [(1, 0, 9, true, true)] := hL2
  have HS2 : Hid (Sl w2 (.slice (some ⟨g, 0, none⟩) 512 512) tab) := sl_tab G2 tab_len
  have HL3 : Hid (Ls ((w2.setCell ⟨g, 24, none⟩ (.int .i64 0)).alloc (.cells #[.int .i64 2, .int .i64 1, .slice va 1 vk, .int .i64 40, .int .i64 0, .int .i64 0, .bool false, .int .i64 0, .int .i64 41, .int .i64 0, .int .i64 0, .bool false] 44)) (.slice va 1 vk) [(1, 0, 9, true, true)]) := by
    have := hL2.setSl HS2.out (k := 24) (by rw [tab_len]; decide) (.int .i64 0)
    rw [Nat.zero_add] at this
    exact this.alloc _
  have g24 : w2.cell? ⟨g, 24, none⟩ = some (.int .i64 (nth tab 24)) := by rw [cell_of_row w2 g _ _ _ _ G2, intCells_at (by rw [tab_len]; decide)]
  have f24 : w2.frozen? ⟨g, 24, none⟩ = false := frozen_of_row w2 g _ _ _ G2
  have G3 : ((w2.setCell ⟨g, 24, none⟩ (.int .i64 0)).alloc (.cells #[.int .i64 2, .int .i64 1, .slice va 1 vk, .int .i64 40, .int .i64 0, .int .i64 0, .bool false, .int .i64 0, .int .i64 41, .int .i64 0, .int .i64 0, .bool false] 44)).heap[g]? = some (.cells (intCells tab2) 3 (0, 0)) := by
    refine heap_past (by simpa [World.setCell] using zg) ?_
    rw [heap_setCell_same _ _ _ _ _ _ G2, intCells_set]; rfl
  have X1' := (X1.other (p := ⟨g, 24, none⟩) (by dsimp only; omega) (.int .i64 0)).past (.cells #[.int .i64 2, .int .i64 1, .slice va 1 vk, .int .i64 40, .int .i64 0, .int .i64 0, .bool false, .int .i64 0, .int .i64 41, .int .i64 0, .int .i64 0, .bool false] 44)
  have X2' := (X2.other (p := ⟨g, 24, none⟩) (by dsimp only; omega) (.int .i64 0)).past (.cells #[.int .i64 2, .int .i64 1, .slice va 1 vk, .int .i64 40, .int .i64 0, .int .i64 0, .bool false, .int .i64 0, .int .i64 41, .int .i64 0, .int .i64 0, .bool false] 44)
  have X3' : Box ((w2.setCell ⟨g, 24, none⟩ (.int .i64 0)).alloc (.cells #[.int .i64 2, .int .i64 1, .slice va 1 vk, .int .i64 40, .int .i64 0, .int .i64 0, .bool false, .int .i64 0, .int .i64 41, .int .i64 0, .int .i64 0, .bool false] 44)) w2.heap.size 44 #[.int .i64 2, .int .i64 1, .slice va 1 vk, .int .i64 40, .int .i64 0, .int .i64 0, .bool false, .int .i64 0, .int .i64 41, .int .i64 0, .int .i64 0, .bool false] := Box.newAt (by simp) _ _
  have B3 : Hid (Below w.heap.size w ((w2.setCell ⟨g, 24, none⟩ (.int .i64 0)).alloc (.cells #[.int .i64 2, .int .i64 1, .slice va 1 vk, .int .i64 40, .int .i64 0, .int .i64 0, .bool false, .int .i64 0, .int .i64 41, .int .i64 0, .int .i64 0, .bool false] 44))) := bel_alloc (bel_set hg B2.out _) _
  obtain ⟨m0, -, s1⟩ := X1.one
  have HG3 : Hid _ := G3
  clear G2 G3 hL2 B2
  go_wp2_with fail
  clear g24 f24 m0 s1 X1 X2 zg
  generalize ((w2.setCell ⟨g, 24, none⟩ (.int .i64 0)).alloc (.cells #[.int .i64 2, .int .i64 1, .slice va 1 vk, .int .i64 40, .int .i64 0, .int .i64 0, .bool false, .int .i64 0, .int .i64 41, .int .i64 0, .int .i64 0, .bool false] 44)) = W3 at *
  generalize w2.heap.size = N at *
  refine (through_at (sl_tab HG3.out tab2_len) HL3.out cr3 cr4).mono ?_
  rintro e w4 ⟨va4, vk4, rfl, -, b4⟩
  have X1 := (X1'.keep b4).past (.cells #[.int .i64 2, .int .i64 1, .slice va4 1 vk4, .int .i64 40, .int .i64 0, .int .i64 0, .bool false, .int .i64 0, .int .i64 41, .int .i64 0, .int .i64 0, .bool false] 44)
  have X2 := (X2'.keep b4).past (.cells #[.int .i64 2, .int .i64 1, .slice va4 1 vk4, .int .i64 40, .int .i64 0, .int .i64 0, .bool false, .int .i64 0, .int .i64 41, .int .i64 0, .int .i64 0, .bool false] 44)
  have X3 := (X3'.keep b4).past (.cells #[.int .i64 2, .int .i64 1, .slice va4 1 vk4, .int .i64 40, .int .i64 0, .int .i64 0, .bool false, .int .i64 0, .int .i64 41, .int .i64 0, .int .i64 0, .bool false] 44)
  have HL4 : Hid (Ls _ (.slice va 1 vk) [(1, 0, 9, true, true)]) := (HL3.out.keep b4).alloc (.cells #[.int .i64 2, .int .i64 1, .slice va4 1 vk4, .int .i64 40, .int .i64 0, .int .i64 0, .bool false, .int .i64 0, .int .i64 41, .int .i64 0, .int .i64 0, .bool false] 44)
  have HG4 : Hid _ := heap_past (o := .cells #[.int .i64 2, .int .i64 1, .slice va4 1 vk4, .int .i64 40, .int .i64 0, .int .i64 0, .bool false, .int .i64 0, .int .i64 41, .int .i64 0, .int .i64 0, .bool false] 44) (Box.lt (heap_kept b4 (Box.lt HG3.out) HG3.out)) (heap_kept b4 (Box.lt HG3.out) HG3.out)
  have B4 : Hid (Below w.heap.size w (w4.alloc (.cells #[.int .i64 2, .int .i64 1, .slice va4 1 vk4, .int .i64 40, .int .i64 0, .int .i64 0, .bool false, .int .i64 0, .int .i64 41, .int .i64 0, .int .i64 0, .bool false] 44))) := bel_alloc (bel_trans B3.out b4) _
  have Y1 := X1'.keep b4
  have Y3 := X3'.keep b4
  clear b4 X1' X2' X3' HL3 HG3 B3
  obtain ⟨m0, -, s1⟩ := Y1.one
  obtain ⟨⟨n0, n1, n2, n3, n4, n5, n6, n7, n8, n9, n10, n11⟩, s3⟩ := Y3.twelve
  go_wp2_with fail
  clear m0 s1 n0 n1 n2 n3 n4 n5 n6 n7 n8 n9 n10 n11 s3 Y1 Y3
  generalize (w4.alloc (.cells #[.int .i64 2, .int .i64 1, .slice va4 1 vk4, .int .i64 40, .int .i64 0, .int .i64 0, .bool false, .int .i64 0, .int .i64 41, .int .i64 0, .int .i64 0, .bool false] 44)) = W5 at *
  refine (plain_at (sl_tab HG4.out tab2_len) HL4.out cr5 cr6).mono ?_
  rintro e w6 ⟨rfl, b6⟩
  have X1 := X1.keep b6
  have X2 := X2.keep b6
  have X3 := X3.keep b6
  have HG6 : Hid _ := heap_kept b6 (Box.lt HG4.out) HG4.out
  have B6 : Hid (Below w.heap.size w w6) := bel_trans B4.out b6
  clear b6 HL4 HG4 B4
  obtain ⟨m0, -, s1⟩ := X1.one
  obtain ⟨⟨n0, n1, n2, n3, n4, n5, n6, n7, n8, n9, n10, n11⟩, s3⟩ := X2.twelve
  go_wp2_with fail
  clear m0 s1 n0 n1 n2 n3 n4 n5 n6 n7 n8 n9 n10 n11 s3
  refine (through_at (sl_tab HG6.out tab2_len) (Ls.nothing _) cr9 cr7).mono ?_
  rintro e w7 ⟨va7, vk7, rfl, -, b7⟩
  have X1 := X1.keep b7
  have X2 := X2.keep b7
  have X3 := X3.keep b7
  have HG7 : Hid _ := heap_past (o := .cells #[.int .i64 2, .int .i64 1, .slice va7 0 vk7, .int .i64 40, .int .i64 0, .int .i64 0, .bool false, .int .i64 0, .int .i64 41, .int .i64 0, .int .i64 0, .bool false] 44) (Box.lt (heap_kept b7 (Box.lt HG6.out) HG6.out)) (heap_kept b7 (Box.lt HG6.out) HG6.out)
  have B7 : Hid (Below w.heap.size w w7) := bel_trans B6.out b7
  clear b7 HG6 B6
  obtain ⟨m0, -, s1⟩ := X1.one
  obtain ⟨⟨n0, n1, n2, n3, n4, n5, n6, n7, n8, n9, n10, n11⟩, s3⟩ := X2.twelve
  go_wp2_with fail
  clear m0 s1 n0 n1 n2 n3 n4 n5 n6 n7 n8 n9 n10 n11 s3
  refine (through_at (sl_tab HG7.out tab2_len) (Ls.nothing _) cr10 cr8).mono ?_
  rintro e w8 ⟨va8, vk8, rfl, -, b8⟩
  have X3 := (X3.past _).keep b8
  have B8 : Hid (Below w.heap.size w w8) := bel_trans (bel_alloc B7.out _) b8
  clear b8 HG7 B7
  obtain ⟨⟨n0, n1, n2, n3, n4, n5, n6, n7, n8, n9, n10, n11⟩, s3⟩ := X3.twelve
  go_wp2
  go_ret
  exact ⟨rfl, bel_alloc B8.out _⟩
end Go.Proofs.Ytefcdcneenjbgab
/-
  The closed fact 'carried' of the statements answers true; nothing that was there turns.
-/
namespace Go.Proofs.Ytefcdcneenjbgab
open Go.RowKit

def caM : List Int := ((tab.set 78 4).set 79 5).set 328 4173
theorem ca1E : doE tab ⟨2, 1, [], 40, 0, 0, false, 0, 41, 0, 0, false⟩ 1 6 3 true [4, 5, 6] = 0 := by kernel_rfl
theorem ca1R : doR tab ⟨2, 1, [], 40, 0, 0, false, 0, 41, 0, 0, false⟩ 1 6 3 true [4, 5, 6] = (⟨caM, ⟨2, 1, [(1, 0, 9, true, true)], 40, 0, 0, false, 0, 41, 0, 1, false⟩, [], [(1, 6, 78, true, 4), (1, 7, 79, true, 5)]⟩, 5) := by kernel_rfl
theorem ca2E : doE caM ⟨2, 1, [(1, 0, 9, true, true)], 40, 0, 0, false, 0, 41, 0, 1, false⟩ 1 6 3 false [] = 0 := by kernel_rfl
theorem ca2R : doR caM ⟨2, 1, [(1, 0, 9, true, true)], 40, 0, 0, false, 0, 41, 0, 1, false⟩ 1 6 3 false [] = (⟨caM, ⟨2, 1, [(1, 0, 9, true, true), (1, 1, 8, true, false)], 40, 0, 0, false, 0, 41, 0, 1, false⟩, [4, 5, 0], [(1, 6, 78, false, 4), (1, 7, 79, false, 5), (1, 8, 64, false, 0)]⟩, 0) := by kernel_rfl
theorem caM_len : caM.length = 512 := by simp only [caM, List.length_set, tab_len]
theorem caM78 : nth caM 78 = 4 := by kernel_rfl
theorem caM79 : nth caM 79 = 5 := by kernel_rfl
theorem caM328 : nth caM 328 = 4173 := by kernel_rfl

set_option maxRecDepth 10000 in
set_option maxHeartbeats 4000000 in
theorem carried_true (w : World) : Calls Try.prog 49 #[] w fun e w' => e = .returned (.bool true) ∧ Below w.heap.size w w' := by
  go_enter Try.func49, Try.ntmps49
  go_wp2_with fail
  refine (tables_own _).mono ?_
  rintro e w1 ⟨g, rfl, hg1, hg, b1⟩
  have hgl : g < w1.heap.size := Box.lt hg1
  have B1 : Hid (Below w.heap.size w w1) := b1
  have G2 : Hid (Box (((w1.alloc (.cells #[.slice (some ⟨g, 0, none⟩) 512 512] 39)).alloc (.cells #[.int .i64 2, .int .i64 1, .slice none 0 0, .int .i64 40, .int .i64 0, .int .i64 0, .bool false, .int .i64 0, .int .i64 41, .int .i64 0, .int .i64 0, .bool false] 44)).alloc (.cells #[.int .i64 4, .int .i64 5, .int .i64 6] 3)) g 3 (intCells tab)) := ((Box.past hg1 _).past _).past _
  clear hg1 b1
  go_wp2_with fail
  refine (do_at (ds := [4, 5, 6]) (dn := false) (sl_tab G2.out tab_len) (Ls.nothing _) (sl_block (zs := [4, 5, 6]) (heap_at (by simp)) rfl rfl (by simp [maxLen])) ca1E ca1R rfl).mono ?_
  rintro e w2 ⟨ma, mc, va, vk, da, dc, ta, tc, rfl, hS2, hL2, -, -, b2, -, -, -, -⟩
  have B2 : Hid (Below w.heap.size w w2) := bel_trans (bel_alloc (bel_alloc (bel_alloc B1.out _) _) _) b2
  clear b2 B1 G2 hgl hg
  obtain ⟨gb, go, gc, he, hgb, hcs⟩ := hS2.open512 caM_len
  rw [caM_len] at hS2 ⊢
  simp only [caM_len, Value.slice.injEq, true_and] at he
  obtain ⟨rfl, rfl⟩ := he
  have HS3 : Hid (Sl (((w2.alloc (.cells #[.slice (some ⟨gb, go, none⟩) 512 mc] 39)).alloc (.cells #[.int .i64 2, .int .i64 1, .slice va 1 vk, .int .i64 40, .int .i64 0, .int .i64 0, .bool false, .int .i64 0, .int .i64 41, .int .i64 0, .int .i64 1, .bool false] 44)).alloc (.cells #[.bool false, .slice da 0 dc, .int .i64 5, .slice ta 2 tc] 82)) (.slice (some ⟨gb, go, none⟩) 512 mc) caM) := ((hS2.alloc _).alloc _).alloc _
  have HL3 : Hid (Ls (((w2.alloc (.cells #[.slice (some ⟨gb, go, none⟩) 512 mc] 39)).alloc (.cells #[.int .i64 2, .int .i64 1, .slice va 1 vk, .int .i64 40, .int .i64 0, .int .i64 0, .bool false, .int .i64 0, .int .i64 41, .int .i64 0, .int .i64 1, .bool false] 44)).alloc (.cells #[.bool false, .slice da 0 dc, .int .i64 5, .slice ta 2 tc] 82)) (.slice va 1 vk) [(1, 0, 9, true, true)]) := ((Ls.alloc (show Ls w2 (.slice va 1 vk) [(1, 0, 9, true, true)] from hL2) _).alloc _).alloc _
  clear hcs hS2 hL2 hgb
  have X3 := ((Box.newAt (w := w2) rfl 39 #[.slice (some ⟨gb, go, none⟩) 512 mc]).past (.cells #[.int .i64 2, .int .i64 1, .slice va 1 vk, .int .i64 40, .int .i64 0, .int .i64 0, .bool false, .int .i64 0, .int .i64 41, .int .i64 0, .int .i64 1, .bool false] 44)).past (.cells #[.bool false, .slice da 0 dc, .int .i64 5, .slice ta 2 tc] 82)
  have X5 := Box.newAt (w := (w2.alloc (.cells #[.slice (some ⟨gb, go, none⟩) 512 mc] 39)).alloc (.cells #[.int .i64 2, .int .i64 1, .slice va 1 vk, .int .i64 40, .int .i64 0, .int .i64 0, .bool false, .int .i64 0, .int .i64 41, .int .i64 0, .int .i64 1, .bool false] 44)) (n := w2.heap.size + 1 + 1) (by simp) 82 #[.bool false, .slice da 0 dc, .int .i64 5, .slice ta 2 tc]
  go_wp2_with fail
  refine (do_at (dn := true) HS3.out HL3.out (Sl.nil _ none 0) ca2E ca2R rfl).mono ?_
  rintro e w4 ⟨ma4, mc4, va4, vk4, da4, dc4, ta4, tc4, rfl, hS4, -, hD4, -, b4, -, -, -, -⟩
  have X3 := X3.keep b4
  have X5 := X5.keep b4
  have HS5 : Hid (Sl w4 (.slice (some ⟨gb, go, none⟩) 512 mc) caM) := HS3.out.keep b4
  have B4 : Hid (Below w.heap.size w w4) := bel_trans (bel_alloc (bel_alloc (bel_alloc B2.out _) _) _) b4
  rw [caM_len] at hS4 ⊢
  have HS4 : Hid (Sl w4 (.slice ma4 512 mc4) caM) := hS4
  have HD4 : Hid (Sl w4 (.slice da4 3 dc4) [4, 5, 0]) := hD4
  clear b4 HS3 HL3 B2 hS4 hD4
  have h3 := X3.lt
  have h5 := X5.lt
  generalize w2.heap.size = A at *
  obtain ⟨b', o', c', he, hb', hcs⟩ := HS5.out.open512 caM_len
  simp only [Value.slice.injEq, Option.some.injEq, Addr.mk.injEq, and_true, true_and] at he
  obtain ⟨⟨rfl, rfl⟩, rfl⟩ := he
  have g78 := hcs 78 (by decide)
  have g79 := hcs 79 (by decide)
  have g328 := hcs 328 (by decide)
  rw [caM78] at g78
  rw [caM79] at g79
  rw [caM328] at g328
  clear hcs
  obtain ⟨m0, -, -⟩ := X3.one
  obtain ⟨t0, t1, t2, t3, -, -, -, -, -⟩ := X5.four
  have z00 : A + 1 + 1 < w4.heap.size + 1 := by omega
  have z01 : A + 1 + 1 < w4.heap.size + 1 + 1 := by omega
  have z02 : A + 1 + 1 < w4.heap.size + 1 + 1 + 1 := by omega
  have z10 : A < w4.heap.size + 1 := by omega
  have z11 : A < w4.heap.size + 1 + 1 := by omega
  have z12 : A < w4.heap.size + 1 + 1 + 1 := by omega
  have z20 : gb < w4.heap.size + 1 := by omega
  have z21 : gb < w4.heap.size + 1 + 1 := by omega
  have z22 : gb < w4.heap.size + 1 + 1 + 1 := by omega
  have B5 : Hid (Below w4.heap.size w4 ((((w4.alloc (.cells #[.slice ma4 512 mc4] 39)).alloc (.cells #[.int .i64 2, .int .i64 1, .slice va4 2 vk4, .int .i64 40, .int .i64 0, .int .i64 0, .bool false, .int .i64 0, .int .i64 41, .int .i64 0, .int .i64 1, .bool false] 44)).alloc (.cells #[.bool true, .slice da4 3 dc4, .int .i64 0, .slice ta4 3 tc4] 82)).alloc (.cells #[.int .i64 4, .int .i64 5, .int .i64 0] 3))) := bel_alloc (bel_alloc (bel_alloc (bel_alloc (Below.refl _ _) _) _) _) _
  have X3' := X3.keep B5.out
  have X7' := (((Box.newAt (w := w4) rfl 39 #[.slice ma4 512 mc4]).past (.cells #[.int .i64 2, .int .i64 1, .slice va4 2 vk4, .int .i64 40, .int .i64 0, .int .i64 0, .bool false, .int .i64 0, .int .i64 41, .int .i64 0, .int .i64 1, .bool false] 44)).past (.cells #[.bool true, .slice da4 3 dc4, .int .i64 0, .slice ta4 3 tc4] 82)).past (.cells #[.int .i64 4, .int .i64 5, .int .i64 0] 3)
  go_wp2_with fail
  refine (equal_any _ _ [4, 5, 0] [4, 5, 0] _ (HD4.out.keep B5.out) (sl_block (b := w4.heap.size + 1 + 1 + 1) (zs := [4, 5, 0]) (heap_at (by simp)) rfl rfl (by simp [maxLen]))).mono ?_
  rintro e w6 ⟨rfl, nq, rfl⟩
  rw [decide_eq_true (rfl : ([4, 5, 0] : List Int) = [4, 5, 0])]
  clear g78 g79 g328 m0 t0 t1 t2 t3 hb'
  obtain ⟨m0, -, s0⟩ := (X3'.drewN nq).one
  obtain ⟨m7, -, s7⟩ := (X7'.drewN nq).one
  have HSa : Hid (Sl (((((w4.alloc (.cells #[.slice ma4 512 mc4] 39)).alloc (.cells #[.int .i64 2, .int .i64 1, .slice va4 2 vk4, .int .i64 40, .int .i64 0, .int .i64 0, .bool false, .int .i64 0, .int .i64 41, .int .i64 0, .int .i64 1, .bool false] 44)).alloc (.cells #[.bool true, .slice da4 3 dc4, .int .i64 0, .slice ta4 3 tc4] 82)).alloc (.cells #[.int .i64 4, .int .i64 5, .int .i64 0] 3)).drewN nq) _ caM) := Sl.drewN (HS5.out.keep B5.out) nq
  have HSb : Hid (Sl (((((w4.alloc (.cells #[.slice ma4 512 mc4] 39)).alloc (.cells #[.int .i64 2, .int .i64 1, .slice va4 2 vk4, .int .i64 40, .int .i64 0, .int .i64 0, .bool false, .int .i64 0, .int .i64 41, .int .i64 0, .int .i64 1, .bool false] 44)).alloc (.cells #[.bool true, .slice da4 3 dc4, .int .i64 0, .slice ta4 3 tc4] 82)).alloc (.cells #[.int .i64 4, .int .i64 5, .int .i64 0] 3)).drewN nq) _ caM) := Sl.drewN (HS4.out.keep B5.out) nq
  have B6 : Hid (Below w.heap.size w (((((w4.alloc (.cells #[.slice ma4 512 mc4] 39)).alloc (.cells #[.int .i64 2, .int .i64 1, .slice va4 2 vk4, .int .i64 40, .int .i64 0, .int .i64 0, .bool false, .int .i64 0, .int .i64 41, .int .i64 0, .int .i64 1, .bool false] 44)).alloc (.cells #[.bool true, .slice da4 3 dc4, .int .i64 0, .slice ta4 3 tc4] 82)).alloc (.cells #[.int .i64 4, .int .i64 5, .int .i64 0] 3)).drewN nq)) := bel_drewN (bel_trans B4.out B5.out) nq
  clear z00 z01 z02 z10 z11 z12 z20 z21 z22
  clear X3 X5 X3' X7' B5 B4 HS5 HS4 HD4 h3 h5
  generalize (((((w4.alloc (.cells #[.slice ma4 512 mc4] 39)).alloc (.cells #[.int .i64 2, .int .i64 1, .slice va4 2 vk4, .int .i64 40, .int .i64 0, .int .i64 0, .bool false, .int .i64 0, .int .i64 41, .int .i64 0, .int .i64 1, .bool false] 44)).alloc (.cells #[.bool true, .slice da4 3 dc4, .int .i64 0, .slice ta4 3 tc4] 82)).alloc (.cells #[.int .i64 4, .int .i64 5, .int .i64 0] 3)).drewN nq) = W6 at *
  go_wp2_with fail
  refine (same_any _ _ caM caM _ HSa.out HSb.out).mono ?_
  rintro e w7 ⟨rfl, b7⟩
  rw [decide_eq_true (rfl : caM = caM)]
  have B7 : Hid (Below w.heap.size w w7) := bel_trans B6.out b7
  clear b7
  go_wp2
  go_ret
  exact ⟨rfl, B7.out⟩
end Go.Proofs.Ytefcdcneenjbgab
/-
  slices.Equal on two slices of touches answers whether they read as one list, whatever they are; it only reads.
-/
namespace Go.Proofs.Ytefcdcneenjbgab
open Go.RowKit

theorem touches_ext {xs ys : List Tc} (hl : xs.length = ys.length) (h : ∀ i, i < xs.length → tth xs i = tth ys i) : xs = ys := by
  apply List.ext_getElem hl
  intro i h1 h2
  have := h i h1
  rwa [tth_get h1, tth_get h2] at this
theorem touches_ne {xs ys : List Tc} {i : Nat} (h : ¬ tth xs i = tth ys i) : ¬ xs = ys := fun e => h (by rw [e])
/-- Where two touches part first. -/
theorem touch_diff {a b c : Int} {d : Bool} {e : Int} {a' b' c' : Int} {d' : Bool} {e' : Int} (h : ¬ (a, b, c, d, e) = (a', b', c', d', e')) :
    ¬ a = a' ∨ (a = a' ∧ ¬ b = b') ∨ (a = a' ∧ b = b' ∧ ¬ c = c') ∨ (a = a' ∧ b = b' ∧ c = c' ∧ ¬ d = d') ∨ (a = a' ∧ b = b' ∧ c = c' ∧ d = d' ∧ ¬ e = e') := by
  simp only [Prod.mk.injEq] at h
  by_cases h1 : a = a'
  · by_cases h2 : b = b'
    · by_cases h3 : c = c'
      · by_cases h4 : d = d'
        · by_cases h5 : e = e'
          · exact absurd ⟨h1, h2, h3, h4, h5⟩ h
          · exact .inr (.inr (.inr (.inr ⟨h1, h2, h3, h4, h5⟩)))
        · exact .inr (.inr (.inr (.inl ⟨h1, h2, h3, h4⟩)))
      · exact .inr (.inr (.inl ⟨h1, h2, h3⟩))
    · exact .inr (.inl ⟨h1, h2⟩)
  · exact .inl h1

set_option maxHeartbeats 1000000 in
theorem equalT_any (v1 v2 : Value) (xs ys : List Tc) (w : World) (h1 : Ts w v1 xs) (h2 : Ts w v2 ys) :
    Calls Try.prog 93 #[v1, v2] w fun e w' => e = .returned (.bool (decide (xs = ys))) ∧ ∃ n, w' = w.drewN n := by
  obtain ⟨a1, c1, rfl, n1, l1, h1⟩ := h1
  obtain ⟨a2, c2, rfl, n2, l2, h2⟩ := h2
  unfold maxLen at l1 l2
  by_cases hl : xs.length = ys.length
  · have hne : ((xs.length : Int) != (ys.length : Int)) = false := by simp [hl]
    rcases h1 with rfl | ⟨b1, o1, rfl, hb1, hc1⟩
    · obtain rfl : ys = [] := List.eq_nil_of_length_eq_zero hl.symm
      go_enter Try.func93, Try.ntmps93
      go_wp2
      go_loopw [5, 13] (fun _ i w' => i = .int .i64 0 ∧ w' = w) (fun _ i _ => 0)
      case atStart => exact ⟨rfl, rfl⟩
      case round =>
        obtain ⟨rfl, rfl⟩ := hrel
        go_wp2
        go_ret
        exact ⟨rfl, 0, rfl⟩
    · rcases h2 with rfl | ⟨b2, o2, rfl, hb2, hc2⟩
      · obtain rfl : xs = [] := List.eq_nil_of_length_eq_zero hl
        go_enter Try.func93, Try.ntmps93
        go_wp2
        go_loopw [5, 13] (fun _ i w' => i = .int .i64 0 ∧ w' = w) (fun _ i _ => 0)
        case atStart => exact ⟨rfl, rfl⟩
        case round =>
          obtain ⟨rfl, rfl⟩ := hrel
          go_wp2
          go_ret
          exact ⟨rfl, 0, rfl⟩
      have Hl : Hid (xs.length = ys.length) := hl
      have hle : (xs.length : Int) ≤ ys.length := by omega
      have H1 := hc1
      have H2 := hc2
      clear hl hc1 hc2
      have HC1 : Hid _ := H1
      have HC2 : Hid _ := H2
      clear H1 H2
      go_enter Try.func93, Try.ntmps93
      go_wp2
      go_loopw [5, 13] (fun _ i w' => ∃ k : Nat, k ≤ xs.length ∧ i = .int .i64 k ∧ (∀ j, j < k → tth xs j = tth ys j) ∧ ∃ n, w' = w.drewN n) (fun _ i _ => xs.length - (intOf i).toNat)
      case atStart => exact ⟨0, Nat.zero_le _, rfl, fun j hj => absurd hj (Nat.not_lt_zero _), 0, rfl⟩
      case round =>
        obtain ⟨k, hk, rfl, hpre, n, rfl⟩ := hrel
        have HP : Hid (∀ j, j < k → tth xs j = tth ys j) := hpre
        clear hpre
        by_cases hlt : k < xs.length
        · obtain ⟨g0, g1, g2, g3, g4⟩ := HC1.out k hlt
          obtain ⟨f0, f1, f2, f3, f4⟩ := HC2.out k (by have := Hl.out; omega)
          have hlt1 : (k : Int) < xs.length := by omega
          have hlt2 : (k : Int) < ys.length := by omega
          obtain ⟨y, hy⟩ : ∃ y, y = tth xs k := ⟨_, rfl⟩
          obtain ⟨z, hz⟩ : ∃ z, z = tth ys k := ⟨_, rfl⟩
          have HY : Hid (y = tth xs k) := hy
          have HZ : Hid (z = tth ys k) := hz
          rw [← hy] at g0 g1 g2 g3 g4
          rw [← hz] at f0 f1 f2 f3 f4
          clear hy hz
          obtain ⟨d1, p1, a1, r1, x1⟩ := y
          obtain ⟨d2, p2, a2, r2, x2⟩ := z
          simp only at g0 g1 g2 g3 g4 f0 f1 f2 f3 f4
          by_cases hq : (d1, p1, a1, r1, x1) = ((d2, p2, a2, r2, x2) : Tc)
          · have HQ : Hid (tth xs k = tth ys k) := by show _ = _; rw [← HY.out, ← HZ.out]; exact hq
            simp only [Prod.mk.injEq] at hq
            obtain ⟨rfl, rfl, rfl, rfl, rfl⟩ := hq
            go_wp2
            go_quiet (fail)
            go_wp2
            exact ⟨⟨k + 1, by omega, by go_num, upto_next HP.out HQ.out, _, rfl⟩, by simp [intOf]; omega⟩
          · have HN : Hid (decide (xs = ys) = false) := decide_eq_false (touches_ne (i := k) (by rw [← HY.out, ← HZ.out]; exact hq))
            rcases touch_diff hq with e1 | ⟨rfl, e1⟩ | ⟨rfl, rfl, e1⟩ | ⟨rfl, rfl, rfl, e1⟩ | ⟨rfl, rfl, rfl, rfl, e1⟩
            all_goals
              clear hq
              go_wp2
              go_quiet (fail)
              go_wp2
              go_ret
              exact ⟨ret_bool HN.out.symm, n + nq, World.drewN_drewN _ _ _⟩
        · have HD : Hid (decide (xs = ys) = true) := decide_eq_true (touches_ext Hl.out fun i hi => HP.out i (by omega))
          go_wp2
          go_ret
          exact ⟨ret_bool HD.out.symm, _, rfl⟩
  · have hne : ((xs.length : Int) != (ys.length : Int)) = true := by simp; omega
    have hd : decide (xs = ys) = false := by simp; intro e; exact hl (by rw [e])
    rw [hd]
    go_enter Try.func93, Try.ntmps93
    go_wp2
    go_ret
    exact ⟨rfl, 0, rfl⟩
end Go.Proofs.Ytefcdcneenjbgab
/-
  The reference's CheckAsk; SameTold of two that are alike.
-/
namespace Go.Proofs.Ytefcdcneenjbgab
open Go.RowKit

set_option maxHeartbeats 2000000 in
theorem checkAsk_any (d a n : Int) (x : Bool) (v : Value) (ds : List Int) (w : World) (h : Sl w v ds) :
    Calls Try.prog 48 #[.agg #[.int .i64 d, .int .i64 a, .int .i64 n, .bool x, v]] w fun e w' => e = .returned (.int .i64 (ckA d a n x ds)) ∧ Below w.heap.size w w' := by
  have HD : Hid (Sl w v ds) := h
  obtain ⟨da, dc, rfl, hl, h⟩ := h
  unfold maxLen at hl
  clear h
  by_cases hn : 1 ≤ n ∧ n ≤ 20
  rotate_left
  · have HE : Hid (ckA d a n x ds = 1) := ckA_many hn
    have hb : betweenB 1 20 n = false := by simp [betweenB]; omega
    clear hn
    go_enter Try.func48, Try.ntmps48
    go_wp2_with (go_at_call 58; refine (in_any _ _ _ _).mono ?_; rintro e w' ⟨rfl, rfl⟩)
    go_ret
    exact ⟨ret_int HE.out.symm, bel_alloc (Below.refl _ _) _⟩
  have HN : Hid (1 ≤ n ∧ n ≤ 20) := hn
  have hb : betweenB 1 20 n = true := by simp [betweenB]; omega
  obtain ⟨n1, n2⟩ := hn
  by_cases hw : (0 ≤ d ∧ d ≤ 7) ∧ hasW a n = true
  rotate_left
  · have HE : Hid (ckA d a n x ds = 4) := ckA_who HN.out hw
    by_cases h1 : 0 ≤ d ∧ d ≤ 7
    · have h2 : betweenB 0 7 d = true := by simp [betweenB]; omega
      have h3 : betweenB 0 (512 - n) a = false := by
        cases hq : betweenB 0 (512 - n) a
        · rfl
        · exact absurd ⟨h1, by simpa [hasW, betweenB] using hq⟩ hw
      clear hw h1
      go_enter Try.func48, Try.ntmps48
      go_wp2_with (go_at_call 58; refine (in_any _ _ _ _).mono ?_; rintro e w' ⟨rfl, rfl⟩)
      go_ret
      exact ⟨ret_int HE.out.symm, bel_alloc (Below.refl _ _) _⟩
    · have h2 : betweenB 0 7 d = false := by simp [betweenB]; omega
      clear hw h1
      go_enter Try.func48, Try.ntmps48
      go_wp2_with (go_at_call 58; refine (in_any _ _ _ _).mono ?_; rintro e w' ⟨rfl, rfl⟩)
      go_ret
      exact ⟨ret_int HE.out.symm, bel_alloc (Below.refl _ _) _⟩
  have HW : Hid ((0 ≤ d ∧ d ≤ 7) ∧ hasW a n = true) := hw
  have h2 : betweenB 0 7 d = true := by have := hw.1; simp [betweenB]; omega
  have h3 : betweenB 0 (512 - n) a = true := by simpa [hasW, betweenB] using hw.2
  clear hw
  have K : Blk (w.alloc (.cells #[.int .i64 d, .int .i64 a, .int .i64 n, .bool x, .slice da ds.length dc] 79)) w.heap.size #[.int .i64 d, .int .i64 a, .int .i64 n, .bool x, .slice da ds.length dc] := Blk.new w _ 79 (0, 0)
  have B1 : Hid (Below w.heap.size w (w.alloc (.cells #[.int .i64 d, .int .i64 a, .int .i64 n, .bool x, .slice da ds.length dc] 79))) := bel_alloc (Below.refl _ _) _
  have HS : Hid (Sl (w.alloc (.cells #[.int .i64 d, .int .i64 a, .int .i64 n, .bool x, .slice da ds.length dc] 79)) (.slice da ds.length dc) ds) := HD.out.keep B1.out
  by_cases hln : (ds.length : Int) = needA x n
  rotate_left
  · have HE : Hid (ckA d a n x ds = 3) := ckA_form HN.out HW.out hln
    have hq : ((ds.length : Int) != needA x n) = true := by simpa using hln
    clear hln K
    cases x
    all_goals
      simp only [needA, if_true, Bool.false_eq_true, if_false] at hq
      go_enter Try.func48, Try.ntmps48
      go_wp2_with (go_at_call 58; refine (in_any _ _ _ _).mono ?_; rintro e w' ⟨rfl, rfl⟩)
      go_ret
      exact ⟨ret_int HE.out.symm, B1.out⟩
  have HE : Hid (ckA d a n x ds = if ds.all wordB = true then 0 else 2) := ckA_last HN.out HW.out hln
  have hl20 : ds.length ≤ 20 := by have := needA_in (x := x) HN.out; omega
  have hq : ((ds.length : Int) != needA x n) = false := by simpa using hln
  clear hln
  obtain ⟨a', cap', he, -, HS'⟩ := HS.out
  simp only [Value.slice.injEq] at he
  obtain ⟨rfl, -, rfl⟩ := he
  have HS2 : Hid _ := HS'
  clear HS' HS HD
  cases x
  all_goals
    simp only [needA, if_true, Bool.false_eq_true, if_false] at hq
    go_enter Try.func48, Try.ntmps48
    go_wp2_with (go_at_call 58; refine (in_any _ _ _ _).mono ?_; rintro e w' ⟨rfl, rfl⟩)
    clear K
    generalize (w.alloc (.cells #[.int .i64 d, .int .i64 a, .int .i64 n, .bool _, .slice da ds.length dc] 79)) = W at *
    go_loop [35] (fun i => ∃ k : Nat, k ≤ ds.length ∧ i = .int .i64 k ∧ ∀ j, j < k → wordB (nth ds j) = true) (fun i => ds.length - (intOf i).toNat)
    case atStart => exact ⟨0, Nat.zero_le _, rfl, fun j hj => absurd hj (Nat.not_lt_zero _)⟩
    case round =>
      obtain ⟨k, hk, rfl, hpre⟩ := hrel
      have HP : Hid (∀ j, j < k → wordB (nth ds j) = true) := hpre
      clear hpre
      by_cases hlt : k < ds.length
      · have hlt1 : (k : Int) < ds.length := by omega
        rcases HS2.out with h0 | ⟨b, o, rfl, hb', hc⟩
        · exact absurd hlt (by rw [h0]; simp)
        have g := hc k hlt
        clear hc
        by_cases hq2 : wordB (nth ds k) = true
        · have hbw : betweenB 0 65535 (nth ds k) = true := hq2
          go_wp2_with (go_at_call 58; refine (in_any _ _ _ _).mono ?_; rintro e w' ⟨rfl, rfl⟩)
          refine ⟨⟨k + 1, by omega, by go_num, fun j hj => ?_⟩, by simp [intOf]; omega⟩
          by_cases e : j = k
          · rw [e]; exact hq2
          · exact HP.out j (by omega)
        · have hq' : wordB (nth ds k) = false := by simpa using hq2
          have hbw : betweenB 0 65535 (nth ds k) = false := hq'
          have HX : Hid (_ = (2 : Int)) := HE.out.trans (if_neg (all_not hlt hq'))
          clear hq2
          go_wp2_with (go_at_call 58; refine (in_any _ _ _ _).mono ?_; rintro e w' ⟨rfl, rfl⟩)
          go_ret
          exact ⟨ret_int HX.out.symm, B1.out⟩
      · have HX : Hid (_ = (0 : Int)) := HE.out.trans (if_pos (all_yes fun j hj => HP.out j (by omega)))
        have hge : ¬ (k : Int) < ds.length := by omega
        go_wp2
        go_ret
        exact ⟨ret_int HX.out.symm, B1.out⟩

set_option maxHeartbeats 2000000 in
theorem sameTold_eq (dn : Bool) (v1 v2 : Value) (dat : List Int) (f : Int) (u1 u2 : Value) (tch : List Tc) (w : World) (h1 : Sl w v1 dat) (h2 : Sl w v2 dat) (k1 : Ts w u1 tch) (k2 : Ts w u2 tch) :
    Calls Try.prog 51 #[.agg #[.bool dn, v1, .int .i64 f, u1], .agg #[.bool dn, v2, .int .i64 f, u2]] w fun e w' => e = .returned (.bool true) ∧ Below w.heap.size w w' := by
  have H1 : Hid (Sl w v1 dat) := h1
  have H2 : Hid (Sl w v2 dat) := h2
  have K1 : Hid (Ts w u1 tch) := k1
  have K2 : Hid (Ts w u2 tch) := k2
  obtain ⟨a1, c1, rfl⟩ := h1.shape
  obtain ⟨a2, c2, rfl⟩ := h2.shape
  obtain ⟨b1, e1, rfl, -⟩ := k1
  obtain ⟨b2, e2, rfl, -⟩ := k2
  clear h1 h2
  have B0 : Hid (Below w.heap.size w ((w.alloc (.cells #[.bool dn, .slice a1 dat.length c1, .int .i64 f, .slice b1 tch.length e1] 82)).alloc (.cells #[.bool dn, .slice a2 dat.length c2, .int .i64 f, .slice b2 tch.length e2] 82))) := bel_alloc (bel_alloc (Below.refl _ _) _) _
  have X0 := (Box.newAt (n := w.heap.size) rfl 82 #[.bool dn, .slice a1 dat.length c1, .int .i64 f, .slice b1 tch.length e1]).past (.cells #[.bool dn, .slice a2 dat.length c2, .int .i64 f, .slice b2 tch.length e2] 82)
  have X1 := Box.newAt (w := w.alloc (.cells #[.bool dn, .slice a1 dat.length c1, .int .i64 f, .slice b1 tch.length e1] 82)) (n := w.heap.size + 1) (by simp) 82 #[.bool dn, .slice a2 dat.length c2, .int .i64 f, .slice b2 tch.length e2]
  have hdd : (dn == dn) = true := by simp
  go_enter Try.func51, Try.ntmps51
  go_wp2_with fail
  refine (equal_any _ _ dat dat _ (H1.out.keep B0.out) (H2.out.keep B0.out)).mono ?_
  rintro e w1 ⟨rfl, nq, rfl⟩
  rw [decide_eq_true (rfl : dat = dat)]
  obtain ⟨t0, t1, t2, t3, -, -, -, -, s0⟩ := (X0.drewN nq).four
  obtain ⟨u0, u1, u2, u3, -, -, -, -, s1⟩ := (X1.drewN nq).four
  have T1 : Hid (Ts (((w.alloc (.cells #[.bool dn, .slice a1 dat.length c1, .int .i64 f, .slice b1 tch.length e1] 82)).alloc (.cells #[.bool dn, .slice a2 dat.length c2, .int .i64 f, .slice b2 tch.length e2] 82)).drewN nq) _ tch) := (K1.out.keep B0.out : Ts _ _ tch)
  have T2 : Hid (Ts (((w.alloc (.cells #[.bool dn, .slice a1 dat.length c1, .int .i64 f, .slice b1 tch.length e1] 82)).alloc (.cells #[.bool dn, .slice a2 dat.length c2, .int .i64 f, .slice b2 tch.length e2] 82)).drewN nq) _ tch) := (K2.out.keep B0.out : Ts _ _ tch)
  have B1 : Hid (Below w.heap.size w (((w.alloc (.cells #[.bool dn, .slice a1 dat.length c1, .int .i64 f, .slice b1 tch.length e1] 82)).alloc (.cells #[.bool dn, .slice a2 dat.length c2, .int .i64 f, .slice b2 tch.length e2] 82)).drewN nq)) := bel_drewN B0.out nq
  clear X0 X1
  generalize (((w.alloc (.cells #[.bool dn, .slice a1 dat.length c1, .int .i64 f, .slice b1 tch.length e1] 82)).alloc (.cells #[.bool dn, .slice a2 dat.length c2, .int .i64 f, .slice b2 tch.length e2] 82)).drewN nq) = W at *
  go_wp2_with fail
  refine (equalT_any _ _ tch tch _ T1.out T2.out).mono ?_
  rintro e w2 ⟨rfl, n2, rfl⟩
  rw [decide_eq_true (rfl : tch = tch)]
  go_wp2
  go_ret
  exact ⟨rfl, bel_drewN B1.out _⟩
end Go.Proofs.Ytefcdcneenjbgab
/-
  slices.Equal on two slices of lines answers whether they read as one list, whatever they are; it only reads.
-/
namespace Go.Proofs.Ytefcdcneenjbgab
open Go.RowKit

theorem lines_ext {xs ys : List Ln} (hl : xs.length = ys.length) (h : ∀ i, i < xs.length → lth xs i = lth ys i) : xs = ys := by
  apply List.ext_getElem hl
  intro i h1 h2
  have := h i h1
  rwa [lth_get h1, lth_get h2] at this
theorem lines_ne {xs ys : List Ln} {i : Nat} (h : ¬ lth xs i = lth ys i) : ¬ xs = ys := fun e => h (by rw [e])
/-- Where two lines part first. -/
theorem line_diff {a b c : Int} {d e : Bool} {a' b' c' : Int} {d' e' : Bool} (h : ¬ (a, b, c, d, e) = (a', b', c', d', e')) :
    ¬ a = a' ∨ (a = a' ∧ ¬ b = b') ∨ (a = a' ∧ b = b' ∧ ¬ c = c') ∨ (a = a' ∧ b = b' ∧ c = c' ∧ ¬ d = d') ∨ (a = a' ∧ b = b' ∧ c = c' ∧ d = d' ∧ ¬ e = e') := by
  simp only [Prod.mk.injEq] at h
  by_cases h1 : a = a'
  · by_cases h2 : b = b'
    · by_cases h3 : c = c'
      · by_cases h4 : d = d'
        · by_cases h5 : e = e'
          · exact absurd ⟨h1, h2, h3, h4, h5⟩ h
          · exact .inr (.inr (.inr (.inr ⟨h1, h2, h3, h4, h5⟩)))
        · exact .inr (.inr (.inr (.inl ⟨h1, h2, h3, h4⟩)))
      · exact .inr (.inr (.inl ⟨h1, h2, h3⟩))
    · exact .inr (.inl ⟨h1, h2⟩)
  · exact .inl h1

set_option maxHeartbeats 1000000 in
theorem equalL_any (v1 v2 : Value) (xs ys : List Ln) (w : World) (h1 : Ls w v1 xs) (h2 : Ls w v2 ys) :
    Calls Try.prog 42 #[v1, v2] w fun e w' => e = .returned (.bool (decide (xs = ys))) ∧ ∃ n, w' = w.drewN n := by
  obtain ⟨a1, c1, rfl, n1, l1, h1⟩ := h1
  obtain ⟨a2, c2, rfl, n2, l2, h2⟩ := h2
  unfold maxLen at l1 l2
  by_cases hl : xs.length = ys.length
  · have hne : ((xs.length : Int) != (ys.length : Int)) = false := by simp [hl]
    rcases h1 with rfl | ⟨b1, o1, rfl, hb1, hc1⟩
    · obtain rfl : ys = [] := List.eq_nil_of_length_eq_zero hl.symm
      go_enter Try.func42, Try.ntmps42
      go_wp2
      go_loopw [5, 13] (fun _ i w' => i = .int .i64 0 ∧ w' = w) (fun _ i _ => 0)
      case atStart => exact ⟨rfl, rfl⟩
      case round =>
        obtain ⟨rfl, rfl⟩ := hrel
        go_wp2
        go_ret
        exact ⟨rfl, 0, rfl⟩
    · rcases h2 with rfl | ⟨b2, o2, rfl, hb2, hc2⟩
      · obtain rfl : xs = [] := List.eq_nil_of_length_eq_zero hl
        go_enter Try.func42, Try.ntmps42
        go_wp2
        go_loopw [5, 13] (fun _ i w' => i = .int .i64 0 ∧ w' = w) (fun _ i _ => 0)
        case atStart => exact ⟨rfl, rfl⟩
        case round =>
          obtain ⟨rfl, rfl⟩ := hrel
          go_wp2
          go_ret
          exact ⟨rfl, 0, rfl⟩
      have Hl : Hid (xs.length = ys.length) := hl
      have hle : (xs.length : Int) ≤ ys.length := by omega
      have H1 := hc1
      have H2 := hc2
      clear hl hc1 hc2
      have HC1 : Hid _ := H1
      have HC2 : Hid _ := H2
      clear H1 H2
      go_enter Try.func42, Try.ntmps42
      go_wp2
      go_loopw [5, 13] (fun _ i w' => ∃ k : Nat, k ≤ xs.length ∧ i = .int .i64 k ∧ (∀ j, j < k → lth xs j = lth ys j) ∧ ∃ n, w' = w.drewN n) (fun _ i _ => xs.length - (intOf i).toNat)
      case atStart => exact ⟨0, Nat.zero_le _, rfl, fun j hj => absurd hj (Nat.not_lt_zero _), 0, rfl⟩
      case round =>
        obtain ⟨k, hk, rfl, hpre, n, rfl⟩ := hrel
        have HP : Hid (∀ j, j < k → lth xs j = lth ys j) := hpre
        clear hpre
        by_cases hlt : k < xs.length
        · obtain ⟨g0, g1, g2, g3, g4⟩ := HC1.out k hlt
          obtain ⟨f0, f1, f2, f3, f4⟩ := HC2.out k (by have := Hl.out; omega)
          have hlt1 : (k : Int) < xs.length := by omega
          have hlt2 : (k : Int) < ys.length := by omega
          obtain ⟨y, hy⟩ : ∃ y, y = lth xs k := ⟨_, rfl⟩
          obtain ⟨z, hz⟩ : ∃ z, z = lth ys k := ⟨_, rfl⟩
          have HY : Hid (y = lth xs k) := hy
          have HZ : Hid (z = lth ys k) := hz
          rw [← hy] at g0 g1 g2 g3 g4
          rw [← hz] at f0 f1 f2 f3 f4
          clear hy hz
          obtain ⟨d1, p1, a1, r1, x1⟩ := y
          obtain ⟨d2, p2, a2, r2, x2⟩ := z
          simp only at g0 g1 g2 g3 g4 f0 f1 f2 f3 f4
          by_cases hq : (d1, p1, a1, r1, x1) = ((d2, p2, a2, r2, x2) : Ln)
          · have HQ : Hid (lth xs k = lth ys k) := by show _ = _; rw [← HY.out, ← HZ.out]; exact hq
            simp only [Prod.mk.injEq] at hq
            obtain ⟨rfl, rfl, rfl, rfl, rfl⟩ := hq
            go_wp2
            go_quiet (fail)
            go_wp2
            exact ⟨⟨k + 1, by omega, by go_num, upto_next HP.out HQ.out, _, rfl⟩, by simp [intOf]; omega⟩
          · have HN : Hid (decide (xs = ys) = false) := decide_eq_false (lines_ne (i := k) (by rw [← HY.out, ← HZ.out]; exact hq))
            rcases line_diff hq with e1 | ⟨rfl, e1⟩ | ⟨rfl, rfl, e1⟩ | ⟨rfl, rfl, rfl, e1⟩ | ⟨rfl, rfl, rfl, rfl, e1⟩
            all_goals
              clear hq
              go_wp2
              go_quiet (fail)
              go_wp2
              go_ret
              exact ⟨ret_bool HN.out.symm, n + nq, World.drewN_drewN _ _ _⟩
        · have HD : Hid (decide (xs = ys) = true) := decide_eq_true (lines_ext Hl.out fun i hi => HP.out i (by omega))
          go_wp2
          go_ret
          exact ⟨ret_bool HD.out.symm, _, rfl⟩
  · have hne : ((xs.length : Int) != (ys.length : Int)) = true := by simp; omega
    have hd : decide (xs = ys) = false := by simp; intro e; exact hl (by rw [e])
    rw [hd]
    go_enter Try.func42, Try.ntmps42
    go_wp2
    go_ret
    exact ⟨rfl, 0, rfl⟩
end Go.Proofs.Ytefcdcneenjbgab
