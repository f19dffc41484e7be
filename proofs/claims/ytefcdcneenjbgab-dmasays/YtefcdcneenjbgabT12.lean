/-
  Laid together: PlainB, Crossed, Carried, Digits, EntryOf, ContextOf.
-/
import Derived.Test.YtefcdcneenjbgabT11
import Derived.Deep.RegionHeld3
import Derived.Deep.DrawnRows
/-
  Package bridge: Plain; and the forms of Through and Plain where what they answer is known.
-/
namespace Go.Proofs.Ytefcdcneenjbgab
open Go.RowKit

theorem through_at {v : Value} {zs : List Int} {mo ba op oh ot fe fp fh ft : Int} {st lo : Bool} {vc : Value} {l : List Ln} {d p : Int} {wr : Bool} {w : World} {mo1 ba1 op1 oh1 ot1 fe1 fp1 fh1 ft1 : Int} {st1 lo1 : Bool} {l1 : List Ln} {k f e0 : Int} (hs : Sl w v zs) (h : Ls w vc l) (hE : thE zs ⟨mo, ba, l, op, oh, ot, st, fe, fp, fh, ft, lo⟩ d p = e0) (hR : thR zs ⟨mo, ba, l, op, oh, ot, st, fe, fp, fh, ft, lo⟩ d p wr = (⟨mo1, ba1, l1, op1, oh1, ot1, st1, fe1, fp1, fh1, ft1, lo1⟩, k, f)) :
    Calls Try.prog 24 #[.agg #[v], .agg #[.int .i64 mo, .int .i64 ba, vc, .int .i64 op, .int .i64 oh, .int .i64 ot, .bool st, .int .i64 fe, .int .i64 fp, .int .i64 fh, .int .i64 ft, .bool lo], .int .i64 d, .int .i64 p, .bool wr] w fun e w' =>
      ∃ va1 vk1, e = .returned (.tuple #[.agg #[.int .i64 mo1, .int .i64 ba1, .slice va1 l1.length vk1, .int .i64 op1, .int .i64 oh1, .int .i64 ot1, .bool st1, .int .i64 fe1, .int .i64 fp1, .int .i64 fh1, .int .i64 ft1, .bool lo1], .int .i64 k, .int .i64 f, .int .i64 e0]) ∧ Ls w' (.slice va1 l1.length vk1) l1 ∧ Below w.heap.size w w' := by
  refine (through_any v zs mo ba op oh ot fe fp fh ft st lo vc l d p wr w hs h).mono ?_
  rintro e w' ⟨mo2, ba2, op2, oh2, ot2, fe2, fp2, fh2, ft2, st2, lo2, va2, vk2, l2, k2, f2, rfl, hR2, hl, hb⟩
  rw [hR] at hR2
  simp only [Prod.mk.injEq, Br.mk.injEq] at hR2
  obtain ⟨⟨rfl, rfl, rfl, rfl, rfl, rfl, rfl, rfl, rfl, rfl, rfl, rfl⟩, rfl, rfl⟩ := hR2
  rw [hE]
  exact ⟨va2, vk2, rfl, hl, hb⟩

set_option maxHeartbeats 4000000 in
theorem plain_at {v : Value} {zs : List Int} {mo ba op oh ot fe fp fh ft : Int} {st lo : Bool} {vc : Value} {l : List Ln} {d p : Int} {wr : Bool} {w : World} {c : Br} {k f e0 : Int} (hs : Sl w v zs) (h : Ls w vc l) (hE : thE zs ⟨mo, ba, [], op, oh, ot, st, fe, fp, fh, ft, lo⟩ d p = e0) (hR : thR zs ⟨mo, ba, [], op, oh, ot, st, fe, fp, fh, ft, lo⟩ d p wr = (c, k, f)) :
    Calls Try.prog 25 #[.agg #[v], .agg #[.int .i64 mo, .int .i64 ba, vc, .int .i64 op, .int .i64 oh, .int .i64 ot, .bool st, .int .i64 fe, .int .i64 fp, .int .i64 fh, .int .i64 ft, .bool lo], .int .i64 d, .int .i64 p, .bool wr] w fun e w' =>
      e = .returned (.tuple #[.int .i64 k, .int .i64 f, .int .i64 e0]) ∧ Below w.heap.size w w' := by
  obtain ⟨va, vk, rfl, -⟩ := h.shape
  have HM : Hid (Sl w v zs) := hs
  obtain ⟨ma, mc, rfl⟩ := hs.shape
  obtain ⟨mo1, ba1, l1, op1, oh1, ot1, st1, fe1, fp1, fh1, ft1, lo1⟩ := c
  have HE : Hid (_ = _) := hE
  have HR : Hid (_ = _) := hR
  clear h hs hE hR
  go_enter Try.func25, Try.ntmps25
  go_wp2_with fail
  have B1 : Hid (Below w.heap.size w _) := bel_alloc (bel_alloc (Below.refl w.heap.size w) (.cells #[.slice ma zs.length mc] 39)) (.cells #[.int .i64 mo, .int .i64 ba, .slice none 0 0, .int .i64 op, .int .i64 oh, .int .i64 ot, .bool st, .int .i64 fe, .int .i64 fp, .int .i64 fh, .int .i64 ft, .bool lo] 44)
  refine (through_at (HM.out.keep B1.out) (Ls.nothing _) HE.out HR.out).mono ?_
  rintro e w2 ⟨va1, vk1, rfl, hl, hb⟩
  have B2 : Hid (Below w.heap.size w w2) := bel_trans B1.out hb
  clear hb hl
  go_wp2
  refine bodyPost_ret (v := .tuple #[.int .i64 k, .int .i64 f, .int .i64 e0]) (by simp [results, Try.results25, go_sem, *]) rfl ⟨rfl, ?_⟩
  (repeat (first | with_reducible exact B2.out | with_reducible refine bel_alloc ?_ _ | (with_reducible refine bel_set12 ?_ ?_ _ _ _ _ _ _ _ _ _ _ _ _; (focus omega))))
end Go.Proofs.Ytefcdcneenjbgab
/-
  The closed fact 'crossed' of the statements answers true; nothing that was there turns.
-/
namespace Go.Proofs.Ytefcdcneenjbgab
open Go.RowKit
def tab : List Int := wth [9, 33, 10, 3, 16, 49, 24, 159, 25, 139] 5
def tab2 : List Int := tab.set 24 0
theorem cr1 : thE tab ⟨2, 1, [], 40, 0, 0, false, 0, 41, 0, 0, false⟩ 1 0 = 0 := by kernel_rfl
theorem cr2 : thR tab ⟨2, 1, [], 40, 0, 0, false, 0, 41, 0, 0, false⟩ 1 0 true = (⟨2, 1, [(1, 0, 9, true, true)], 40, 0, 0, false, 0, 41, 0, 0, false⟩, 9, 0) := by kernel_rfl
theorem cr3 : thE tab2 ⟨2, 1, [(1, 0, 9, true, true)], 40, 0, 0, false, 0, 41, 0, 0, false⟩ 1 0 = 0 := by kernel_rfl
theorem cr4 : thR tab2 ⟨2, 1, [(1, 0, 9, true, true)], 40, 0, 0, false, 0, 41, 0, 0, false⟩ 1 0 true = (⟨2, 1, [(1, 0, 9, true, true)], 40, 0, 0, false, 0, 41, 0, 0, false⟩, 9, 0) := by kernel_rfl
theorem cr5 : thE tab2 ⟨2, 1, [], 40, 0, 0, false, 0, 41, 0, 0, false⟩ 1 0 = 0 := by kernel_rfl
theorem cr6 : thR tab2 ⟨2, 1, [], 40, 0, 0, false, 0, 41, 0, 0, false⟩ 1 0 true = (⟨2, 1, [], 40, 0, 0, false, 0, 41, 0, 0, false⟩, 0, 3) := by kernel_rfl
theorem cr7 : thR tab2 ⟨2, 1, [], 40, 0, 0, false, 0, 41, 0, 0, false⟩ 2 7 true = (⟨2, 1, [], 40, 0, 0, false, 0, 41, 0, 0, false⟩, 7, 0) := by kernel_rfl
theorem cr8 : thR tab2 ⟨2, 1, [], 40, 0, 0, false, 0, 41, 0, 0, false⟩ 3 7 true = (⟨2, 1, [], 40, 0, 0, false, 0, 41, 0, 0, false⟩, 0, 2) := by kernel_rfl
theorem cr9 : thE tab2 ⟨2, 1, [], 40, 0, 0, false, 0, 41, 0, 0, false⟩ 2 7 = 0 := by kernel_rfl
theorem cr10 : thE tab2 ⟨2, 1, [], 40, 0, 0, false, 0, 41, 0, 0, false⟩ 3 7 = 0 := by kernel_rfl

theorem tab_len : tab.length = 512 := wth_len _ _
theorem tab2_len : tab2.length = 512 := by rw [tab2, List.length_set, tab_len]

set_option maxHeartbeats 4000000 in
theorem tables_own (w : World) : Calls Try.prog 66 #[] w fun e w' =>
    ∃ g, e = .returned (.tuple #[.agg #[.slice (some ⟨g, 0, none⟩) 512 512], .agg #[.int .i64 2, .int .i64 1, .slice none 0 0, .int .i64 40, .int .i64 0, .int .i64 0, .bool false, .int .i64 0, .int .i64 41, .int .i64 0, .int .i64 0, .bool false]]) ∧ w'.heap[g]? = some (.cells (intCells tab) 3 (0, 0)) ∧ w.heap.size ≤ g ∧ Below w.heap.size w w' := by
  go_enter Try.func66, Try.ntmps66
  go_wp2_with fail
  refine (with_own _ 0 10 [9, 33, 10, 3, 16, 49, 24, 159, 25, 139] 5 _ ?_ rfl (by decide) (by decide)).mono ?_
  · exact sl_block (heap_at (by simp)) rfl rfl (by simp [maxLen])
  rintro e w1 ⟨g, rfl, hS, b1, hg, cs, hgc, hcs⟩
  have X0 := (((Box.newAt (n := w.heap.size) rfl 39 #[.slice none 0 0]).past _).past _).keep b1
  have X1 := ((Box.newAt (n := w.heap.size + 1) (by simp) 44 #[.int .i64 0, .int .i64 0, .slice none 0 0, .int .i64 0, .int .i64 0, .int .i64 0, .bool false, .int .i64 0, .int .i64 0, .int .i64 0, .int .i64 0, .bool false]).past _).keep b1
  have B1 : Hid (Below w.heap.size w w1) := bel_trans (bel_alloc (bel_alloc (bel_alloc (Below.refl _ _) _) _) _) b1
  have hg' : w.heap.size + 1 + 1 + 1 ≤ g := by simpa using hg
  have hcc : cs = intCells tab := by
    apply Array.ext'
    rw [hcs, intCells_list]; rfl
  have HG : Hid (w1.heap[g]? = some (.cells (intCells tab) 3 (0, 0))) := by show _ = _; rw [hgc, hcc]
  clear b1 hS hg hgc hcs hcc
  obtain ⟨r0, r1, s0⟩ := X0.one
  obtain ⟨⟨u0, u1, u2, u3, u4, u5, u6, u7, u8, u9, u10, u11⟩, s1⟩ := X1.twelve
  obtain ⟨y0, y1, y2, y3, y4, y5, y6, y7, y8, y9, y10, y11⟩ := X1.marks
  go_wp2
  refine bodyPost_ret (v := .tuple #[.agg #[.slice (some ⟨g, 0, none⟩) 512 512], .agg #[.int .i64 2, .int .i64 1, .slice none 0 0, .int .i64 40, .int .i64 0, .int .i64 0, .bool false, .int .i64 0, .int .i64 41, .int .i64 0, .int .i64 0, .bool false]]) (by simp [results, Try.results66, go_sem, *]) rfl ⟨g, rfl, ?_, by omega, ?_⟩
  · exact (Box.other (p := ⟨w.heap.size, 0, none⟩) HG.out (by dsimp only; omega) _).other12 (by omega) _ _ _ _ _ _ _ _ _ _ _ _
  · exact bel_set12 (by omega) (bel_set (p := ⟨w.heap.size, 0, none⟩) (Nat.le_refl _) B1.out _) _ _ _ _ _ _ _ _ _ _ _ _

theorem sl_tab {w : World} {g : Nat} {zs : List Int} (h : w.heap[g]? = some (.cells (intCells zs) 3 (0, 0))) (hl : zs.length = 512) : Sl w (.slice (some ⟨g, 0, none⟩) 512 512) zs :=
  sl_block h (intCells_list _) hl.symm (by rw [hl]; simp [maxLen])

set_option maxHeartbeats 4000000 in
theorem crossed_true (w : World) : Calls Try.prog 28 #[] w fun e w' => e = .returned (.bool true) ∧ Below w.heap.size w w' := by
  go_enter Try.func28, Try.ntmps28
  go_wp2_with fail
  refine (tables_own _).mono ?_
  rintro e w1 ⟨g, rfl, hg1, hg, b1⟩
  have hgl : g < w1.heap.size := Box.lt hg1
  have z1 : w.heap.size ≤ w1.heap.size := b1.size
  have HG : Hid _ := hg1
  have B1 : Hid (Below w.heap.size w w1) := b1
  clear hg1 b1
  have G2 := heap_past (o := .cells #[.int .i64 2, .int .i64 1, .slice none 0 0, .int .i64 40, .int .i64 0, .int .i64 0, .bool false, .int .i64 0, .int .i64 41, .int .i64 0, .int .i64 0, .bool false] 44) (by simp; omega) (heap_past (o := .cells #[.slice (some ⟨g, 0, none⟩) 512 512] 39) hgl HG.out)
  go_wp2_with fail
  refine (through_at (sl_tab G2 tab_len) (Ls.nothing _) cr1 cr2).mono ?_
  rintro e w2 ⟨va, vk, rfl, hL2, b2⟩
  have X1 := ((Box.newAt (w := w1) rfl 39 #[.slice (some ⟨g, 0, none⟩) 512 512]).past (.cells #[.int .i64 2, .int .i64 1, .slice none 0 0, .int .i64 40, .int .i64 0, .int .i64 0, .bool false, .int .i64 0, .int .i64 41, .int .i64 0, .int .i64 0, .bool false] 44)).keep b2
  have X2 := (Box.newAt (w := w1.alloc (.cells #[.slice (some ⟨g, 0, none⟩) 512 512] 39)) (n := w1.heap.size + 1) (by simp) 44 #[.int .i64 2, .int .i64 1, .slice none 0 0, .int .i64 40, .int .i64 0, .int .i64 0, .bool false, .int .i64 0, .int .i64 41, .int .i64 0, .int .i64 0, .bool false]).keep b2
  have G2 := heap_kept b2 (by simp; omega) G2
  have B2 : Hid (Below w.heap.size w w2) := bel_trans (bel_alloc (bel_alloc B1.out _) _) b2
  clear b2 B1 HG
  have zA : w.heap.size ≤ w1.heap.size := z1
  have zg : g < w2.heap.size := Box.lt G2
  have nA : ¬ g = w1.heap.size := by omega
  have nA1 : ¬ g = w1.heap.size + 1 := by omega
  generalize w1.heap.size = A at *
  clear z1 hgl
  have hL2 : Ls w2 (.slice va 1 vk) [(1, 0, 9, true, true)] := hL2
  have HS2 : Hid (Sl w2 (.slice (some ⟨g, 0, none⟩) 512 512) tab) := sl_tab G2 tab_len
  have HL3 : Hid (Ls ((w2.setCell ⟨g, 24, none⟩ (.int .i64 0)).alloc (.cells #[.int .i64 2, .int .i64 1, .slice va 1 vk, .int .i64 40, .int .i64 0, .int .i64 0, .bool false, .int .i64 0, .int .i64 41, .int .i64 0, .int .i64 0, .bool false] 44)) (.slice va 1 vk) [(1, 0, 9, true, true)]) := by
    have := hL2.setSl HS2.out (k := 24) (by rw [tab_len]; decide) (.int .i64 0)
    rw [Nat.zero_add] at this
    exact this.alloc _
  have g24 : w2.cell? ⟨g, 24, none⟩ = some (.int .i64 (nth tab 24)) := by rw [cell_of_row w2 g _ _ _ _ G2, intCells_at (by rw [tab_len]; decide)]
  have f24 : w2.frozen? ⟨g, 24, none⟩ = false := frozen_of_row w2 g _ _ _ G2
  have G3 : ((w2.setCell ⟨g, 24, none⟩ (.int .i64 0)).alloc (.cells #[.int .i64 2, .int .i64 1, .slice va 1 vk, .int .i64 40, .int .i64 0, .int .i64 0, .bool false, .int .i64 0, .int .i64 41, .int .i64 0, .int .i64 0, .bool false] 44)).heap[g]? = some (.cells (intCells tab2) 3 (0, 0)) := by
    refine heap_past (by simpa [World.setCell] using zg) ?_
    rw [heap_setCell_same _ _ _ _ _ _ G2, intCells_set]; rfl
  have X1' := (X1.other (p := ⟨g, 24, none⟩) (by dsimp only; omega) (.int .i64 0)).past (.cells #[.int .i64 2, .int .i64 1, .slice va 1 vk, .int .i64 40, .int .i64 0, .int .i64 0, .bool false, .int .i64 0, .int .i64 41, .int .i64 0, .int .i64 0, .bool false] 44)
  have X2' := (X2.other (p := ⟨g, 24, none⟩) (by dsimp only; omega) (.int .i64 0)).past (.cells #[.int .i64 2, .int .i64 1, .slice va 1 vk, .int .i64 40, .int .i64 0, .int .i64 0, .bool false, .int .i64 0, .int .i64 41, .int .i64 0, .int .i64 0, .bool false] 44)
  have X3' : Box ((w2.setCell ⟨g, 24, none⟩ (.int .i64 0)).alloc (.cells #[.int .i64 2, .int .i64 1, .slice va 1 vk, .int .i64 40, .int .i64 0, .int .i64 0, .bool false, .int .i64 0, .int .i64 41, .int .i64 0, .int .i64 0, .bool false] 44)) w2.heap.size 44 #[.int .i64 2, .int .i64 1, .slice va 1 vk, .int .i64 40, .int .i64 0, .int .i64 0, .bool false, .int .i64 0, .int .i64 41, .int .i64 0, .int .i64 0, .bool false] := Box.newAt (by simp) _ _
  have B3 : Hid (Below w.heap.size w ((w2.setCell ⟨g, 24, none⟩ (.int .i64 0)).alloc (.cells #[.int .i64 2, .int .i64 1, .slice va 1 vk, .int .i64 40, .int .i64 0, .int .i64 0, .bool false, .int .i64 0, .int .i64 41, .int .i64 0, .int .i64 0, .bool false] 44))) := bel_alloc (bel_set hg B2.out _) _
  obtain ⟨m0, -, s1⟩ := X1.one
  have HG3 : Hid _ := G3
  clear G2 G3 hL2 B2
  go_wp2_with fail
  clear g24 f24 m0 s1 X1 X2 zg
  generalize ((w2.setCell ⟨g, 24, none⟩ (.int .i64 0)).alloc (.cells #[.int .i64 2, .int .i64 1, .slice va 1 vk, .int .i64 40, .int .i64 0, .int .i64 0, .bool false, .int .i64 0, .int .i64 41, .int .i64 0, .int .i64 0, .bool false] 44)) = W3 at *
  generalize w2.heap.size = N at *
  refine (through_at (sl_tab HG3.out tab2_len) HL3.out cr3 cr4).mono ?_
  rintro e w4 ⟨va4, vk4, rfl, -, b4⟩
  have X1 := (X1'.keep b4).past (.cells #[.int .i64 2, .int .i64 1, .slice va4 1 vk4, .int .i64 40, .int .i64 0, .int .i64 0, .bool false, .int .i64 0, .int .i64 41, .int .i64 0, .int .i64 0, .bool false] 44)
  have X2 := (X2'.keep b4).past (.cells #[.int .i64 2, .int .i64 1, .slice va4 1 vk4, .int .i64 40, .int .i64 0, .int .i64 0, .bool false, .int .i64 0, .int .i64 41, .int .i64 0, .int .i64 0, .bool false] 44)
  have X3 := (X3'.keep b4).past (.cells #[.int .i64 2, .int .i64 1, .slice va4 1 vk4, .int .i64 40, .int .i64 0, .int .i64 0, .bool false, .int .i64 0, .int .i64 41, .int .i64 0, .int .i64 0, .bool false] 44)
  have HL4 : Hid (Ls _ (.slice va 1 vk) [(1, 0, 9, true, true)]) := (HL3.out.keep b4).alloc (.cells #[.int .i64 2, .int .i64 1, .slice va4 1 vk4, .int .i64 40, .int .i64 0, .int .i64 0, .bool false, .int .i64 0, .int .i64 41, .int .i64 0, .int .i64 0, .bool false] 44)
  have HG4 : Hid _ := heap_past (o := .cells #[.int .i64 2, .int .i64 1, .slice va4 1 vk4, .int .i64 40, .int .i64 0, .int .i64 0, .bool false, .int .i64 0, .int .i64 41, .int .i64 0, .int .i64 0, .bool false] 44) (Box.lt (heap_kept b4 (Box.lt HG3.out) HG3.out)) (heap_kept b4 (Box.lt HG3.out) HG3.out)
  have B4 : Hid (Below w.heap.size w (w4.alloc (.cells #[.int .i64 2, .int .i64 1, .slice va4 1 vk4, .int .i64 40, .int .i64 0, .int .i64 0, .bool false, .int .i64 0, .int .i64 41, .int .i64 0, .int .i64 0, .bool false] 44))) := bel_alloc (bel_trans B3.out b4) _
  have Y1 := X1'.keep b4
  have Y3 := X3'.keep b4
  clear b4 X1' X2' X3' HL3 HG3 B3
  obtain ⟨m0, -, s1⟩ := Y1.one
  obtain ⟨⟨n0, n1, n2, n3, n4, n5, n6, n7, n8, n9, n10, n11⟩, s3⟩ := Y3.twelve
  go_wp2_with fail
  clear m0 s1 n0 n1 n2 n3 n4 n5 n6 n7 n8 n9 n10 n11 s3 Y1 Y3
  generalize (w4.alloc (.cells #[.int .i64 2, .int .i64 1, .slice va4 1 vk4, .int .i64 40, .int .i64 0, .int .i64 0, .bool false, .int .i64 0, .int .i64 41, .int .i64 0, .int .i64 0, .bool false] 44)) = W5 at *
  refine (plain_at (sl_tab HG4.out tab2_len) HL4.out cr5 cr6).mono ?_
  rintro e w6 ⟨rfl, b6⟩
  have X1 := X1.keep b6
  have X2 := X2.keep b6
  have X3 := X3.keep b6
  have HG6 : Hid _ := heap_kept b6 (Box.lt HG4.out) HG4.out
  have B6 : Hid (Below w.heap.size w w6) := bel_trans B4.out b6
  clear b6 HL4 HG4 B4
  obtain ⟨m0, -, s1⟩ := X1.one
  obtain ⟨⟨n0, n1, n2, n3, n4, n5, n6, n7, n8, n9, n10, n11⟩, s3⟩ := X2.twelve
  go_wp2_with fail
  clear m0 s1 n0 n1 n2 n3 n4 n5 n6 n7 n8 n9 n10 n11 s3
  refine (through_at (sl_tab HG6.out tab2_len) (Ls.nothing _) cr9 cr7).mono ?_
  rintro e w7 ⟨va7, vk7, rfl, -, b7⟩
  have X1 := X1.keep b7
  have X2 := X2.keep b7
  have X3 := X3.keep b7
  have HG7 : Hid _ := heap_past (o := .cells #[.int .i64 2, .int .i64 1, .slice va7 0 vk7, .int .i64 40, .int .i64 0, .int .i64 0, .bool false, .int .i64 0, .int .i64 41, .int .i64 0, .int .i64 0, .bool false] 44) (Box.lt (heap_kept b7 (Box.lt HG6.out) HG6.out)) (heap_kept b7 (Box.lt HG6.out) HG6.out)
  have B7 : Hid (Below w.heap.size w w7) := bel_trans B6.out b7
  clear b7 HG6 B6
  obtain ⟨m0, -, s1⟩ := X1.one
  obtain ⟨⟨n0, n1, n2, n3, n4, n5, n6, n7, n8, n9, n10, n11⟩, s3⟩ := X2.twelve
  go_wp2_with fail
  clear m0 s1 n0 n1 n2 n3 n4 n5 n6 n7 n8 n9 n10 n11 s3
  refine (through_at (sl_tab HG7.out tab2_len) (Ls.nothing _) cr10 cr8).mono ?_
  rintro e w8 ⟨va8, vk8, rfl, -, b8⟩
  have X3 := (X3.past _).keep b8
  have B8 : Hid (Below w.heap.size w w8) := bel_trans (bel_alloc B7.out _) b8
  clear b8 HG7 B7
  obtain ⟨⟨n0, n1, n2, n3, n4, n5, n6, n7, n8, n9, n10, n11⟩, s3⟩ := X3.twelve
  go_wp2
  go_ret
  exact ⟨rfl, bel_alloc B8.out _⟩
end Go.Proofs.Ytefcdcneenjbgab
/-
  The closed fact 'carried' of the statements answers true; nothing that was there turns.
-/
namespace Go.Proofs.Ytefcdcneenjbgab
open Go.RowKit

def caM : List Int := ((tab.set 78 4).set 79 5).set 328 4173
theorem ca1E : doE tab ⟨2, 1, [], 40, 0, 0, false, 0, 41, 0, 0, false⟩ 1 6 3 true [4, 5, 6] = 0 := by kernel_rfl
theorem ca1R : doR tab ⟨2, 1, [], 40, 0, 0, false, 0, 41, 0, 0, false⟩ 1 6 3 true [4, 5, 6] = (⟨caM, ⟨2, 1, [(1, 0, 9, true, true)], 40, 0, 0, false, 0, 41, 0, 1, false⟩, [], [(1, 6, 78, true, 4), (1, 7, 79, true, 5)]⟩, 5) := by kernel_rfl
theorem ca2E : doE caM ⟨2, 1, [(1, 0, 9, true, true)], 40, 0, 0, false, 0, 41, 0, 1, false⟩ 1 6 3 false [] = 0 := by kernel_rfl
theorem ca2R : doR caM ⟨2, 1, [(1, 0, 9, true, true)], 40, 0, 0, false, 0, 41, 0, 1, false⟩ 1 6 3 false [] = (⟨caM, ⟨2, 1, [(1, 0, 9, true, true), (1, 1, 8, true, false)], 40, 0, 0, false, 0, 41, 0, 1, false⟩, [4, 5, 0], [(1, 6, 78, false, 4), (1, 7, 79, false, 5), (1, 8, 64, false, 0)]⟩, 0) := by kernel_rfl
theorem caM_len : caM.length = 512 := by simp only [caM, List.length_set, tab_len]
theorem caM78 : nth caM 78 = 4 := by kernel_rfl
theorem caM79 : nth caM 79 = 5 := by kernel_rfl
theorem caM328 : nth caM 328 = 4173 := by kernel_rfl

set_option maxRecDepth 10000 in
set_option maxHeartbeats 4000000 in
theorem carried_true (w : World) : Calls Try.prog 49 #[] w fun e w' => e = .returned (.bool true) ∧ Below w.heap.size w w' := by
  go_enter Try.func49, Try.ntmps49
  go_wp2_with fail
  refine (tables_own _).mono ?_
  rintro e w1 ⟨g, rfl, hg1, hg, b1⟩
  have hgl : g < w1.heap.size := Box.lt hg1
  have B1 : Hid (Below w.heap.size w w1) := b1
  have G2 : Hid (Box (((w1.alloc (.cells #[.slice (some ⟨g, 0, none⟩) 512 512] 39)).alloc (.cells #[.int .i64 2, .int .i64 1, .slice none 0 0, .int .i64 40, .int .i64 0, .int .i64 0, .bool false, .int .i64 0, .int .i64 41, .int .i64 0, .int .i64 0, .bool false] 44)).alloc (.cells #[.int .i64 4, .int .i64 5, .int .i64 6] 3)) g 3 (intCells tab)) := ((Box.past hg1 _).past _).past _
  clear hg1 b1
  go_wp2_with fail
  refine (do_at (ds := [4, 5, 6]) (dn := false) (sl_tab G2.out tab_len) (Ls.nothing _) (sl_block (zs := [4, 5, 6]) (heap_at (by simp)) rfl rfl (by simp [maxLen])) ca1E ca1R rfl).mono ?_
  rintro e w2 ⟨ma, mc, va, vk, da, dc, ta, tc, rfl, hS2, hL2, -, -, b2, -, -, -, -⟩
  have B2 : Hid (Below w.heap.size w w2) := bel_trans (bel_alloc (bel_alloc (bel_alloc B1.out _) _) _) b2
  clear b2 B1 G2 hgl hg
  obtain ⟨gb, go, gc, he, hgb, hcs⟩ := hS2.open512 caM_len
  rw [caM_len] at hS2 ⊢
  simp only [caM_len, Value.slice.injEq, true_and] at he
  obtain ⟨rfl, rfl⟩ := he
  have HS3 : Hid (Sl (((w2.alloc (.cells #[.slice (some ⟨gb, go, none⟩) 512 mc] 39)).alloc (.cells #[.int .i64 2, .int .i64 1, .slice va 1 vk, .int .i64 40, .int .i64 0, .int .i64 0, .bool false, .int .i64 0, .int .i64 41, .int .i64 0, .int .i64 1, .bool false] 44)).alloc (.cells #[.bool false, .slice da 0 dc, .int .i64 5, .slice ta 2 tc] 82)) (.slice (some ⟨gb, go, none⟩) 512 mc) caM) := ((hS2.alloc _).alloc _).alloc _
  have HL3 : Hid (Ls (((w2.alloc (.cells #[.slice (some ⟨gb, go, none⟩) 512 mc] 39)).alloc (.cells #[.int .i64 2, .int .i64 1, .slice va 1 vk, .int .i64 40, .int .i64 0, .int .i64 0, .bool false, .int .i64 0, .int .i64 41, .int .i64 0, .int .i64 1, .bool false] 44)).alloc (.cells #[.bool false, .slice da 0 dc, .int .i64 5, .slice ta 2 tc] 82)) (.slice va 1 vk) [(1, 0, 9, true, true)]) := ((Ls.alloc (show Ls w2 (.slice va 1 vk) [(1, 0, 9, true, true)] from hL2) _).alloc _).alloc _
  clear hcs hS2 hL2 hgb
  have X3 := ((Box.newAt (w := w2) rfl 39 #[.slice (some ⟨gb, go, none⟩) 512 mc]).past (.cells #[.int .i64 2, .int .i64 1, .slice va 1 vk, .int .i64 40, .int .i64 0, .int .i64 0, .bool false, .int .i64 0, .int .i64 41, .int .i64 0, .int .i64 1, .bool false] 44)).past (.cells #[.bool false, .slice da 0 dc, .int .i64 5, .slice ta 2 tc] 82)
  have X5 := Box.newAt (w := (w2.alloc (.cells #[.slice (some ⟨gb, go, none⟩) 512 mc] 39)).alloc (.cells #[.int .i64 2, .int .i64 1, .slice va 1 vk, .int .i64 40, .int .i64 0, .int .i64 0, .bool false, .int .i64 0, .int .i64 41, .int .i64 0, .int .i64 1, .bool false] 44)) (n := w2.heap.size + 1 + 1) (by simp) 82 #[.bool false, .slice da 0 dc, .int .i64 5, .slice ta 2 tc]
  go_wp2_with fail
  refine (do_at (dn := true) HS3.out HL3.out (Sl.nil _ none 0) ca2E ca2R rfl).mono ?_
  rintro e w4 ⟨ma4, mc4, va4, vk4, da4, dc4, ta4, tc4, rfl, hS4, -, hD4, -, b4, -, -, -, -⟩
  have X3 := X3.keep b4
  have X5 := X5.keep b4
  have HS5 : Hid (Sl w4 (.slice (some ⟨gb, go, none⟩) 512 mc) caM) := HS3.out.keep b4
  have B4 : Hid (Below w.heap.size w w4) := bel_trans (bel_alloc (bel_alloc (bel_alloc B2.out _) _) _) b4
  rw [caM_len] at hS4 ⊢
  have HS4 : Hid (Sl w4 (.slice ma4 512 mc4) caM) := hS4
  have HD4 : Hid (Sl w4 (.slice da4 3 dc4) [4, 5, 0]) := hD4
  clear b4 HS3 HL3 B2 hS4 hD4
  have h3 := X3.lt
  have h5 := X5.lt
  generalize w2.heap.size = A at *
  obtain ⟨b', o', c', he, hb', hcs⟩ := HS5.out.open512 caM_len
  simp only [Value.slice.injEq, Option.some.injEq, Addr.mk.injEq, and_true, true_and] at he
  obtain ⟨⟨rfl, rfl⟩, rfl⟩ := he
  have g78 := hcs 78 (by decide)
  have g79 := hcs 79 (by decide)
  have g328 := hcs 328 (by decide)
  rw [caM78] at g78
  rw [caM79] at g79
  rw [caM328] at g328
  clear hcs
  obtain ⟨m0, -, -⟩ := X3.one
  obtain ⟨t0, t1, t2, t3, -, -, -, -, -⟩ := X5.four
  have z00 : A + 1 + 1 < w4.heap.size + 1 := by omega
  have z01 : A + 1 + 1 < w4.heap.size + 1 + 1 := by omega
  have z02 : A + 1 + 1 < w4.heap.size + 1 + 1 + 1 := by omega
  have z10 : A < w4.heap.size + 1 := by omega
  have z11 : A < w4.heap.size + 1 + 1 := by omega
  have z12 : A < w4.heap.size + 1 + 1 + 1 := by omega
  have z20 : gb < w4.heap.size + 1 := by omega
  have z21 : gb < w4.heap.size + 1 + 1 := by omega
  have z22 : gb < w4.heap.size + 1 + 1 + 1 := by omega
  have B5 : Hid (Below w4.heap.size w4 ((((w4.alloc (.cells #[.slice ma4 512 mc4] 39)).alloc (.cells #[.int .i64 2, .int .i64 1, .slice va4 2 vk4, .int .i64 40, .int .i64 0, .int .i64 0, .bool false, .int .i64 0, .int .i64 41, .int .i64 0, .int .i64 1, .bool false] 44)).alloc (.cells #[.bool true, .slice da4 3 dc4, .int .i64 0, .slice ta4 3 tc4] 82)).alloc (.cells #[.int .i64 4, .int .i64 5, .int .i64 0] 3))) := bel_alloc (bel_alloc (bel_alloc (bel_alloc (Below.refl _ _) _) _) _) _
  have X3' := X3.keep B5.out
  have X7' := (((Box.newAt (w := w4) rfl 39 #[.slice ma4 512 mc4]).past (.cells #[.int .i64 2, .int .i64 1, .slice va4 2 vk4, .int .i64 40, .int .i64 0, .int .i64 0, .bool false, .int .i64 0, .int .i64 41, .int .i64 0, .int .i64 1, .bool false] 44)).past (.cells #[.bool true, .slice da4 3 dc4, .int .i64 0, .slice ta4 3 tc4] 82)).past (.cells #[.int .i64 4, .int .i64 5, .int .i64 0] 3)
  go_wp2_with fail
  refine (equal_any _ _ [4, 5, 0] [4, 5, 0] _ (HD4.out.keep B5.out) (sl_block (b := w4.heap.size + 1 + 1 + 1) (zs := [4, 5, 0]) (heap_at (by simp)) rfl rfl (by simp [maxLen]))).mono ?_
  rintro e w6 ⟨rfl, nq, rfl⟩
  rw [decide_eq_true (rfl : ([4, 5, 0] : List Int) = [4, 5, 0])]
  clear g78 g79 g328 m0 t0 t1 t2 t3 hb'
  obtain ⟨m0, -, s0⟩ := (X3'.drewN nq).one
  obtain ⟨m7, -, s7⟩ := (X7'.drewN nq).one
  have HSa : Hid (Sl (((((w4.alloc (.cells #[.slice ma4 512 mc4] 39)).alloc (.cells #[.int .i64 2, .int .i64 1, .slice va4 2 vk4, .int .i64 40, .int .i64 0, .int .i64 0, .bool false, .int .i64 0, .int .i64 41, .int .i64 0, .int .i64 1, .bool false] 44)).alloc (.cells #[.bool true, .slice da4 3 dc4, .int .i64 0, .slice ta4 3 tc4] 82)).alloc (.cells #[.int .i64 4, .int .i64 5, .int .i64 0] 3)).drewN nq) _ caM) := Sl.drewN (HS5.out.keep B5.out) nq
  have HSb : Hid (Sl (((((w4.alloc (.cells #[.slice ma4 512 mc4] 39)).alloc (.cells #[.int .i64 2, .int .i64 1, .slice va4 2 vk4, .int .i64 40, .int .i64 0, .int .i64 0, .bool false, .int .i64 0, .int .i64 41, .int .i64 0, .int .i64 1, .bool false] 44)).alloc (.cells #[.bool true, .slice da4 3 dc4, .int .i64 0, .slice ta4 3 tc4] 82)).alloc (.cells #[.int .i64 4, .int .i64 5, .int .i64 0] 3)).drewN nq) _ caM) := Sl.drewN (HS4.out.keep B5.out) nq
  have B6 : Hid (Below w.heap.size w (((((w4.alloc (.cells #[.slice ma4 512 mc4] 39)).alloc (.cells #[.int .i64 2, .int .i64 1, .slice va4 2 vk4, .int .i64 40, .int .i64 0, .int .i64 0, .bool false, .int .i64 0, .int .i64 41, .int .i64 0, .int .i64 1, .bool false] 44)).alloc (.cells #[.bool true, .slice da4 3 dc4, .int .i64 0, .slice ta4 3 tc4] 82)).alloc (.cells #[.int .i64 4, .int .i64 5, .int .i64 0] 3)).drewN nq)) := bel_drewN (bel_trans B4.out B5.out) nq
  clear z00 z01 z02 z10 z11 z12 z20 z21 z22
  clear X3 X5 X3' X7' B5 B4 HS5 HS4 HD4 h3 h5
  generalize (((((w4.alloc (.cells #[.slice ma4 512 mc4] 39)).alloc (.cells #[.int .i64 2, .int .i64 1, .slice va4 2 vk4, .int .i64 40, .int .i64 0, .int .i64 0, .bool false, .int .i64 0, .int .i64 41, .int .i64 0, .int .i64 1, .bool false] 44)).alloc (.cells #[.bool true, .slice da4 3 dc4, .int .i64 0, .slice ta4 3 tc4] 82)).alloc (.cells #[.int .i64 4, .int .i64 5, .int .i64 0] 3)).drewN nq) = W6 at *
  go_wp2_with fail
  refine (same_any _ _ caM caM _ HSa.out HSb.out).mono ?_
  rintro e w7 ⟨rfl, b7⟩
  rw [decide_eq_true (rfl : caM = caM)]
  have B7 : Hid (Below w.heap.size w w7) := bel_trans B6.out b7
  clear b7
  go_wp2
  go_ret
  exact ⟨rfl, B7.out⟩
end Go.Proofs.Ytefcdcneenjbgab
/-
  drawbridgeref's digits and number: what they answer; nothing that was there turns.
-/
namespace Go.Proofs.Ytefcdcneenjbgab
open Go.RowKit

/-- The number of some bits, the lowest one first. -/
def num : List Int → Int
  | [] => 0
  | b :: bs => b + 2 * num bs

theorem num_in (zs : List Int) (h : ∀ i, i < zs.length → 0 ≤ nth zs i ∧ nth zs i ≤ 1) : 0 ≤ num zs ∧ num zs < 2 ^ zs.length := by
  induction zs with
  | nil => simp [num]
  | cons b bs ih =>
    have h0 := h 0 (by simp)
    have hb : nth (b :: bs) 0 = b := rfl
    rw [hb] at h0
    have := ih fun i hi => h (i + 1) (by simp; omega)
    rw [num, List.length_cons, Int.pow_succ]
    omega
theorem num_drop (zs : List Int) (k : Nat) (hk : k < zs.length) : num (zs.drop k) = nth zs k + 2 * num (zs.drop (k + 1)) := by
  rw [List.drop_eq_getElem_cons hk, num]
  simp [nth, hk]
theorem nth_drop (zs : List Int) (k i : Nat) : nth (zs.drop k) i = nth zs (k + i) := by simp [nth]

theorem pow_le16 {n : Nat} (h : n ≤ 16) : (2 : Int) ^ n ≤ 65536 := by
  have : (2 : Int) ^ n ≤ 2 ^ 16 := by exact_mod_cast Nat.pow_le_pow_right (by decide) h
  exact this

set_option maxHeartbeats 1000000 in
theorem number_any (v : Value) (zs : List Int) (w : World) (h : Sl w v zs) (hz : ∀ i, i < zs.length → 0 ≤ nth zs i ∧ nth zs i ≤ 1) (hl : zs.length ≤ 16) :
    Calls Try.prog 103 #[v] w fun e w' => e = .returned (.int .i64 (num zs)) ∧ w' = w := by
  obtain ⟨a, cap, rfl, _, h⟩ := h
  rcases h with rfl | ⟨b, o, rfl, hb, hc⟩
  · go_enter Try.func103, Try.ntmps103
    go_wp2
    go_loop [3, 4] (fun n i => n = .int .i64 0 ∧ i = .int .i64 (-1)) (fun _ i => 0)
    case atStart => exact ⟨rfl, rfl⟩
    case round =>
      obtain ⟨rfl, rfl⟩ := hrel
      go_wp2
      go_ret
      exact ⟨rfl, rfl⟩
  · have HC : Hid (∀ i, i < zs.length → w.cell? ⟨b, o + i, none⟩ = some (.int .i64 (nth zs i))) := hc
    have HZ : Hid (∀ i, i < zs.length → 0 ≤ nth zs i ∧ nth zs i ≤ 1) := hz
    clear hc hz
    go_enter Try.func103, Try.ntmps103
    go_wp2
    go_loop [3, 4] (fun n i => ∃ k : Nat, k ≤ zs.length ∧ i = .int .i64 ((k : Int) - 1) ∧ n = .int .i64 (num (zs.drop k))) (fun _ i => (intOf i + 1).toNat)
    case atStart => exact ⟨zs.length, Nat.le_refl _, rfl, by simp [num]⟩
    case round =>
      obtain ⟨k, hk, rfl, rfl⟩ := hrel
      by_cases h0 : k = 0
      · subst h0
        go_wp2
        go_ret
        exact ⟨rfl, rfl⟩
      · obtain ⟨j, rfl⟩ : ∃ j, k = j + 1 := ⟨k - 1, by omega⟩
        have g := HC.out j (by omega)
        obtain ⟨g0, g1⟩ := HZ.out j (by omega)
        obtain ⟨m0, m1⟩ := num_in (zs.drop (j + 1)) fun i hi => by rw [nth_drop]; exact HZ.out _ (by simp at hi; omega)
        have m2 : num (zs.drop (j + 1)) < 65536 := Int.lt_of_lt_of_le m1 (pow_le16 (by simp; omega))
        have HN : Hid _ := num_drop zs j (by omega)
        have e1 : ((j + 1 : Nat) : Int) - 1 = j := by omega
        rw [e1]
        generalize num (zs.drop (j + 1)) = n at *
        generalize nth zs j = d at *
        clear m1 e1
        go_wp2
        refine ⟨⟨j, by omega, by go_num, ?_⟩, by simp [intOf]⟩
        rw [HN.out, Int.add_comm]

/-- A bit of a word, as a number: a plain name, so that the walk's own rules leave it standing. -/
def dg (z : Int) (j : Nat) : Int := z / 2 ^ j % 2

/-- The bits of a word as they lie in digits' array behind k rounds. -/
def digits (z : Int) (k : Nat) : List Int := (List.range 16).map (fun j => if j < k then dg z j else 0)
def digArr (z : Int) (k : Nat) : Array Value := ((digits z k).map (fun d => Value.int .i64 d)).toArray
theorem digArr_zero (z : Int) : digArr z 0 = #[.int .i64 0, .int .i64 0, .int .i64 0, .int .i64 0, .int .i64 0, .int .i64 0, .int .i64 0, .int .i64 0, .int .i64 0, .int .i64 0, .int .i64 0, .int .i64 0, .int .i64 0, .int .i64 0, .int .i64 0, .int .i64 0] := by
  simp [digArr, digits, List.range, List.range.loop]
theorem digArr_full (z : Int) : digArr z 16 = #[.int .i64 (dg z 0), .int .i64 (dg z 1), .int .i64 (dg z 2), .int .i64 (dg z 3), .int .i64 (dg z 4), .int .i64 (dg z 5), .int .i64 (dg z 6), .int .i64 (dg z 7), .int .i64 (dg z 8), .int .i64 (dg z 9), .int .i64 (dg z 10), .int .i64 (dg z 11), .int .i64 (dg z 12), .int .i64 (dg z 13), .int .i64 (dg z 14), .int .i64 (dg z 15)] := by
  simp [digArr, digits, List.range, List.range.loop]
theorem digArr_size (z : Int) (k : Nat) : (digArr z k).size = 16 := by simp [digArr, digits]
theorem digArr_at (z : Int) (k : Nat) (hk : k < 16) : (digArr z k)[k]? = some (.int .i64 0) := by
  simp [digArr, digits, hk]
theorem digArr_set (z : Int) (k : Nat) : (digArr z k).setIfInBounds k (.int .i64 (dg z k)) = digArr z (k + 1) := by
  apply Array.ext
  · simp [digArr, digits]
  · intro i h1 h2
    rw [Array.getElem_setIfInBounds]
    · by_cases e : k = i
      · subst e; simp [digArr, digits]
      · rw [if_neg e]
        have : (i < k) = (i < k + 1) := by simp; omega
        simp [digArr, digits, this]
    · simpa [digArr_size] using h2

set_option maxHeartbeats 2000000 in
theorem digits_any (z : Int) (w : World) (h0 : 0 ≤ z) (h1 : z ≤ 65535) :
    Calls Try.prog 102 #[.int .i64 z] w fun e w' => e = .returned (.agg #[.int .i64 (dg z 0), .int .i64 (dg z 1), .int .i64 (dg z 2), .int .i64 (dg z 3), .int .i64 (dg z 4), .int .i64 (dg z 5), .int .i64 (dg z 6), .int .i64 (dg z 7), .int .i64 (dg z 8), .int .i64 (dg z 9), .int .i64 (dg z 10), .int .i64 (dg z 11), .int .i64 (dg z 12), .int .i64 (dg z 13), .int .i64 (dg z 14), .int .i64 (dg z 15)]) ∧ ∃ o1 o2, w' = (w.alloc o1).alloc o2 := by
  go_enter Try.func102, Try.ntmps102
  go_wp2
  go_loopw [0, 5] (fun x i w' => ∃ k : Nat, k ≤ 16 ∧ x = .int .i64 (z / 2 ^ k) ∧ i = .int .i64 k ∧ w' = (w.alloc (.cells #[.int .i64 0, .int .i64 0, .int .i64 0, .int .i64 0, .int .i64 0, .int .i64 0, .int .i64 0, .int .i64 0, .int .i64 0, .int .i64 0, .int .i64 0, .int .i64 0, .int .i64 0, .int .i64 0, .int .i64 0, .int .i64 0] 134)).alloc (.cells (digArr z k) 134)) (fun _ i _ => 16 - (intOf i).toNat)
  case atStart => exact ⟨0, by omega, by simp, rfl, by rw [digArr_zero]⟩
  case round =>
    obtain ⟨k, hk, rfl, rfl, rfl⟩ := hrel
    by_cases hlt : k < 16
    · obtain ⟨y0, y1⟩ := shr_le z k h0 h1
      have hat := digArr_at z k hlt
      have HS : Hid _ := digArr_set z k
      have HD : Hid (z / 2 ^ k / 2 = z / 2 ^ (k + 1)) := by
        show z / 2 ^ k / 2 = z / 2 ^ (k + 1)
        rw [Int.pow_succ, Int.ediv_ediv_of_nonneg (Int.le_of_lt (Int.pow_pos (by decide)))]
      have HG : Hid (dg z k = z / 2 ^ k % 2) := rfl
      have hlt1 : (k : Int) < 16 := by omega
      generalize z / 2 ^ k = y at *
      go_wp2
      refine ⟨⟨k + 1, by omega, ?_, by go_num, ?_⟩, by simp [intOf]; omega⟩
      · rw [HD.out]
      · rw [← HS.out, HG.out]
    · obtain rfl : k = 16 := by omega
      rw [digArr_full]
      go_wp2
      refine bodyPost_ret (v := .agg #[.int .i64 (dg z 0), .int .i64 (dg z 1), .int .i64 (dg z 2), .int .i64 (dg z 3), .int .i64 (dg z 4), .int .i64 (dg z 5), .int .i64 (dg z 6), .int .i64 (dg z 7), .int .i64 (dg z 8), .int .i64 (dg z 9), .int .i64 (dg z 10), .int .i64 (dg z 11), .int .i64 (dg z 12), .int .i64 (dg z 13), .int .i64 (dg z 14), .int .i64 (dg z 15)]) (by simp [results, Try.results102, go_sem]) rfl ⟨rfl, _, _, rfl⟩
end Go.Proofs.Ytefcdcneenjbgab
/-
  drawbridgeref's EntryOf: it answers what entry.Read answers; nothing that was there turns.
-/
namespace Go.Proofs.Ytefcdcneenjbgab
open Go.RowKit
attribute [local go_sem ↓] Go.wp_at_zero Go.wp_at_succ

/-- A part of a block reads as these numbers. -/
theorem sl_part {w : World} {b o n cap : Nat} {t : TypeId} {fr : Nat × Nat} {cs : Array Value} {zs : List Int} (hb : w.heap[b]? = some (.cells cs t fr)) (hcs : (cs.toList.drop o).take zs.length = zs.map (fun z => Value.int .i64 z)) (hn : n = zs.length) (hm : zs.length ≤ maxLen) :
    Sl w (.slice (some ⟨b, o, none⟩) n cap) zs := by
  subst hn
  refine ⟨_, cap, rfl, hm, .inr ⟨b, o, rfl, ?_, fun i hi => ?_⟩⟩
  · rcases Nat.lt_or_ge b w.heap.size with h | h
    · exact h
    · rw [Array.getElem?_eq_none h] at hb; exact absurd hb (by simp)
  · have h : ((cs.toList.drop o).take zs.length)[i]? = (zs.map (fun z => Value.int .i64 z))[i]? := by rw [hcs]
    rw [List.getElem?_take, if_pos hi, List.getElem?_drop, List.getElem?_map, List.getElem?_eq_getElem hi] at h
    rw [cell_of_row w b (o + i) cs t fr hb, ← Array.getElem?_toList, h]
    simp [nth, hi]

theorem dg_in (z : Int) (j : Nat) : 0 ≤ dg z j ∧ dg z j ≤ 1 := by unfold dg; omega
theorem dg_bit (z : Int) (j : Nat) : (dg z j == 1) = bitB z j := rfl
theorem num_hi (z : Int) (h0 : 0 ≤ z) (h1 : z ≤ 65535) : num [dg z 10, dg z 11, dg z 12, dg z 13, dg z 14, dg z 15] = z / 1024 := by
  simp only [num, dg]; omega
theorem num_mid (z : Int) : num [dg z 4, dg z 5, dg z 6, dg z 7, dg z 8, dg z 9] = z / 16 % 64 := by
  simp only [num, dg]; omega
theorem six_in {a b c d e f : Int} (ha : 0 ≤ a ∧ a ≤ 1) (hb : 0 ≤ b ∧ b ≤ 1) (hc : 0 ≤ c ∧ c ≤ 1) (hd : 0 ≤ d ∧ d ≤ 1) (he : 0 ≤ e ∧ e ≤ 1) (hf : 0 ≤ f ∧ f ≤ 1) :
    ∀ i, i < [a, b, c, d, e, f].length → 0 ≤ nth [a, b, c, d, e, f] i ∧ nth [a, b, c, d, e, f] i ≤ 1 := by
  intro i hi
  obtain rfl | rfl | rfl | rfl | rfl | rfl : i = 0 ∨ i = 1 ∨ i = 2 ∨ i = 3 ∨ i = 4 ∨ i = 5 := by simp at hi; omega
  · exact ha
  · exact hb
  · exact hc
  · exact hd
  · exact he
  · exact hf
/-- number of b[10:], and of b[4:10], where b lies in a block. -/
theorem number_hi {z : Int} {w : World} {n : Nat} (h0 : 0 ≤ z) (h1 : z ≤ 65535) (hb : w.heap[n]? = some (.cells #[.int .i64 (dg z 0), .int .i64 (dg z 1), .int .i64 (dg z 2), .int .i64 (dg z 3), .int .i64 (dg z 4), .int .i64 (dg z 5), .int .i64 (dg z 6), .int .i64 (dg z 7), .int .i64 (dg z 8), .int .i64 (dg z 9), .int .i64 (dg z 10), .int .i64 (dg z 11), .int .i64 (dg z 12), .int .i64 (dg z 13), .int .i64 (dg z 14), .int .i64 (dg z 15)] 134 (0, 0))) :
    Calls Try.prog 103 #[.slice (some ⟨n, 10, none⟩) 6 6] w fun e w' => e = .returned (.int .i64 (z / 1024)) ∧ w' = w := by
  rw [← num_hi z h0 h1]
  exact number_any _ _ _ (sl_part hb rfl rfl (by simp [maxLen])) (six_in (dg_in _ _) (dg_in _ _) (dg_in _ _) (dg_in _ _) (dg_in _ _) (dg_in _ _)) (by simp)
theorem number_mid {z : Int} {w : World} {n : Nat} (hb : w.heap[n]? = some (.cells #[.int .i64 (dg z 0), .int .i64 (dg z 1), .int .i64 (dg z 2), .int .i64 (dg z 3), .int .i64 (dg z 4), .int .i64 (dg z 5), .int .i64 (dg z 6), .int .i64 (dg z 7), .int .i64 (dg z 8), .int .i64 (dg z 9), .int .i64 (dg z 10), .int .i64 (dg z 11), .int .i64 (dg z 12), .int .i64 (dg z 13), .int .i64 (dg z 14), .int .i64 (dg z 15)] 134 (0, 0))) :
    Calls Try.prog 103 #[.slice (some ⟨n, 4, none⟩) 6 12] w fun e w' => e = .returned (.int .i64 (z / 16 % 64)) ∧ w' = w := by
  rw [← num_mid z]
  exact number_any _ _ _ (sl_part hb rfl rfl (by simp [maxLen])) (six_in (dg_in _ _) (dg_in _ _) (dg_in _ _) (dg_in _ _) (dg_in _ _) (dg_in _ _)) (by simp)

theorem okE_not {z : Int} (h : wordB z = false) : okE z = false ∧ vE z = false ∧ rE z = false ∧ xE z = false ∧ lE z = false ∧ pE z = 0 := by
  have ho : okE z = false := by simp [okE, h]
  have hv : vE z = false := by simp [vE, ho]
  exact ⟨ho, hv, by simp [rE, hv], by simp [xE, hv], by simp [lE, hv], by simp [pE, hv]⟩
theorem okE_nil {z : Int} (hw : wordB z = true) (h : dg z 0 = 0) : okE z = true ∧ vE z = false ∧ rE z = false ∧ xE z = false ∧ lE z = false ∧ pE z = 0 := by
  have hb : bitB z 0 = false := by rw [← dg_bit, h]; rfl
  have ho : okE z = true := by simp [okE, hw, hb]
  have hv : vE z = false := by simp [vE, hb]
  exact ⟨ho, hv, by simp [rE, hv], by simp [xE, hv], by simp [lE, hv], by simp [pE, hv]⟩
theorem okE_bad {z : Int} (hw : wordB z = true) (h : dg z 0 = 1) (k : 0 < z / 1024 ∨ dg z 1 < dg z 2 ∨ dg z 3 < dg z 1) : okE z = false ∧ vE z = false ∧ rE z = false ∧ xE z = false ∧ lE z = false ∧ pE z = 0 := by
  obtain ⟨h0, h1⟩ : 0 ≤ z ∧ z ≤ 65535 := by simpa [wordB] using hw
  have hb : bitB z 0 = true := by rw [← dg_bit, h]; rfl
  have ho : okE z = false := by
    rw [okE, hw, hb, hi_six z h0 h1]
    rcases k with k | k | k
    · rw [show decide (1024 ≤ z) = true by simp; omega]; rfl
    · have a := dg_in z 1
      have b := dg_in z 2
      have c1 : bitB z 1 = false := by rw [← dg_bit, show dg z 1 = 0 by omega]; rfl
      have c2 : bitB z 2 = true := by rw [← dg_bit, show dg z 2 = 1 by omega]; rfl
      rw [c1, c2]; simp [formE]
    · have a := dg_in z 1
      have b := dg_in z 3
      have c1 : bitB z 1 = true := by rw [← dg_bit, show dg z 1 = 1 by omega]; rfl
      have c2 : bitB z 3 = false := by rw [← dg_bit, show dg z 3 = 0 by omega]; rfl
      rw [c1, c2]; simp [formE]
  have hv : vE z = false := by simp [vE, ho]
  exact ⟨ho, hv, by simp [rE, hv], by simp [xE, hv], by simp [lE, hv], by simp [pE, hv]⟩
theorem okE_good {z : Int} (hw : wordB z = true) (h : dg z 0 = 1) (k1 : ¬ 0 < z / 1024) (k2 : ¬ dg z 1 < dg z 2) (k3 : ¬ dg z 3 < dg z 1) : okE z = true ∧ vE z = true ∧ rE z = (dg z 1 == 1) ∧ xE z = (dg z 2 == 1) ∧ lE z = (dg z 3 == 1) ∧ pE z = z / 16 % 64 := by
  obtain ⟨h0, h1⟩ : 0 ≤ z ∧ z ≤ 65535 := by simpa [wordB] using hw
  have hb : bitB z 0 = true := by rw [← dg_bit, h]; rfl
  have ho : okE z = true := by
    rw [okE, hw, hb, hi_six z h0 h1, show decide (1024 ≤ z) = false by simp; omega, ← dg_bit, ← dg_bit, ← dg_bit]
    obtain ⟨a1, a2⟩ := dg_in z 1
    obtain ⟨b1, b2⟩ := dg_in z 2
    obtain ⟨c1, c2⟩ := dg_in z 3
    have x1 : dg z 1 = 0 ∨ dg z 1 = 1 := by omega
    have x2 : dg z 2 = 0 ∨ dg z 2 = 1 := by omega
    have x3 : dg z 3 = 0 ∨ dg z 3 = 1 := by omega
    rcases x1 with x1 | x1 <;> rcases x2 with x2 | x2 <;> rcases x3 with x3 | x3 <;> rw [x1, x2] at k2 <;> rw [x1, x3] at k3 <;> rw [x1, x2, x3] <;> simp [formE] at * 
  have hv : vE z = true := by simp [vE, ho, hb]
  exact ⟨ho, hv, by simp [rE, hv, dg_bit], by simp [xE, hv, dg_bit], by simp [lE, hv, dg_bit], by simp [pE, hv]⟩

theorem keepD {w w' : World} {n : Nat} {z : Int} (h : w'.heap[n]? = some (.cells #[.int .i64 (dg z 0), .int .i64 (dg z 1), .int .i64 (dg z 2), .int .i64 (dg z 3), .int .i64 (dg z 4), .int .i64 (dg z 5), .int .i64 (dg z 6), .int .i64 (dg z 7), .int .i64 (dg z 8), .int .i64 (dg z 9), .int .i64 (dg z 10), .int .i64 (dg z 11), .int .i64 (dg z 12), .int .i64 (dg z 13), .int .i64 (dg z 14), .int .i64 (dg z 15)] 134 (0, 0))) (hb : Below w.heap.size w w') :
    w'.cell? ⟨n, 1, none⟩ = some (.int .i64 (dg z 1)) ∧ w'.cell? ⟨n, 2, none⟩ = some (.int .i64 (dg z 2)) ∧ w'.cell? ⟨n, 3, none⟩ = some (.int .i64 (dg z 3)) ∧ w'.heap[n]? = some (.cells #[.int .i64 (dg z 0), .int .i64 (dg z 1), .int .i64 (dg z 2), .int .i64 (dg z 3), .int .i64 (dg z 4), .int .i64 (dg z 5), .int .i64 (dg z 6), .int .i64 (dg z 7), .int .i64 (dg z 8), .int .i64 (dg z 9), .int .i64 (dg z 10), .int .i64 (dg z 11), .int .i64 (dg z 12), .int .i64 (dg z 13), .int .i64 (dg z 14), .int .i64 (dg z 15)] 134 (0, 0)) ∧ Below w.heap.size w w' :=
  ⟨cell_of_row _ _ _ _ _ _ h, cell_of_row _ _ _ _ _ _ h, cell_of_row _ _ _ _ _ _ h, h, hb⟩

set_option maxHeartbeats 4000000 in
theorem entryOf_any (z : Int) (w : World) :
    Calls Try.prog 104 #[.int .i64 z] w fun e w' => e = .returned (.tuple #[.agg #[.bool (vE z), .bool (rE z), .bool (xE z), .bool (lE z), .int .i64 (pE z)], .bool (okE z)]) ∧ Below w.heap.size w w' := by
  cases hw : wordB z
  · obtain ⟨e1, e2, e3, e4, e5, e6⟩ := okE_not hw
    rw [e1, e2, e3, e4, e5, e6]
    clear e1 e2 e3 e4 e5 e6
    go_enter Try.func104, Try.ntmps104
    go_wp2_with fail
    refine (in_any _ _ _ _).mono ?_
    rintro e w1 ⟨rfl, rfl⟩
    rw [between_word, hw]
    go_wp2
    refine bodyPost_ret (v := .tuple #[.agg #[.bool false, .bool false, .bool false, .bool false, .int .i64 0], .bool false]) (by simp [results, Try.results104, go_sem]) rfl ⟨rfl, ?_⟩
    exact bel_alloc (Below.refl _ _) _
  obtain ⟨h0, h1⟩ : 0 ≤ z ∧ z ≤ 65535 := by simpa [wordB] using hw
  by_cases hb : dg z 0 = 0
  · obtain ⟨e1, e2, e3, e4, e5, e6⟩ := okE_nil hw hb
    rw [e1, e2, e3, e4, e5, e6]
    clear e1 e2 e3 e4 e5 e6
    go_enter Try.func104, Try.ntmps104
    go_wp2_with fail
    refine (in_any _ _ _ _).mono ?_
    rintro e w1 ⟨rfl, rfl⟩
    rw [between_word, hw]
    go_wp2_with fail
    refine (digits_any _ _ h0 h1).mono ?_
    rintro e w2 ⟨rfl, o1, o2, rfl⟩
    rw [hb]
    go_wp2
    refine bodyPost_ret (v := .tuple #[.agg #[.bool false, .bool false, .bool false, .bool false, .int .i64 0], .bool true]) (by simp [results, Try.results104, go_sem]) rfl ⟨rfl, ?_⟩
    repeat (first | exact Below.refl _ _ | refine bel_alloc ?_ _)
  have hb1 : dg z 0 = 1 := by have := dg_in z 0; omega
  have hn0 : (dg z 0 == 0) = false := by simpa using hb
  by_cases hk : 0 < z / 1024 ∨ dg z 1 < dg z 2 ∨ dg z 3 < dg z 1
  · obtain ⟨e1, e2, e3, e4, e5, e6⟩ := okE_bad hw hb1 hk
    rw [e1, e2, e3, e4, e5, e6]
    clear e1 e2 e3 e4 e5 e6 hb1 hb
    go_enter Try.func104, Try.ntmps104
    go_wp2_with fail
    refine (in_any _ _ _ _).mono ?_
    rintro e w1 ⟨rfl, rfl⟩
    rw [between_word, hw]
    go_wp2_with fail
    refine (digits_any _ _ h0 h1).mono ?_
    rintro e w2 ⟨rfl, o1, o2, rfl⟩
    go_wp2_with fail
    refine (number_hi h0 h1 (heap_at (by simp))).mono ?_
    rintro e w2 ⟨rfl, rfl⟩
    by_cases k1 : 0 < z / 1024
    · clear hk
      go_wp2
      refine bodyPost_ret (v := .tuple #[.agg #[.bool false, .bool false, .bool false, .bool false, .int .i64 0], .bool false]) (by simp [results, Try.results104, go_sem]) rfl ⟨rfl, ?_⟩
      repeat (first | exact Below.refl _ _ | refine bel_alloc ?_ _)
    by_cases k2 : dg z 1 < dg z 2
    · clear hk
      go_wp2
      refine bodyPost_ret (v := .tuple #[.agg #[.bool false, .bool false, .bool false, .bool false, .int .i64 0], .bool false]) (by simp [results, Try.results104, go_sem]) rfl ⟨rfl, ?_⟩
      repeat (first | exact Below.refl _ _ | refine bel_alloc ?_ _)
    have k3 : dg z 3 < dg z 1 := by
      rcases hk with h | h | h
      · exact absurd h k1
      · exact absurd h k2
      · exact h
    clear hk
    go_wp2
    refine bodyPost_ret (v := .tuple #[.agg #[.bool false, .bool false, .bool false, .bool false, .int .i64 0], .bool false]) (by simp [results, Try.results104, go_sem]) rfl ⟨rfl, ?_⟩
    repeat (first | exact Below.refl _ _ | refine bel_alloc ?_ _)
  have k1 : ¬ 0 < z / 1024 := fun h => hk (.inl h)
  have k2 : ¬ dg z 1 < dg z 2 := fun h => hk (.inr (.inl h))
  have k3 : ¬ dg z 3 < dg z 1 := fun h => hk (.inr (.inr h))
  obtain ⟨e1, e2, e3, e4, e5, e6⟩ := okE_good hw hb1 k1 k2 k3
  rw [e1, e2, e3, e4, e5, e6]
  clear e1 e2 e3 e4 e5 e6 hb1 hb hk
  go_enter Try.func104, Try.ntmps104
  go_wp2_with fail
  refine (in_any _ _ _ _).mono ?_
  rintro e w1 ⟨rfl, rfl⟩
  rw [between_word, hw]
  go_wp2_with fail
  refine (digits_any _ _ h0 h1).mono ?_
  rintro e w2 ⟨rfl, o1, o2, rfl⟩
  go_wp2_with fail
  refine (number_hi h0 h1 (heap_at (by simp))).mono ?_
  rintro e w2 ⟨rfl, rfl⟩
  go_wp2
  go_region_held3 (fun w' => w'.cell? ⟨w.heap.size + 1 + 1 + 1, 1, none⟩ = some (.int .i64 (dg z 1)) ∧ w'.cell? ⟨w.heap.size + 1 + 1 + 1, 2, none⟩ = some (.int .i64 (dg z 2)) ∧ w'.cell? ⟨w.heap.size + 1 + 1 + 1, 3, none⟩ = some (.int .i64 (dg z 3)) ∧ w'.heap[w.heap.size + 1 + 1 + 1]? = some (.cells #[.int .i64 (dg z 0), .int .i64 (dg z 1), .int .i64 (dg z 2), .int .i64 (dg z 3), .int .i64 (dg z 4), .int .i64 (dg z 5), .int .i64 (dg z 6), .int .i64 (dg z 7), .int .i64 (dg z 8), .int .i64 (dg z 9), .int .i64 (dg z 10), .int .i64 (dg z 11), .int .i64 (dg z 12), .int .i64 (dg z 13), .int .i64 (dg z 14), .int .i64 (dg z 15)] 134 (0, 0)) ∧ Below w.heap.size w w')
    ((refine keepD ?_ ?_; (focus (first | assumption | exact heap_at (by simp) | exact heap_drawn (heap_at (by simp)))); (repeat (first | assumption | exact Below.refl _ _ | refine Below.drew ?_ | refine bel_drewN ?_ _ | refine bel_alloc ?_ _ | refine bel_trans ?_ (by assumption)))))
    (first | (go_at_call 103; refine (number_mid (by first | assumption | exact heap_at (by simp) | exact heap_drawn (heap_at (by simp)))).mono ?_; rintro e w5 ⟨rfl, rfl⟩))
  rename_i hH
  have hB := hH.2.2.2.2
  clear hH
  go_wp2
  refine bodyPost_ret (v := .tuple #[.agg #[.bool true, .bool (dg z 1 == 1), .bool (dg z 2 == 1), .bool (dg z 3 == 1), .int .i64 (z / 16 % 64)], .bool true]) (by simp [results, Try.results104, go_sem]) rfl ⟨rfl, ?_⟩
  repeat (first | assumption | exact Below.refl _ _ | refine Below.drew ?_ | refine bel_drewN ?_ _ | refine bel_alloc ?_ _)
end Go.Proofs.Ytefcdcneenjbgab
/-
  drawbridgeref's ContextOf: it answers what entry.ReadContext answers; nothing that was there turns.
-/
namespace Go.Proofs.Ytefcdcneenjbgab
open Go.RowKit

/-- A draw turns no cell. -/
theorem setCell_drewN (w : World) (n : Nat) (p : Addr) (u : Value) : (w.drewN n).setCell p u = (w.setCell p u).drewN n := rfl
attribute [local go_sem] setCell_drewN

theorem okC_not {z : Int} (h : wordB z = false) : okC z = false ∧ vC z = false ∧ aC z = false ∧ pC z = 0 := by
  have ho : okC z = false := by simp [okC, h]
  have hv : vC z = false := by simp [vC, ho]
  exact ⟨ho, hv, by simp [aC, hv], by simp [pC, hv]⟩
theorem okC_nil {z : Int} (hw : wordB z = true) (h : dg z 0 = 0) : okC z = true ∧ vC z = false ∧ aC z = false ∧ pC z = 0 := by
  have hb : bitB z 0 = false := by rw [← dg_bit, h]; rfl
  have ho : okC z = true := by simp [okC, hw, hb]
  have hv : vC z = false := by simp [vC, hb]
  exact ⟨ho, hv, by simp [aC, hv], by simp [pC, hv]⟩
theorem okC_bad {z : Int} (hw : wordB z = true) (h : dg z 0 = 1) (k : 0 < dg z 2 + dg z 3 + z / 1024 ∨ (dg z 1 = 1 ∧ 0 < z / 16 % 64)) : okC z = false ∧ vC z = false ∧ aC z = false ∧ pC z = 0 := by
  obtain ⟨h0, h1⟩ : 0 ≤ z ∧ z ≤ 65535 := by simpa [wordB] using hw
  have hb : bitB z 0 = true := by rw [← dg_bit, h]; rfl
  have ho : okC z = false := by
    rw [okC, hw, hb, hi_eight z h0 h1]
    rcases k with k | ⟨k, k'⟩
    · have a := dg_in z 2
      have b := dg_in z 3
      by_cases hz : 1024 ≤ z
      · rw [show decide (1024 ≤ z) = true by simpa using hz]; simp
      · by_cases h2 : dg z 2 = 1
        · rw [← dg_bit z 2, h2]; simp
        · rw [← dg_bit z 3, show dg z 3 = 1 by omega]; simp
    · rw [← dg_bit z 1, k]
      have : ¬ z / 16 % 64 = 0 := by omega
      simp [formC, this]
  have hv : vC z = false := by simp [vC, ho]
  exact ⟨ho, hv, by simp [aC, hv], by simp [pC, hv]⟩
theorem okC_good {z : Int} (hw : wordB z = true) (h : dg z 0 = 1) (k1 : ¬ 0 < dg z 2 + dg z 3 + z / 1024) (k2 : ¬ (dg z 1 = 1 ∧ 0 < z / 16 % 64)) : okC z = true ∧ vC z = true ∧ aC z = (dg z 1 == 1) ∧ pC z = z / 16 % 64 := by
  obtain ⟨h0, h1⟩ : 0 ≤ z ∧ z ≤ 65535 := by simpa [wordB] using hw
  have hb : bitB z 0 = true := by rw [← dg_bit, h]; rfl
  have a := dg_in z 2
  have b := dg_in z 3
  have ho : okC z = true := by
    rw [okC, hw, hb, hi_eight z h0 h1, show decide (1024 ≤ z) = false by simp; omega, ← dg_bit z 2, ← dg_bit z 3, ← dg_bit z 1, show dg z 2 = 0 by omega, show dg z 3 = 0 by omega]
    by_cases h3 : dg z 1 = 1
    · have h4 : z / 16 % 64 = 0 := by omega
      rw [h3, h4]; rfl
    · have h4 : (dg z 1 == 1) = false := by simpa using h3
      rw [h4]; rfl
  have hv : vC z = true := by simp [vC, ho, hb]
  exact ⟨ho, hv, by simp [aC, hv, dg_bit], by simp [pC, hv]⟩

theorem sum_wrap {a b c : Int} (a0 : 0 ≤ a) (a1 : a ≤ 1) (b0 : 0 ≤ b) (b1 : b ≤ 1) (c0 : 0 ≤ c) (c1 : c ≤ 63) : IntKind.i64.wrap (IntKind.i64.wrap (a + b) + c) = a + b + c := by
  rw [wraps_i64 (a + b) (by omega) (by omega), wraps_i64 _ (by omega) (by omega)]

set_option maxHeartbeats 4000000 in
theorem contextOf_any (z : Int) (w : World) :
    Calls Try.prog 70 #[.int .i64 z] w fun e w' => e = .returned (.tuple #[.agg #[.bool (vC z), .bool (aC z), .int .i64 (pC z)], .bool (okC z)]) ∧ Below w.heap.size w w' := by
  cases hw : wordB z
  · obtain ⟨e1, e2, e3, e4⟩ := okC_not hw
    rw [e1, e2, e3, e4]
    clear e1 e2 e3 e4
    go_enter Try.func70, Try.ntmps70
    go_wp2_with fail
    refine (in_any _ _ _ _).mono ?_
    rintro e w1 ⟨rfl, rfl⟩
    rw [between_word, hw]
    go_wp2
    refine bodyPost_ret (v := .tuple #[.agg #[.bool false, .bool false, .int .i64 0], .bool false]) (by simp [results, Try.results70, go_sem]) rfl ⟨rfl, ?_⟩
    exact bel_alloc (Below.refl _ _) _
  obtain ⟨h0, h1⟩ : 0 ≤ z ∧ z ≤ 65535 := by simpa [wordB] using hw
  by_cases hb : dg z 0 = 0
  · obtain ⟨e1, e2, e3, e4⟩ := okC_nil hw hb
    rw [e1, e2, e3, e4]
    clear e1 e2 e3 e4
    go_enter Try.func70, Try.ntmps70
    go_wp2_with fail
    refine (in_any _ _ _ _).mono ?_
    rintro e w1 ⟨rfl, rfl⟩
    rw [between_word, hw]
    go_wp2_with fail
    refine (digits_any _ _ h0 h1).mono ?_
    rintro e w2 ⟨rfl, o1, o2, rfl⟩
    rw [hb]
    go_wp2
    refine bodyPost_ret (v := .tuple #[.agg #[.bool false, .bool false, .int .i64 0], .bool true]) (by simp [results, Try.results70, go_sem]) rfl ⟨rfl, ?_⟩
    repeat (first | exact Below.refl _ _ | refine bel_alloc ?_ _)
  have hb1 : dg z 0 = 1 := by have := dg_in z 0; omega
  have hn0 : (dg z 0 == 0) = false := by simpa using hb
  obtain ⟨a2, a2'⟩ := dg_in z 2
  obtain ⟨a3, a3'⟩ := dg_in z 3
  have ht : z / 1024 ≤ 63 := by omega
  have ht' : 0 ≤ z / 1024 := by omega
  by_cases hk : 0 < dg z 2 + dg z 3 + z / 1024 ∨ (dg z 1 = 1 ∧ 0 < z / 16 % 64)
  · obtain ⟨e1, e2, e3, e4⟩ := okC_bad hw hb1 hk
    rw [e1, e2, e3, e4]
    clear e1 e2 e3 e4 hb1 hb
    go_enter Try.func70, Try.ntmps70
    go_wp2_with fail
    refine (in_any _ _ _ _).mono ?_
    rintro e w1 ⟨rfl, rfl⟩
    rw [between_word, hw]
    go_wp2_with fail
    refine (digits_any _ _ h0 h1).mono ?_
    rintro e w2 ⟨rfl, o1, o2, rfl⟩
    go_wp2_with fail
    refine (number_mid (heap_at (by simp))).mono ?_
    rintro e w2 ⟨rfl, rfl⟩
    by_cases k1 : 0 < dg z 2 + dg z 3 + z / 1024
    · have d1 : decide (0 < IntKind.i64.wrap (IntKind.i64.wrap (dg z 2 + dg z 3) + z / 1024)) = true := by rw [sum_wrap a2 a2' a3 a3' ht' ht]; simpa using k1
      clear hk
      go_wp2
      go_quiet (first | (go_at_call 103; refine Calls.quiet_of_same (number_hi h0 h1 (by first | assumption | exact heap_at (by simp) | exact heap_drawn (heap_at (by simp))))))
      go_wp2
      refine bodyPost_ret (v := .tuple #[.agg #[.bool false, .bool false, .int .i64 0], .bool false]) (by simp [results, Try.results70, go_sem]) rfl ⟨rfl, ?_⟩
      repeat (first | assumption | exact Below.refl _ _ | refine Below.drew ?_ | refine bel_drewN ?_ _ | refine bel_alloc ?_ _)
    · obtain ⟨k2, k3⟩ : dg z 1 = 1 ∧ 0 < z / 16 % 64 := by
        rcases hk with h | h
        · exact absurd h k1
        · exact h
      have d1 : decide (0 < IntKind.i64.wrap (IntKind.i64.wrap (dg z 2 + dg z 3) + z / 1024)) = false := by rw [sum_wrap a2 a2' a3 a3' ht' ht]; simpa using k1
      have d2 : (dg z 1 == 1) = true := by simpa using k2
      have d3 : decide (0 < z / 16 % 64) = true := by simpa using k3
      clear hk k2
      go_wp2
      go_quiet (first | (go_at_call 103; refine Calls.quiet_of_same (number_hi h0 h1 (by first | assumption | exact heap_at (by simp) | exact heap_drawn (heap_at (by simp))))))
      go_wp2
      refine bodyPost_ret (v := .tuple #[.agg #[.bool false, .bool false, .int .i64 0], .bool false]) (by simp [results, Try.results70, go_sem]) rfl ⟨rfl, ?_⟩
      repeat (first | assumption | exact Below.refl _ _ | refine Below.drew ?_ | refine bel_drewN ?_ _ | refine bel_alloc ?_ _)
  · have k1 : ¬ 0 < dg z 2 + dg z 3 + z / 1024 := fun h => hk (.inl h)
    have k2 : ¬ (dg z 1 = 1 ∧ 0 < z / 16 % 64) := fun h => hk (.inr h)
    obtain ⟨e1, e2, e3, e4⟩ := okC_good hw hb1 k1 k2
    rw [e1, e2, e3, e4]
    clear e1 e2 e3 e4 hb1 hb hk
    have d1 : decide (0 < IntKind.i64.wrap (IntKind.i64.wrap (dg z 2 + dg z 3) + z / 1024)) = false := by rw [sum_wrap a2 a2' a3 a3' ht' ht]; simpa using k1
    clear k1
    go_enter Try.func70, Try.ntmps70
    go_wp2_with fail
    refine (in_any _ _ _ _).mono ?_
    rintro e w1 ⟨rfl, rfl⟩
    rw [between_word, hw]
    go_wp2_with fail
    refine (digits_any _ _ h0 h1).mono ?_
    rintro e w2 ⟨rfl, o1, o2, rfl⟩
    go_wp2_with fail
    refine (number_mid (heap_at (by simp))).mono ?_
    rintro e w2 ⟨rfl, rfl⟩
    by_cases h3 : dg z 1 = 1
    · have h4 : ¬ 0 < z / 16 % 64 := fun h => k2 ⟨h3, h⟩
      have d2 : (dg z 1 == 1) = true := by simpa using h3
      have d3 : decide (0 < z / 16 % 64) = false := by simpa using h4
      clear h3 h4 k2
      go_wp2
      go_quiet (first | (go_at_call 103; refine Calls.quiet_of_same (number_hi h0 h1 (by first | assumption | exact heap_at (by simp) | exact heap_drawn (heap_at (by simp))))))
      go_wp2
      refine bodyPost_ret (v := .tuple #[.agg #[.bool true, .bool (dg z 1 == 1), .int .i64 (z / 16 % 64)], .bool true]) (by simp [results, Try.results70, go_sem, d2]) rfl ⟨by rw [d2], ?_⟩
      repeat (first | assumption | exact Below.refl _ _ | refine Below.drew ?_ | refine bel_drewN ?_ _ | refine bel_alloc ?_ _)
    · have d2 : (dg z 1 == 1) = false := by simpa using h3
      clear h3 k2
      go_wp2
      go_quiet (first | (go_at_call 103; refine Calls.quiet_of_same (number_hi h0 h1 (by first | assumption | exact heap_at (by simp) | exact heap_drawn (heap_at (by simp))))))
      go_wp2
      refine bodyPost_ret (v := .tuple #[.agg #[.bool true, .bool (dg z 1 == 1), .int .i64 (z / 16 % 64)], .bool true]) (by simp [results, Try.results70, go_sem, d2]) rfl ⟨by rw [d2], ?_⟩
      repeat (first | assumption | exact Below.refl _ _ | refine Below.drew ?_ | refine bel_drewN ?_ _ | refine bel_alloc ?_ _)
end Go.Proofs.Ytefcdcneenjbgab
