/-
  Laid together: PlainB, Crossed, Carried, CloneI, HeldMath, DoHeld.
-/
import Derived.Test.YtefcdcneenjbgabT11
/-
  Package bridge: Plain; and the forms of Through and Plain where what they answer is known.
-/
namespace Go.Proofs.Ytefcdcneenjbgab
open Go.RowKit

theorem through_at {v : Value} {zs : List Int} {mo ba op oh ot fe fp fh ft : Int} {st lo : Bool} {vc : Value} {l : List Ln} {d p : Int} {wr : Bool} {w : World} {mo1 ba1 op1 oh1 ot1 fe1 fp1 fh1 ft1 : Int} {st1 lo1 : Bool} {l1 : List Ln} {k f e0 : Int} (hs : Sl w v zs) (h : Ls w vc l) (hE : thE zs ⟨mo, ba, l, op, oh, ot, st, fe, fp, fh, ft, lo⟩ d p = e0) (hR : thR zs ⟨mo, ba, l, op, oh, ot, st, fe, fp, fh, ft, lo⟩ d p wr = (⟨mo1, ba1, l1, op1, oh1, ot1, st1, fe1, fp1, fh1, ft1, lo1⟩, k, f)) :
    Calls Try.prog 24 #[.agg #[v], .agg #[.int .i64 mo, .int .i64 ba, vc, .int .i64 op, .int .i64 oh, .int .i64 ot, .bool st, .int .i64 fe, .int .i64 fp, .int .i64 fh, .int .i64 ft, .bool lo], .int .i64 d, .int .i64 p, .bool wr] w fun e w' =>
      ∃ va1 vk1, e = .returned (.tuple #[.agg #[.int .i64 mo1, .int .i64 ba1, .slice va1 l1.length vk1, .int .i64 op1, .int .i64 oh1, .int .i64 ot1, .bool st1, .int .i64 fe1, .int .i64 fp1, .int .i64 fh1, .int .i64 ft1, .bool lo1], .int .i64 k, .int .i64 f, .int .i64 e0]) ∧ Ls w' (.slice va1 l1.length vk1) l1 ∧ Below w.heap.size w w' := by
  refine (through_any v zs mo ba op oh ot fe fp fh ft st lo vc l d p wr w hs h).mono ?_
  rintro e w' ⟨mo2, ba2, op2, oh2, ot2, fe2, fp2, fh2, ft2, st2, lo2, va2, vk2, l2, k2, f2, rfl, hR2, hl, hb⟩
  rw [hR] at hR2
  simp only [Prod.mk.injEq, Br.mk.injEq] at hR2
  obtain ⟨⟨rfl, rfl, rfl, rfl, rfl, rfl, rfl, rfl, rfl, rfl, rfl, rfl⟩, rfl, rfl⟩ := hR2
  rw [hE]
  exact ⟨va2, vk2, rfl, hl, hb⟩

set_option maxHeartbeats 4000000 in
theorem plain_at {v : Value} {zs : List Int} {mo ba op oh ot fe fp fh ft : Int} {st lo : Bool} {vc : Value} {l : List Ln} {d p : Int} {wr : Bool} {w : World} {c : Br} {k f e0 : Int} (hs : Sl w v zs) (h : Ls w vc l) (hE : thE zs ⟨mo, ba, [], op, oh, ot, st, fe, fp, fh, ft, lo⟩ d p = e0) (hR : thR zs ⟨mo, ba, [], op, oh, ot, st, fe, fp, fh, ft, lo⟩ d p wr = (c, k, f)) :
    Calls Try.prog 25 #[.agg #[v], .agg #[.int .i64 mo, .int .i64 ba, vc, .int .i64 op, .int .i64 oh, .int .i64 ot, .bool st, .int .i64 fe, .int .i64 fp, .int .i64 fh, .int .i64 ft, .bool lo], .int .i64 d, .int .i64 p, .bool wr] w fun e w' =>
      e = .returned (.tuple #[.int .i64 k, .int .i64 f, .int .i64 e0]) ∧ Below w.heap.size w w' := by
  obtain ⟨va, vk, rfl, -⟩ := h.shape
  have HM : Hid (Sl w v zs) := hs
  obtain ⟨ma, mc, rfl⟩ := hs.shape
  obtain ⟨mo1, ba1, l1, op1, oh1, ot1, st1, fe1, fp1, fh1, ft1, lo1⟩ := c
  have HE : Hid (_ = _) := hE
  have HR : Hid (_ = _) := hR
  clear h hs hE hR
  go_enter Try.func25, Try.ntmps25
  go_wp2_with fail
  have B1 : Hid (Below w.heap.size w _) := bel_alloc (bel_alloc (Below.refl w.heap.size w) (.cells #[.slice ma zs.length mc] 39)) (.cells #[.int .i64 mo, .int .i64 ba, .slice none 0 0, .int .i64 op, .int .i64 oh, .int .i64 ot, .bool st, .int .i64 fe, .int .i64 fp, .int .i64 fh, .int .i64 ft, .bool lo] 44)
  refine (through_at (HM.out.keep B1.out) (Ls.nothing _) HE.out HR.out).mono ?_
  rintro e w2 ⟨va1, vk1, rfl, hl, hb⟩
  have B2 : Hid (Below w.heap.size w w2) := bel_trans B1.out hb
  clear hb hl
  go_wp2
  refine bodyPost_ret (v := .tuple #[.int .i64 k, .int .i64 f, .int .i64 e0]) (by simp [results, Try.results25, go_sem, *]) rfl ⟨rfl, ?_⟩
  (repeat (first | with_reducible exact B2.out | with_reducible refine bel_alloc ?_ _ | (with_reducible refine bel_set12 ?_ ?_ _ _ _ _ _ _ _ _ _ _ _ _; (focus omega))))
end Go.Proofs.Ytefcdcneenjbgab
/-
  The closed fact 'crossed' of the statements answers true; nothing that was there turns.
-/
namespace Go.Proofs.Ytefcdcneenjbgab
open Go.RowKit
def tab : List Int := wth [9, 33, 10, 3, 16, 49, 24, 159, 25, 139] 5
def tab2 : List Int := tab.set 24 0
theorem cr1 : thE tab ⟨2, 1, [], 40, 0, 0, false, 0, 41, 0, 0, false⟩ 1 0 = 0 := by kernel_rfl
theorem cr2 : thR tab ⟨2, 1, [], 40, 0, 0, false, 0, 41, 0, 0, false⟩ 1 0 true = (⟨2, 1, [(1, 0, 9, true, true)], 40, 0, 0, false, 0, 41, 0, 0, false⟩, 9, 0) := by kernel_rfl
theorem cr3 : thE tab2 ⟨2, 1, [(1, 0, 9, true, true)], 40, 0, 0, false, 0, 41, 0, 0, false⟩ 1 0 = 0 := by kernel_rfl
theorem cr4 : thR tab2 ⟨2, 1, [(1, 0, 9, true, true)], 40, 0, 0, false, 0, 41, 0, 0, false⟩ 1 0 true = (⟨2, 1, [(1, 0, 9, true, true)], 40, 0, 0, false, 0, 41, 0, 0, false⟩, 9, 0) := by kernel_rfl
theorem cr5 : thE tab2 ⟨2, 1, [], 40, 0, 0, false, 0, 41, 0, 0, false⟩ 1 0 = 0 := by kernel_rfl
theorem cr6 : thR tab2 ⟨2, 1, [], 40, 0, 0, false, 0, 41, 0, 0, false⟩ 1 0 true = (⟨2, 1, [], 40, 0, 0, false, 0, 41, 0, 0, false⟩, 0, 3) := by kernel_rfl
theorem cr7 : thR tab2 ⟨2, 1, [], 40, 0, 0, false, 0, 41, 0, 0, false⟩ 2 7 true = (⟨2, 1, [], 40, 0, 0, false, 0, 41, 0, 0, false⟩, 7, 0) := by kernel_rfl
theorem cr8 : thR tab2 ⟨2, 1, [], 40, 0, 0, false, 0, 41, 0, 0, false⟩ 3 7 true = (⟨2, 1, [], 40, 0, 0, false, 0, 41, 0, 0, false⟩, 0, 2) := by kernel_rfl
theorem cr9 : thE tab2 ⟨2, 1, [], 40, 0, 0, false, 0, 41, 0, 0, false⟩ 2 7 = 0 := by kernel_rfl
theorem cr10 : thE tab2 ⟨2, 1, [], 40, 0, 0, false, 0, 41, 0, 0, false⟩ 3 7 = 0 := by kernel_rfl

theorem tab_len : tab.length = 512 := wth_len _ _
theorem tab2_len : tab2.length = 512 := by rw [tab2, List.length_set, tab_len]

set_option maxHeartbeats 4000000 in
theorem tables_own (w : World) : Calls Try.prog 66 #[] w fun e w' =>
    ∃ g, e = .returned (.tuple #[.agg #[.slice (some ⟨g, 0, none⟩) 512 512], .agg #[.int .i64 2, .int .i64 1, .slice none 0 0, .int .i64 40, .int .i64 0, .int .i64 0, .bool false, .int .i64 0, .int .i64 41, .int .i64 0, .int .i64 0, .bool false]]) ∧ w'.heap[g]? = some (.cells (intCells tab) 3 (0, 0)) ∧ w.heap.size ≤ g ∧ Below w.heap.size w w' := by
  go_enter Try.func66, Try.ntmps66
  go_wp2_with fail
  refine (with_own _ 0 10 [9, 33, 10, 3, 16, 49, 24, 159, 25, 139] 5 _ ?_ rfl (by decide) (by decide)).mono ?_
  · exact sl_block (heap_at (by simp)) rfl rfl (by simp [maxLen])
  rintro e w1 ⟨g, rfl, hS, b1, hg, cs, hgc, hcs⟩
  have X0 := (((Box.newAt (n := w.heap.size) rfl 39 #[.slice none 0 0]).past _).past _).keep b1
  have X1 := ((Box.newAt (n := w.heap.size + 1) (by simp) 44 #[.int .i64 0, .int .i64 0, .slice none 0 0, .int .i64 0, .int .i64 0, .int .i64 0, .bool false, .int .i64 0, .int .i64 0, .int .i64 0, .int .i64 0, .bool false]).past _).keep b1
  have B1 : Hid (Below w.heap.size w w1) := bel_trans (bel_alloc (bel_alloc (bel_alloc (Below.refl _ _) _) _) _) b1
  have hg' : w.heap.size + 1 + 1 + 1 ≤ g := by simpa using hg
  have hcc : cs = intCells tab := by
    apply Array.ext'
    rw [hcs, intCells_list]; rfl
  have HG : Hid (w1.heap[g]? = some (.cells (intCells tab) 3 (0, 0))) := by show _ = _; rw [hgc, hcc]
  clear b1 hS hg hgc hcs hcc
  obtain ⟨r0, r1, s0⟩ := X0.one
  obtain ⟨⟨u0, u1, u2, u3, u4, u5, u6, u7, u8, u9, u10, u11⟩, s1⟩ := X1.twelve
  obtain ⟨y0, y1, y2, y3, y4, y5, y6, y7, y8, y9, y10, y11⟩ := X1.marks
  go_wp2
  refine bodyPost_ret (v := .tuple #[.agg #[.slice (some ⟨g, 0, none⟩) 512 512], .agg #[.int .i64 2, .int .i64 1, .slice none 0 0, .int .i64 40, .int .i64 0, .int .i64 0, .bool false, .int .i64 0, .int .i64 41, .int .i64 0, .int .i64 0, .bool false]]) (by simp [results, Try.results66, go_sem, *]) rfl ⟨g, rfl, ?_, by omega, ?_⟩
  · exact (Box.other (p := ⟨w.heap.size, 0, none⟩) HG.out (by dsimp only; omega) _).other12 (by omega) _ _ _ _ _ _ _ _ _ _ _ _
  · exact bel_set12 (by omega) (bel_set (p := ⟨w.heap.size, 0, none⟩) (Nat.le_refl _) B1.out _) _ _ _ _ _ _ _ _ _ _ _ _

theorem sl_tab {w : World} {g : Nat} {zs : List Int} (h : w.heap[g]? = some (.cells (intCells zs) 3 (0, 0))) (hl : zs.length = 512) : Sl w (.slice (some ⟨g, 0, none⟩) 512 512) zs :=
  sl_block h (intCells_list _) hl.symm (by rw [hl]; simp [maxLen])

set_option maxHeartbeats 4000000 in
theorem crossed_true (w : World) : Calls Try.prog 28 #[] w fun e w' => e = .returned (.bool true) ∧ Below w.heap.size w w' := by
  go_enter Try.func28, Try.ntmps28
  go_wp2_with fail
  refine (tables_own _).mono ?_
  rintro e w1 ⟨g, rfl, hg1, hg, b1⟩
  have hgl : g < w1.heap.size := Box.lt hg1
  have z1 : w.heap.size ≤ w1.heap.size := b1.size
  have HG : Hid _ := hg1
  have B1 : Hid (Below w.heap.size w w1) := b1
  clear hg1 b1
  have G2 := heap_past (o := .cells #[.int .i64 2, .int .i64 1, .slice none 0 0, .int .i64 40, .int .i64 0, .int .i64 0, .bool false, .int .i64 0, .int .i64 41, .int .i64 0, .int .i64 0, .bool false] 44) (by simp; omega) (heap_past (o := .cells #[.slice (some ⟨g, 0, none⟩) 512 512] 39) hgl HG.out)
  go_wp2_with fail
  refine (through_at (sl_tab G2 tab_len) (Ls.nothing _) cr1 cr2).mono ?_
  rintro e w2 ⟨va, vk, rfl, hL2, b2⟩
  have X1 := ((Box.newAt (w := w1) rfl 39 #[.slice (some ⟨g, 0, none⟩) 512 512]).past (.cells #[.int .i64 2, .int .i64 1, .slice none 0 0, .int .i64 40, .int .i64 0, .int .i64 0, .bool false, .int .i64 0, .int .i64 41, .int .i64 0, .int .i64 0, .bool false] 44)).keep b2
  have X2 := (Box.newAt (w := w1.alloc (.cells #[.slice (some ⟨g, 0, none⟩) 512 512] 39)) (n := w1.heap.size + 1) (by simp) 44 #[.int .i64 2, .int .i64 1, .slice none 0 0, .int .i64 40, .int .i64 0, .int .i64 0, .bool false, .int .i64 0, .int .i64 41, .int .i64 0, .int .i64 0, .bool false]).keep b2
  have G2 := heap_kept b2 (by simp; omega) G2
  have B2 : Hid (Below w.heap.size w w2) := bel_trans (bel_alloc (bel_alloc B1.out _) _) b2
  clear b2 B1 HG
  have zA : w.heap.size ≤ w1.heap.size := z1
  have zg : g < w2.heap.size := Box.lt G2
  have nA : ¬ g = w1.heap.size := by omega
  have nA1 : ¬ g = w1.heap.size + 1 := by omega
  generalize w1.heap.size = A at *
  clear z1 hgl
  have hL2 : Ls w2 (.slice va 1 vk) [(1, 0, 9, true, true)] := hL2
  have HS2 : Hid (Sl w2 (.slice (some ⟨g, 0, none⟩) 512 512) tab) := sl_tab G2 tab_len
  have HL3 : Hid (Ls ((w2.setCell ⟨g, 24, none⟩ (.int .i64 0)).alloc (.cells #[.int .i64 2, .int .i64 1, .slice va 1 vk, .int .i64 40, .int .i64 0, .int .i64 0, .bool false, .int .i64 0, .int .i64 41, .int .i64 0, .int .i64 0, .bool false] 44)) (.slice va 1 vk) [(1, 0, 9, true, true)]) := by
    have := hL2.setSl HS2.out (k := 24) (by rw [tab_len]; decide) (.int .i64 0)
    rw [Nat.zero_add] at this
    exact this.alloc _
  have g24 : w2.cell? ⟨g, 24, none⟩ = some (.int .i64 (nth tab 24)) := by rw [cell_of_row w2 g _ _ _ _ G2, intCells_at (by rw [tab_len]; decide)]
  have f24 : w2.frozen? ⟨g, 24, none⟩ = false := frozen_of_row w2 g _ _ _ G2
  have G3 : ((w2.setCell ⟨g, 24, none⟩ (.int .i64 0)).alloc (.cells #[.int .i64 2, .int .i64 1, .slice va 1 vk, .int .i64 40, .int .i64 0, .int .i64 0, .bool false, .int .i64 0, .int .i64 41, .int .i64 0, .int .i64 0, .bool false] 44)).heap[g]? = some (.cells (intCells tab2) 3 (0, 0)) := by
    refine heap_past (by simpa [World.setCell] using zg) ?_
    rw [heap_setCell_same _ _ _ _ _ _ G2, intCells_set]; rfl
  have X1' := (X1.other (p := ⟨g, 24, none⟩) (by dsimp only; omega) (.int .i64 0)).past (.cells #[.int .i64 2, .int .i64 1, .slice va 1 vk, .int .i64 40, .int .i64 0, .int .i64 0, .bool false, .int .i64 0, .int .i64 41, .int .i64 0, .int .i64 0, .bool false] 44)
  have X2' := (X2.other (p := ⟨g, 24, none⟩) (by dsimp only; omega) (.int .i64 0)).past (.cells #[.int .i64 2, .int .i64 1, .slice va 1 vk, .int .i64 40, .int .i64 0, .int .i64 0, .bool false, .int .i64 0, .int .i64 41, .int .i64 0, .int .i64 0, .bool false] 44)
  have X3' : Box ((w2.setCell ⟨g, 24, none⟩ (.int .i64 0)).alloc (.cells #[.int .i64 2, .int .i64 1, .slice va 1 vk, .int .i64 40, .int .i64 0, .int .i64 0, .bool false, .int .i64 0, .int .i64 41, .int .i64 0, .int .i64 0, .bool false] 44)) w2.heap.size 44 #[.int .i64 2, .int .i64 1, .slice va 1 vk, .int .i64 40, .int .i64 0, .int .i64 0, .bool false, .int .i64 0, .int .i64 41, .int .i64 0, .int .i64 0, .bool false] := Box.newAt (by simp) _ _
  have B3 : Hid (Below w.heap.size w ((w2.setCell ⟨g, 24, none⟩ (.int .i64 0)).alloc (.cells #[.int .i64 2, .int .i64 1, .slice va 1 vk, .int .i64 40, .int .i64 0, .int .i64 0, .bool false, .int .i64 0, .int .i64 41, .int .i64 0, .int .i64 0, .bool false] 44))) := bel_alloc (bel_set hg B2.out _) _
  obtain ⟨m0, -, s1⟩ := X1.one
  have HG3 : Hid _ := G3
  clear G2 G3 hL2 B2
  go_wp2_with fail
  clear g24 f24 m0 s1 X1 X2 zg
  generalize ((w2.setCell ⟨g, 24, none⟩ (.int .i64 0)).alloc (.cells #[.int .i64 2, .int .i64 1, .slice va 1 vk, .int .i64 40, .int .i64 0, .int .i64 0, .bool false, .int .i64 0, .int .i64 41, .int .i64 0, .int .i64 0, .bool false] 44)) = W3 at *
  generalize w2.heap.size = N at *
  refine (through_at (sl_tab HG3.out tab2_len) HL3.out cr3 cr4).mono ?_
  rintro e w4 ⟨va4, vk4, rfl, -, b4⟩
  have X1 := (X1'.keep b4).past (.cells #[.int .i64 2, .int .i64 1, .slice va4 1 vk4, .int .i64 40, .int .i64 0, .int .i64 0, .bool false, .int .i64 0, .int .i64 41, .int .i64 0, .int .i64 0, .bool false] 44)
  have X2 := (X2'.keep b4).past (.cells #[.int .i64 2, .int .i64 1, .slice va4 1 vk4, .int .i64 40, .int .i64 0, .int .i64 0, .bool false, .int .i64 0, .int .i64 41, .int .i64 0, .int .i64 0, .bool false] 44)
  have X3 := (X3'.keep b4).past (.cells #[.int .i64 2, .int .i64 1, .slice va4 1 vk4, .int .i64 40, .int .i64 0, .int .i64 0, .bool false, .int .i64 0, .int .i64 41, .int .i64 0, .int .i64 0, .bool false] 44)
  have HL4 : Hid (Ls _ (.slice va 1 vk) [(1, 0, 9, true, true)]) := (HL3.out.keep b4).alloc (.cells #[.int .i64 2, .int .i64 1, .slice va4 1 vk4, .int .i64 40, .int .i64 0, .int .i64 0, .bool false, .int .i64 0, .int .i64 41, .int .i64 0, .int .i64 0, .bool false] 44)
  have HG4 : Hid _ := heap_past (o := .cells #[.int .i64 2, .int .i64 1, .slice va4 1 vk4, .int .i64 40, .int .i64 0, .int .i64 0, .bool false, .int .i64 0, .int .i64 41, .int .i64 0, .int .i64 0, .bool false] 44) (Box.lt (heap_kept b4 (Box.lt HG3.out) HG3.out)) (heap_kept b4 (Box.lt HG3.out) HG3.out)
  have B4 : Hid (Below w.heap.size w (w4.alloc (.cells #[.int .i64 2, .int .i64 1, .slice va4 1 vk4, .int .i64 40, .int .i64 0, .int .i64 0, .bool false, .int .i64 0, .int .i64 41, .int .i64 0, .int .i64 0, .bool false] 44))) := bel_alloc (bel_trans B3.out b4) _
  have Y1 := X1'.keep b4
  have Y3 := X3'.keep b4
  clear b4 X1' X2' X3' HL3 HG3 B3
  obtain ⟨m0, -, s1⟩ := Y1.one
  obtain ⟨⟨n0, n1, n2, n3, n4, n5, n6, n7, n8, n9, n10, n11⟩, s3⟩ := Y3.twelve
  go_wp2_with fail
  clear m0 s1 n0 n1 n2 n3 n4 n5 n6 n7 n8 n9 n10 n11 s3 Y1 Y3
  generalize (w4.alloc (.cells #[.int .i64 2, .int .i64 1, .slice va4 1 vk4, .int .i64 40, .int .i64 0, .int .i64 0, .bool false, .int .i64 0, .int .i64 41, .int .i64 0, .int .i64 0, .bool false] 44)) = W5 at *
  refine (plain_at (sl_tab HG4.out tab2_len) HL4.out cr5 cr6).mono ?_
  rintro e w6 ⟨rfl, b6⟩
  have X1 := X1.keep b6
  have X2 := X2.keep b6
  have X3 := X3.keep b6
  have HG6 : Hid _ := heap_kept b6 (Box.lt HG4.out) HG4.out
  have B6 : Hid (Below w.heap.size w w6) := bel_trans B4.out b6
  clear b6 HL4 HG4 B4
  obtain ⟨m0, -, s1⟩ := X1.one
  obtain ⟨⟨n0, n1, n2, n3, n4, n5, n6, n7, n8, n9, n10, n11⟩, s3⟩ := X2.twelve
  go_wp2_with fail
  clear m0 s1 n0 n1 n2 n3 n4 n5 n6 n7 n8 n9 n10 n11 s3
  refine (through_at (sl_tab HG6.out tab2_len) (Ls.nothing _) cr9 cr7).mono ?_
  rintro e w7 ⟨va7, vk7, rfl, -, b7⟩
  have X1 := X1.keep b7
  have X2 := X2.keep b7
  have X3 := X3.keep b7
  have HG7 : Hid _ := heap_past (o := .cells #[.int .i64 2, .int .i64 1, .slice va7 0 vk7, .int .i64 40, .int .i64 0, .int .i64 0, .bool false, .int .i64 0, .int .i64 41, .int .i64 0, .int .i64 0, .bool false] 44) (Box.lt (heap_kept b7 (Box.lt HG6.out) HG6.out)) (heap_kept b7 (Box.lt HG6.out) HG6.out)
  have B7 : Hid (Below w.heap.size w w7) := bel_trans B6.out b7
  clear b7 HG6 B6
  obtain ⟨m0, -, s1⟩ := X1.one
  obtain ⟨⟨n0, n1, n2, n3, n4, n5, n6, n7, n8, n9, n10, n11⟩, s3⟩ := X2.twelve
  go_wp2_with fail
  clear m0 s1 n0 n1 n2 n3 n4 n5 n6 n7 n8 n9 n10 n11 s3
  refine (through_at (sl_tab HG7.out tab2_len) (Ls.nothing _) cr10 cr8).mono ?_
  rintro e w8 ⟨va8, vk8, rfl, -, b8⟩
  have X3 := (X3.past _).keep b8
  have B8 : Hid (Below w.heap.size w w8) := bel_trans (bel_alloc B7.out _) b8
  clear b8 HG7 B7
  obtain ⟨⟨n0, n1, n2, n3, n4, n5, n6, n7, n8, n9, n10, n11⟩, s3⟩ := X3.twelve
  go_wp2
  go_ret
  exact ⟨rfl, bel_alloc B8.out _⟩
end Go.Proofs.Ytefcdcneenjbgab
/-
  The closed fact 'carried' of the statements answers true; nothing that was there turns.
-/
namespace Go.Proofs.Ytefcdcneenjbgab
open Go.RowKit

def caM : List Int := ((tab.set 78 4).set 79 5).set 328 4173
theorem ca1E : doE tab ⟨2, 1, [], 40, 0, 0, false, 0, 41, 0, 0, false⟩ 1 6 3 true [4, 5, 6] = 0 := by kernel_rfl
theorem ca1R : doR tab ⟨2, 1, [], 40, 0, 0, false, 0, 41, 0, 0, false⟩ 1 6 3 true [4, 5, 6] = (⟨caM, ⟨2, 1, [(1, 0, 9, true, true)], 40, 0, 0, false, 0, 41, 0, 1, false⟩, [], [(1, 6, 78, true, 4), (1, 7, 79, true, 5)]⟩, 5) := by kernel_rfl
theorem ca2E : doE caM ⟨2, 1, [(1, 0, 9, true, true)], 40, 0, 0, false, 0, 41, 0, 1, false⟩ 1 6 3 false [] = 0 := by kernel_rfl
theorem ca2R : doR caM ⟨2, 1, [(1, 0, 9, true, true)], 40, 0, 0, false, 0, 41, 0, 1, false⟩ 1 6 3 false [] = (⟨caM, ⟨2, 1, [(1, 0, 9, true, true), (1, 1, 8, true, false)], 40, 0, 0, false, 0, 41, 0, 1, false⟩, [4, 5, 0], [(1, 6, 78, false, 4), (1, 7, 79, false, 5), (1, 8, 64, false, 0)]⟩, 0) := by kernel_rfl
theorem caM_len : caM.length = 512 := by simp only [caM, List.length_set, tab_len]
theorem caM78 : nth caM 78 = 4 := by kernel_rfl
theorem caM79 : nth caM 79 = 5 := by kernel_rfl
theorem caM328 : nth caM 328 = 4173 := by kernel_rfl

set_option maxRecDepth 10000 in
set_option maxHeartbeats 4000000 in
theorem carried_true (w : World) : Calls Try.prog 49 #[] w fun e w' => e = .returned (.bool true) ∧ Below w.heap.size w w' := by
  go_enter Try.func49, Try.ntmps49
  go_wp2_with fail
  refine (tables_own _).mono ?_
  rintro e w1 ⟨g, rfl, hg1, hg, b1⟩
  have hgl : g < w1.heap.size := Box.lt hg1
  have B1 : Hid (Below w.heap.size w w1) := b1
  have G2 : Hid (Box (((w1.alloc (.cells #[.slice (some ⟨g, 0, none⟩) 512 512] 39)).alloc (.cells #[.int .i64 2, .int .i64 1, .slice none 0 0, .int .i64 40, .int .i64 0, .int .i64 0, .bool false, .int .i64 0, .int .i64 41, .int .i64 0, .int .i64 0, .bool false] 44)).alloc (.cells #[.int .i64 4, .int .i64 5, .int .i64 6] 3)) g 3 (intCells tab)) := ((Box.past hg1 _).past _).past _
  clear hg1 b1
  go_wp2_with fail
  refine (do_at (ds := [4, 5, 6]) (dn := false) (sl_tab G2.out tab_len) (Ls.nothing _) (sl_block (zs := [4, 5, 6]) (heap_at (by simp)) rfl rfl (by simp [maxLen])) ca1E ca1R rfl).mono ?_
  rintro e w2 ⟨ma, mc, va, vk, da, dc, ta, tc, rfl, hS2, hL2, -, -, b2, -, -, -, -⟩
  have B2 : Hid (Below w.heap.size w w2) := bel_trans (bel_alloc (bel_alloc (bel_alloc B1.out _) _) _) b2
  clear b2 B1 G2 hgl hg
  obtain ⟨gb, go, gc, he, hgb, hcs⟩ := hS2.open512 caM_len
  rw [caM_len] at hS2 ⊢
  simp only [caM_len, Value.slice.injEq, true_and] at he
  obtain ⟨rfl, rfl⟩ := he
  have HS3 : Hid (Sl (((w2.alloc (.cells #[.slice (some ⟨gb, go, none⟩) 512 mc] 39)).alloc (.cells #[.int .i64 2, .int .i64 1, .slice va 1 vk, .int .i64 40, .int .i64 0, .int .i64 0, .bool false, .int .i64 0, .int .i64 41, .int .i64 0, .int .i64 1, .bool false] 44)).alloc (.cells #[.bool false, .slice da 0 dc, .int .i64 5, .slice ta 2 tc] 82)) (.slice (some ⟨gb, go, none⟩) 512 mc) caM) := ((hS2.alloc _).alloc _).alloc _
  have HL3 : Hid (Ls (((w2.alloc (.cells #[.slice (some ⟨gb, go, none⟩) 512 mc] 39)).alloc (.cells #[.int .i64 2, .int .i64 1, .slice va 1 vk, .int .i64 40, .int .i64 0, .int .i64 0, .bool false, .int .i64 0, .int .i64 41, .int .i64 0, .int .i64 1, .bool false] 44)).alloc (.cells #[.bool false, .slice da 0 dc, .int .i64 5, .slice ta 2 tc] 82)) (.slice va 1 vk) [(1, 0, 9, true, true)]) := ((Ls.alloc (show Ls w2 (.slice va 1 vk) [(1, 0, 9, true, true)] from hL2) _).alloc _).alloc _
  clear hcs hS2 hL2 hgb
  have X3 := ((Box.newAt (w := w2) rfl 39 #[.slice (some ⟨gb, go, none⟩) 512 mc]).past (.cells #[.int .i64 2, .int .i64 1, .slice va 1 vk, .int .i64 40, .int .i64 0, .int .i64 0, .bool false, .int .i64 0, .int .i64 41, .int .i64 0, .int .i64 1, .bool false] 44)).past (.cells #[.bool false, .slice da 0 dc, .int .i64 5, .slice ta 2 tc] 82)
  have X5 := Box.newAt (w := (w2.alloc (.cells #[.slice (some ⟨gb, go, none⟩) 512 mc] 39)).alloc (.cells #[.int .i64 2, .int .i64 1, .slice va 1 vk, .int .i64 40, .int .i64 0, .int .i64 0, .bool false, .int .i64 0, .int .i64 41, .int .i64 0, .int .i64 1, .bool false] 44)) (n := w2.heap.size + 1 + 1) (by simp) 82 #[.bool false, .slice da 0 dc, .int .i64 5, .slice ta 2 tc]
  go_wp2_with fail
  refine (do_at (dn := true) HS3.out HL3.out (Sl.nil _ none 0) ca2E ca2R rfl).mono ?_
  rintro e w4 ⟨ma4, mc4, va4, vk4, da4, dc4, ta4, tc4, rfl, hS4, -, hD4, -, b4, -, -, -, -⟩
  have X3 := X3.keep b4
  have X5 := X5.keep b4
  have HS5 : Hid (Sl w4 (.slice (some ⟨gb, go, none⟩) 512 mc) caM) := HS3.out.keep b4
  have B4 : Hid (Below w.heap.size w w4) := bel_trans (bel_alloc (bel_alloc (bel_alloc B2.out _) _) _) b4
  rw [caM_len] at hS4 ⊢
  have HS4 : Hid (Sl w4 (.slice ma4 512 mc4) caM) := hS4
  have HD4 : Hid (Sl w4 (.slice da4 3 dc4) [4, 5, 0]) := hD4
  clear b4 HS3 HL3 B2 hS4 hD4
  have h3 := X3.lt
  have h5 := X5.lt
  generalize w2.heap.size = A at *
  obtain ⟨b', o', c', he, hb', hcs⟩ := HS5.out.open512 caM_len
  simp only [Value.slice.injEq, Option.some.injEq, Addr.mk.injEq, and_true, true_and] at he
  obtain ⟨⟨rfl, rfl⟩, rfl⟩ := he
  have g78 := hcs 78 (by decide)
  have g79 := hcs 79 (by decide)
  have g328 := hcs 328 (by decide)
  rw [caM78] at g78
  rw [caM79] at g79
  rw [caM328] at g328
  clear hcs
  obtain ⟨m0, -, -⟩ := X3.one
  obtain ⟨t0, t1, t2, t3, -, -, -, -, -⟩ := X5.four
  have z00 : A + 1 + 1 < w4.heap.size + 1 := by omega
  have z01 : A + 1 + 1 < w4.heap.size + 1 + 1 := by omega
  have z02 : A + 1 + 1 < w4.heap.size + 1 + 1 + 1 := by omega
  have z10 : A < w4.heap.size + 1 := by omega
  have z11 : A < w4.heap.size + 1 + 1 := by omega
  have z12 : A < w4.heap.size + 1 + 1 + 1 := by omega
  have z20 : gb < w4.heap.size + 1 := by omega
  have z21 : gb < w4.heap.size + 1 + 1 := by omega
  have z22 : gb < w4.heap.size + 1 + 1 + 1 := by omega
  have B5 : Hid (Below w4.heap.size w4 ((((w4.alloc (.cells #[.slice ma4 512 mc4] 39)).alloc (.cells #[.int .i64 2, .int .i64 1, .slice va4 2 vk4, .int .i64 40, .int .i64 0, .int .i64 0, .bool false, .int .i64 0, .int .i64 41, .int .i64 0, .int .i64 1, .bool false] 44)).alloc (.cells #[.bool true, .slice da4 3 dc4, .int .i64 0, .slice ta4 3 tc4] 82)).alloc (.cells #[.int .i64 4, .int .i64 5, .int .i64 0] 3))) := bel_alloc (bel_alloc (bel_alloc (bel_alloc (Below.refl _ _) _) _) _) _
  have X3' := X3.keep B5.out
  have X7' := (((Box.newAt (w := w4) rfl 39 #[.slice ma4 512 mc4]).past (.cells #[.int .i64 2, .int .i64 1, .slice va4 2 vk4, .int .i64 40, .int .i64 0, .int .i64 0, .bool false, .int .i64 0, .int .i64 41, .int .i64 0, .int .i64 1, .bool false] 44)).past (.cells #[.bool true, .slice da4 3 dc4, .int .i64 0, .slice ta4 3 tc4] 82)).past (.cells #[.int .i64 4, .int .i64 5, .int .i64 0] 3)
  go_wp2_with fail
  refine (equal_any _ _ [4, 5, 0] [4, 5, 0] _ (HD4.out.keep B5.out) (sl_block (b := w4.heap.size + 1 + 1 + 1) (zs := [4, 5, 0]) (heap_at (by simp)) rfl rfl (by simp [maxLen]))).mono ?_
  rintro e w6 ⟨rfl, nq, rfl⟩
  rw [decide_eq_true (rfl : ([4, 5, 0] : List Int) = [4, 5, 0])]
  clear g78 g79 g328 m0 t0 t1 t2 t3 hb'
  obtain ⟨m0, -, s0⟩ := (X3'.drewN nq).one
  obtain ⟨m7, -, s7⟩ := (X7'.drewN nq).one
  have HSa : Hid (Sl (((((w4.alloc (.cells #[.slice ma4 512 mc4] 39)).alloc (.cells #[.int .i64 2, .int .i64 1, .slice va4 2 vk4, .int .i64 40, .int .i64 0, .int .i64 0, .bool false, .int .i64 0, .int .i64 41, .int .i64 0, .int .i64 1, .bool false] 44)).alloc (.cells #[.bool true, .slice da4 3 dc4, .int .i64 0, .slice ta4 3 tc4] 82)).alloc (.cells #[.int .i64 4, .int .i64 5, .int .i64 0] 3)).drewN nq) _ caM) := Sl.drewN (HS5.out.keep B5.out) nq
  have HSb : Hid (Sl (((((w4.alloc (.cells #[.slice ma4 512 mc4] 39)).alloc (.cells #[.int .i64 2, .int .i64 1, .slice va4 2 vk4, .int .i64 40, .int .i64 0, .int .i64 0, .bool false, .int .i64 0, .int .i64 41, .int .i64 0, .int .i64 1, .bool false] 44)).alloc (.cells #[.bool true, .slice da4 3 dc4, .int .i64 0, .slice ta4 3 tc4] 82)).alloc (.cells #[.int .i64 4, .int .i64 5, .int .i64 0] 3)).drewN nq) _ caM) := Sl.drewN (HS4.out.keep B5.out) nq
  have B6 : Hid (Below w.heap.size w (((((w4.alloc (.cells #[.slice ma4 512 mc4] 39)).alloc (.cells #[.int .i64 2, .int .i64 1, .slice va4 2 vk4, .int .i64 40, .int .i64 0, .int .i64 0, .bool false, .int .i64 0, .int .i64 41, .int .i64 0, .int .i64 1, .bool false] 44)).alloc (.cells #[.bool true, .slice da4 3 dc4, .int .i64 0, .slice ta4 3 tc4] 82)).alloc (.cells #[.int .i64 4, .int .i64 5, .int .i64 0] 3)).drewN nq)) := bel_drewN (bel_trans B4.out B5.out) nq
  clear z00 z01 z02 z10 z11 z12 z20 z21 z22
  clear X3 X5 X3' X7' B5 B4 HS5 HS4 HD4 h3 h5
  generalize (((((w4.alloc (.cells #[.slice ma4 512 mc4] 39)).alloc (.cells #[.int .i64 2, .int .i64 1, .slice va4 2 vk4, .int .i64 40, .int .i64 0, .int .i64 0, .bool false, .int .i64 0, .int .i64 41, .int .i64 0, .int .i64 1, .bool false] 44)).alloc (.cells #[.bool true, .slice da4 3 dc4, .int .i64 0, .slice ta4 3 tc4] 82)).alloc (.cells #[.int .i64 4, .int .i64 5, .int .i64 0] 3)).drewN nq) = W6 at *
  go_wp2_with fail
  refine (same_any _ _ caM caM _ HSa.out HSb.out).mono ?_
  rintro e w7 ⟨rfl, b7⟩
  rw [decide_eq_true (rfl : caM = caM)]
  have B7 : Hid (Below w.heap.size w w7) := bel_trans B6.out b7
  clear b7
  go_wp2
  go_ret
  exact ⟨rfl, B7.out⟩
end Go.Proofs.Ytefcdcneenjbgab
/-
  A row of numbers of its own is read and written; slices.Clone of a memory's words.
-/
namespace Go.Proofs.Ytefcdcneenjbgab
open Go.RowKit

theorem OwnI.open {w : World} {base g n cap : Nat} {zs : List Int} (h : OwnI w base (.slice (some ⟨g, 0, none⟩) n cap) zs) : ∃ cur : Array Value, n = zs.length ∧ base ≤ g ∧ w.heap[g]? = some (.cells cur 3 (0, 0)) ∧ zs.length ≤ cap ∧ cap ≤ maxLen ∧ cur.size = cap ∧ cur.toList.take zs.length = zs.map (fun z => Value.int .i64 z) := by
  obtain ⟨h1, h2⟩ := h
  rcases h2 with ⟨h2, _⟩ | ⟨g', cap', cur, e, hb, hg, hc, hm, hs, ht⟩
  · simp at h2
  · simp only [Value.slice.injEq, Option.some.injEq, Addr.mk.injEq, and_true] at e
    obtain ⟨rfl, rfl, rfl⟩ := e
    exact ⟨cur, rfl, hb, hg, hc, hm, by simpa using hs, by simpa using ht⟩
theorem OwnI.cellAt {w : World} {base g n cap : Nat} {zs : List Int} (h : OwnI w base (.slice (some ⟨g, 0, none⟩) n cap) zs) {i : Nat} (hi : i < zs.length) : w.cell? ⟨g, i, none⟩ = some (.int .i64 (nth zs i)) := by
  obtain ⟨cur, rfl, _, hg, hc, _, hs, ht⟩ := h.open
  rw [cell_of_row w g i cur _ _ hg, ← Array.getElem?_toList]
  have : (cur.toList.take zs.length)[i]? = cur.toList[i]? := by rw [List.getElem?_take, if_pos hi]
  rw [← this, ht]
  simp [nth, hi]
theorem OwnI.frozenAt {w : World} {base g n cap : Nat} {zs : List Int} (h : OwnI w base (.slice (some ⟨g, 0, none⟩) n cap) zs) (i : Nat) : w.frozen? ⟨g, i, none⟩ = false := by
  obtain ⟨cur, _, _, hg, _⟩ := h.open
  exact frozen_of_row w g _ _ _ hg
theorem OwnI.setAt {w : World} {base g n cap : Nat} {zs : List Int} (h : OwnI w base (.slice (some ⟨g, 0, none⟩) n cap) zs) (i : Nat) (z : Int) : OwnI (w.setCell ⟨g, i, none⟩ (.int .i64 z)) base (.slice (some ⟨g, 0, none⟩) n cap) (zs.set i z) := by
  obtain ⟨cur, rfl, hb, hg, hc, hm, hs, ht⟩ := h.open
  refine ⟨by simp, .inr ⟨g, cap, cur.setIfInBounds i (.int .i64 z), by simp, hb, heap_setCell_same w g i cur _ _ hg, by simpa using hc, hm, by simp [hs], ?_⟩⟩
  rw [Array.toList_setIfInBounds, List.length_set, Nat.mul_one, List.take_set, ht, List.map_set]

set_option maxRecDepth 10000 in
set_option maxHeartbeats 1000000 in
theorem clone_own (v : Value) (zs : List Int) (w : World) (h : Sl w v zs) (hn : zs.length = 512) :
    Calls Try.prog 53 #[v] w fun e w' => ∃ g cap, e = .returned (.slice (some ⟨g, 0, none⟩) 512 cap) ∧ OwnI w' w.heap.size (.slice (some ⟨g, 0, none⟩) 512 cap) zs ∧ Below w.heap.size w w' := by
  obtain ⟨b, o, cap, rfl, hb, hc⟩ := h.open512 hn
  have HC : Hid (∀ i, i < 512 → w.cell? ⟨b, o + i, none⟩ = some (.int .i64 (nth zs i))) := hc
  have HN : Hid (zs.length = 512) := hn
  clear hc hn h
  have H1 : Hid ((w.alloc (.cells #[] 3)).ownsRow w.heap.size 3 1 (.slice (some ⟨w.heap.size, 0, none⟩) 0 0) 0 []) := by
    have h0 := lit_row w w.heap.size (by simp)
    show World.ownsRow _ _ _ _ _ _ _
    simpa using h0
  have heq : ∀ wx, Sem.run Try.prog (binOp .eql 37 (.slice (some ⟨b, o, none⟩) 512 cap) (.slice none 0 0)) wx = .ok (.bool false) wx := fun wx => by kernel_rfl
  go_enter Try.func53, Try.ntmps53
  go_wp2_with (at_builtin; refine wpList_append_new rfl (.tmp 5) (.tmp 6) rfl w.heap.size _ rfl H1.out b o cap zs rfl HN.out ?hc ?hbase ?hrest)
  case hbase => simp
  case hc =>
    intro i hi
    rw [World.cell?_alloc_past _ _ _ (by omega)]
    exact HC.out i hi
  intro g c w2 hown hgr hat hlt
  have HO : Hid _ := hown
  have BB : Hid (Below w.heap.size w w2) := (bel_alloc (Below.refl _ _) (.cells #[] 3)).trans ((Below.refl w.heap.size (w.alloc (.cells #[] 3))).grown hgr (by simp) (fun k hk => by simp [Value.ownBlock] at hk; omega))
  clear hown hgr hat hlt
  go_wp2
  go_ret
  refine ⟨g, c, rfl, ?_, BB.out⟩
  unfold OwnI
  rw [HN.out]
  exact HO.out
end Go.Proofs.Ytefcdcneenjbgab
/-
  A burst, as data alone: what is touched, and that nothing else turns (what DmaHeld asks); a burst in its pages (DmaParts).
-/
namespace Go.Proofs.Ytefcdcneenjbgab
open Go.RowKit

/-- Memory behind the first touches of a list, the words of Data written. -/
def rep (zs ds : List Int) (T : List Tc) : Nat → List Int
  | 0 => zs
  | j + 1 => if (tth T j).2.2.2.1 = true then (rep zs ds T j).set (tth T j).2.2.1.toNat (nth ds j) else rep zs ds T j
theorem tth_left {T : List Tc} {t : Tc} {j : Nat} (h : j < T.length) : tth (T ++ [t]) j = tth T j := by simp [tth, List.getElem?_append_left h]
theorem tth_last (T : List Tc) (t : Tc) : tth (T ++ [t]) T.length = t := by simp [tth]
theorem rep_snoc {zs ds : List Int} {T : List Tc} {t : Tc} : ∀ j, j ≤ T.length → rep zs ds (T ++ [t]) j = rep zs ds T j
  | 0, _ => rfl
  | j + 1, h => by rw [rep, rep, tth_left (by omega), rep_snoc j (by omega)]
theorem rep_last (zs ds : List Int) (T : List Tc) (t : Tc) : rep zs ds (T ++ [t]) (T.length + 1) = if t.2.2.2.1 = true then (rep zs ds T T.length).set t.2.2.1.toNat (nth ds T.length) else rep zs ds T T.length := by
  simp only [rep, tth_last, rep_snoc T.length (Nat.le_refl _)]
theorem rep_len (zs ds : List Int) (T : List Tc) : ∀ j, (rep zs ds T j).length = zs.length
  | 0 => rfl
  | j + 1 => by rw [rep]; split <;> simp [rep_len zs ds T j]

/-- What is touched so far, and memory by it. -/
structure HeldI (d : Int) (wr : Bool) (ds : List Int) (o : Nat) (zs : List Int) (s : St) : Prop where
  mem : s.zs = rep zs ds s.tch s.tch.length
  each : ∀ j, j < s.tch.length → ∃ p : Int, (0 ≤ p ∧ p < 512) ∧ tth s.tch j = (d, ((o + j : Nat) : Int), p, wr, nth (rep zs ds s.tch (j + 1)) p.toNat)
  read : wr = false → s.dat.length = s.tch.length ∧ ∀ j, j < s.tch.length → nth s.dat j = (tth s.tch j).2.2.2.2
  writ : wr = true → s.dat = []

theorem HeldI.start (d : Int) (wr : Bool) (ds : List Int) (o : Nat) (zs : List Int) (b : Br) : HeldI d wr ds o zs ⟨zs, b, [], []⟩ :=
  ⟨rfl, fun _ hj => absurd hj (Nat.not_lt_zero _), fun _ => ⟨rfl, fun _ hj => absurd hj (Nat.not_lt_zero _)⟩, fun _ => rfl⟩
theorem HeldI.bridge {d : Int} {wr : Bool} {ds : List Int} {o : Nat} {zs : List Int} {s : St} (h : HeldI d wr ds o zs s) (c : Br) : HeldI d wr ds o zs ⟨s.zs, c, s.dat, s.tch⟩ := ⟨h.mem, h.each, h.read, h.writ⟩
theorem HeldI.word {d : Int} {wr : Bool} {ds : List Int} {o : Nat} {zs : List Int} {s : St} (h : HeldI d wr ds o zs s) {k : Int} (hk : 0 ≤ k ∧ k ≤ 63) {x : Nat} (hx : x = o + s.tch.length) : HeldI d wr ds o zs (wd d wr ds o k x s) := by
  subst hx
  obtain ⟨h1, h2, h3, h4⟩ := h
  have hlen : (wd d wr ds o k (o + s.tch.length) s).tch.length = s.tch.length + 1 := by simp [wd]
  have hz : (wd d wr ds o k (o + s.tch.length) s).zs = rep zs ds (wd d wr ds o k (o + s.tch.length) s).tch (s.tch.length + 1) := by
    show wdM wr ds o k (o + s.tch.length) s.zs = _
    simp only [wd]
    rw [rep_last, ← h1, wdM, show o + s.tch.length - o = s.tch.length by omega]
  refine ⟨by rw [hlen]; exact hz, fun j hj => ?_, fun e => ?_, fun e => ?_⟩
  · rw [hlen] at hj
    by_cases hjj : j < s.tch.length
    · obtain ⟨p, hp, e⟩ := h2 j hjj
      refine ⟨p, hp, ?_⟩
      simp only [wd]
      rw [tth_left hjj, rep_snoc _ (by omega), e]
    · obtain rfl : j = s.tch.length := by omega
      refine ⟨plc k (o + s.tch.length), plc_in _ hk, ?_⟩
      rw [← hz]
      simp only [wd]
      rw [tth_last]
  · subst e
    obtain ⟨g1, g2⟩ := h3 rfl
    refine ⟨by rw [hlen]; simp [wd, g1], fun j hj => ?_⟩
    rw [hlen] at hj
    simp only [wd, Bool.false_eq_true, if_false]
    by_cases hjj : j < s.tch.length
    · rw [tth_left hjj, ← g2 j hjj]
      simp [nth, List.getElem?_append_left (show j < s.dat.length by omega)]
    · obtain rfl : j = s.tch.length := by omega
      rw [tth_last]
      simp [nth, ← g1, wdM]
  · subst e
    simp only [wd, if_true]
    exact h4 rfl

theorem page_in {x : Nat} (h : x < 512) : 0 ≤ ((x / 8 : Nat) : Int) ∧ ((x / 8 : Nat) : Int) ≤ 63 := by omega
/-- A burst: it goes through whole; or it ends at a page that is not let through, which is told. -/
theorem runW_held {d : Int} {wr : Bool} {ds : List Int} {o : Nat} {zs : List Int} {b0 : Br} (hd : 0 ≤ d ∧ d ≤ 7) : ∀ (m x : Nat) (k : Int) (s s' : St) (f : Int),
    HeldI d wr ds o zs s → GoodS s → x = o + s.tch.length → (0 ≤ k ∧ k ≤ 63) → x + m ≤ 512 → (wr = true → ∀ i, i < s.tch.length + m → wordB (nth ds i) = true) → (∃ l, s.b = b0.with l) → runW d wr ds o m x k s = (s', f) →
    (f = 0 ∧ HeldI d wr ds o zs s' ∧ GoodS s' ∧ s'.tch.length = s.tch.length + m ∧ ∃ l, s'.b = b0.with l) ∨
    (∃ s1 p, (1 ≤ f ∧ f ≤ 5) ∧ (0 ≤ p ∧ p ≤ 63) ∧ HeldI d wr ds o zs s1 ∧ GoodS s1 ∧ s1.tch.length < s.tch.length + m ∧ (∃ l, s1.b = b0.with l) ∧ tlE s1.zs s1.b f d p = 0 ∧ s' = ⟨tlM s1.zs s1.b f d p wr, tlB s1.zs s1.b f d p, s1.dat, s1.tch⟩)
  | 0, x, k, s, s', f, hH, hG, hx, hk, hm, hw, hl, e => by
    rw [runW_zero, Prod.mk.injEq] at e
    obtain ⟨rfl, rfl⟩ := e
    exact .inl ⟨rfl, hH, hG, rfl, hl⟩
  | m + 1, x, k, s, s', f, hH, hG, hx, hk, hm, hw, hl, e => by
    have hwx : wr = true → wordB (nth ds (x - o)) = true := fun h => hw h (x - o) (by omega)
    have hlen : ∀ k c, (wd d wr ds o k x ⟨s.zs, c, s.dat, s.tch⟩).tch.length = s.tch.length + 1 := fun k c => by simp [wd]
    by_cases hp : x = o ∨ x % 8 = 0
    · obtain ⟨⟨c, k', f'⟩, hg⟩ : ∃ R, goT s.zs s.b d ((x / 8 : Nat) : Int) wr = R := ⟨_, rfl⟩
      have hth : thE s.zs s.b d ((x / 8 : Nat) : Int) = 0 := thE_mk hG.1 hG.2 hd (page_in (by omega))
      obtain ⟨g1, g2, g3, g4, l', g5⟩ := goT_good hth hg
      by_cases hf : f' = 0
      · subst hf
        rw [runW_page hp hg] at e
        have hl2 : ∃ l, c = b0.with l := by
          obtain ⟨l, hl⟩ := hl
          exact ⟨l', by rw [g5, hl]; rfl⟩
        have := runW_held (b0 := b0) hd m (x + 1) k' _ s' f ((hH.bridge c).word g3 hx) (wd_good ⟨hG.1, g1⟩ hwx) (by rw [hlen]; omega) g3 (by omega) (fun h i hi => hw h i (by rw [hlen] at hi; omega)) hl2 e
        rw [hlen, show s.tch.length + 1 + m = s.tch.length + (m + 1) by omega] at this
        exact this
      · have hc : c = s.b := g2 hf
        subst hc
        rw [runW_fault hp hg hf, Prod.mk.injEq] at e
        obtain ⟨rfl, rfl⟩ := e
        refine .inr ⟨s, _, by omega, page_in (x := x) (by omega), hH, hG, by omega, hl, ?_, rfl⟩
        rw [tlE, if_pos (bothB_mk hG.1 hG.2), fE, if_pos ⟨by omega, hd, page_in (by omega)⟩]
    · rw [runW_word hp] at e
      have := runW_held (b0 := b0) hd m (x + 1) k _ s' f (hH.word hk hx) (wd_good hG hwx) (by rw [show (wd d wr ds o k x s) = wd d wr ds o k x ⟨s.zs, s.b, s.dat, s.tch⟩ from rfl, hlen]; omega) hk (by omega) (fun h i hi => hw h i (by rw [show (wd d wr ds o k x s) = wd d wr ds o k x ⟨s.zs, s.b, s.dat, s.tch⟩ from rfl, hlen] at hi; omega)) hl e
      rw [show (wd d wr ds o k x s) = wd d wr ds o k x ⟨s.zs, s.b, s.dat, s.tch⟩ from rfl, hlen, show s.tch.length + 1 + m = s.tch.length + (m + 1) by omega] at this
      exact this

/-- Words are touched alike whatever was told ahead, and however Data is counted. -/
theorem wds_part {d : Int} {wr : Bool} {ds es : List Int} {o o' : Nat} {k : Int} {c : Br} (dat : List Int) (tch : List Tc) : ∀ (j x : Nat) (zs : List Int) (dat0 : List Int) (tch0 : List Tc), (wr = true → ∀ i, i < j → nth ds (x + i - o) = nth es (x + i - o')) →
    ∃ zs' dat' tch', wds d wr es o' k j x ⟨zs, c, dat0, tch0⟩ = ⟨zs', c, dat', tch'⟩ ∧ wds d wr ds o k j x ⟨zs, c, dat ++ dat0, tch ++ tch0⟩ = ⟨zs', c, dat ++ dat', tch ++ tch'⟩
  | 0, x, zs, dat0, tch0, _ => ⟨zs, dat0, tch0, rfl, rfl⟩
  | j + 1, x, zs, dat0, tch0, h => by
    have hM : wdM wr ds o k x zs = wdM wr es o' k x zs := by
      unfold wdM
      cases wr
      · rfl
      · rw [if_pos rfl, if_pos rfl]
        have := h rfl 0 (by omega)
        rw [Nat.add_zero] at this
        rw [this]
    have h1 : wd d wr es o' k x ⟨zs, c, dat0, tch0⟩ = ⟨wdM wr es o' k x zs, c, if wr = true then dat0 else dat0 ++ [nth zs (plc k x).toNat], tch0 ++ [(d, (x : Int), plc k x, wr, nth (wdM wr es o' k x zs) (plc k x).toNat)]⟩ := rfl
    have h2 : wd d wr ds o k x ⟨zs, c, dat ++ dat0, tch ++ tch0⟩ = ⟨wdM wr es o' k x zs, c, dat ++ (if wr = true then dat0 else dat0 ++ [nth zs (plc k x).toNat]), tch ++ (tch0 ++ [(d, (x : Int), plc k x, wr, nth (wdM wr es o' k x zs) (plc k x).toNat)])⟩ := by
      unfold wd
      simp only [hM, List.append_assoc]
      cases wr <;> simp
    rw [wds, wds, h1, h2]
    exact wds_part dat tch j (x + 1) _ _ _ (fun e i hi => by have := h e (i + 1) (by omega); rw [show x + 1 + i = x + (i + 1) by omega]; exact this)
end Go.Proofs.Ytefcdcneenjbgab
/-
  What Do answers, as data: what is touched, and what of memory and bridge has turned.
-/
namespace Go.Proofs.Ytefcdcneenjbgab
open Go.RowKit

theorem nth_set_self {zs : List Int} {i : Nat} {z : Int} (h : i < zs.length) : zs.set i (nth (zs.set i z) i) = zs.set i z := by
  have : nth (zs.set i z) i = z := by simp [nth, h]
  rw [this]
/-- The ways in which Do ends. -/
theorem do_held {zs : List Int} {b c : Br} {d a n f : Int} {fw : Bool} {ds ms dat : List Int} {tch : List Tc} (hE : doE zs b d a n fw ds = 0) (hR : doR zs b d a n fw ds = (⟨ms, c, dat, tch⟩, f)) :
    chk ms = 0 ∧ chkB c = 0 ∧ tch.length ≤ 20 ∧ (0 ≤ f ∧ f ≤ 5) ∧ (decide (f = 0) = decide ((tch.length : Int) = n)) ∧ c.fp = b.fp ∧ c.fh = b.fh ∧
    (∀ j, j < tch.length → ∃ p : Int, (0 ≤ p ∧ p < 512) ∧ tth tch j = (d, a + (j : Int), p, fw, nth (rep zs ds tch (j + 1)) p.toNat)) ∧
    (fw = true → tch.length ≤ ds.length) ∧ (fw = false → dat.length = tch.length ∧ ∀ j, j < tch.length → nth dat j = (tth tch j).2.2.2.2) ∧
    ((f = 0 ∧ ms = rep zs ds tch tch.length ∧ c.ft = b.ft) ∨ (¬ f = 0 ∧ ms = rep zs ds tch tch.length ∧ c.ft = b.ft) ∨
     (¬ f = 0 ∧ ¬ c.ft = b.ft ∧ (0 ≤ b.fp * 8 + b.ft ∧ b.fp * 8 + b.ft < 512) ∧ ∃ z, ms = (rep zs ds tch tch.length).set (b.fp * 8 + b.ft).toNat z)) := by
  obtain ⟨hz, hb, hc⟩ := doE_ok hE
  obtain ⟨hn, hd, ha, hln, hal⟩ := ckA_ok hc
  rw [doR, if_pos hE] at hR
  have hdl : fw = true → ds.length = n.toNat := fun e => by rw [e, needA, if_pos rfl] at hln; omega
  have hw : fw = true → ∀ i, i < 0 + n.toNat → wordB (nth ds i) = true := fun e i hi => all_nth hal (by have := hdl e; omega)
  have hs := runW_held (d := d) (wr := fw) (ds := ds) (o := a.toNat) (zs := zs) (b0 := b) hd n.toNat a.toNat 0 ⟨zs, b, [], []⟩ _ _ (HeldI.start _ _ _ _ _ _) ⟨hz, hb⟩ rfl (by omega) (by omega) hw ⟨_, (with_self b).symm⟩ hR
  have hE2 : ∀ s : St, HeldI d fw ds a.toNat zs s → ∀ j, j < s.tch.length → ∃ p : Int, (0 ≤ p ∧ p < 512) ∧ tth s.tch j = (d, a + (j : Int), p, fw, nth (rep zs ds s.tch (j + 1)) p.toNat) := fun s h j hj => by
    obtain ⟨p, hp, e⟩ := h.each j hj
    refine ⟨p, hp, ?_⟩
    rw [e, show ((a.toNat + j : Nat) : Int) = a + (j : Int) by omega]
  rcases hs with ⟨rfl, hH, hG, hl, l', hl'⟩ | ⟨s1, p, hf, hp, hH, hG, hl, ⟨l', hl'⟩, htE, hs'⟩
  · have hl : tch.length = n.toNat := by simpa using hl
    have hl' : c = b.with l' := hl'
    subst hl'
    refine ⟨hG.1, hG.2, by omega, by omega, ?_, rfl, rfl, hE2 _ hH, fun e => by rw [hdl e]; omega, hH.read, .inl ⟨rfl, hH.mem, rfl⟩⟩
    rw [decide_eq_true rfl, decide_eq_true (by omega)]
  · simp only [St.mk.injEq] at hs'
    obtain ⟨rfl, rfl, rfl, rfl⟩ := hs'
    have hl : s1.tch.length < n.toNat := by simpa using hl
    have hg := tl_good fw htE
    have hms : s1.zs = rep zs ds s1.tch s1.tch.length := hH.mem
    obtain ⟨_, _, _, _, _, g6⟩ := chkB_ok hG.2
    obtain ⟨r1, r2, r3⟩ := chkR_ok g6
    have r1 := pageR_in r1
    have r3 := stepR_in r3
    have e1 : s1.b.fp = b.fp := by rw [hl']; rfl
    have e2 : s1.b.fh = b.fh := by rw [hl']; rfl
    have e3 : s1.b.ft = b.ft := by rw [hl']; rfl
    have hf0 : ¬ f = 0 := by omega
    rw [e1] at r1
    rw [e3] at r3
    by_cases hfu : fullB s1.b = true
    · have t1 : tlB s1.zs s1.b f d p = { s1.b with lost := true } := by rw [tlB, if_pos htE, if_pos hfu]
      have t2 : tlM s1.zs s1.b f d p fw = s1.zs := by rw [tlM, if_pos htE, if_pos hfu]
      refine ⟨hg.1, hg.2.1, by omega, by omega, ?_, by rw [t1]; exact e1, by rw [t1]; exact e2, hE2 _ hH, fun e => by rw [hdl e]; omega, hH.read, .inr (.inl ⟨hf0, by rw [t2]; exact hms, by rw [t1]; exact e3⟩)⟩
      rw [decide_eq_false hf0, decide_eq_false (by omega)]
    · have t1 : tlB s1.zs s1.b f d p = { s1.b with ft := (s1.b.ft + 1) % 8 } := by rw [tlB, if_pos htE, if_neg hfu]
      have t2 : tlM s1.zs s1.b f d p fw = s1.zs.set (b.fp * 8 + b.ft).toNat (fW f d p fw) := by rw [tlM, if_pos htE, if_neg hfu, e1, e3]
      refine ⟨hg.1, hg.2.1, by omega, by omega, ?_, by rw [t1]; exact e1, by rw [t1]; exact e2, hE2 _ hH, fun e => by rw [hdl e]; omega, hH.read, .inr (.inr ⟨hf0, ?_, by omega, fW f d p fw, by rw [t2, hms]⟩)⟩
      · rw [decide_eq_false hf0, decide_eq_false (by omega)]
      · rw [t1]
        show ¬ (s1.b.ft + 1) % 8 = b.ft
        rw [e3]; omega
end Go.Proofs.Ytefcdcneenjbgab
