/-
  The closed fact 'crossed' of the statements answers true; nothing that was there turns.
-/
import Derived.Test.YtemnklppplgcoabPlainB
import Derived.Test.YtemnklppplgcoabWithA
namespace Go.Proofs.Ytemnklppplgcoab
open Go.RowKit
def tab : List Int := wth [9, 33, 10, 3, 16, 49, 24, 159, 25, 139] 5
def tab2 : List Int := tab.set 24 0
theorem cr1 : thE tab ⟨2, 1, [], 40, 0, 0, false, 0, 41, 0, 0, false⟩ 1 0 = 0 := by kernel_rfl
theorem cr2 : thR tab ⟨2, 1, [], 40, 0, 0, false, 0, 41, 0, 0, false⟩ 1 0 true = (⟨2, 1, [(1, 0, 9, true, true)], 40, 0, 0, false, 0, 41, 0, 0, false⟩, 9, 0) := by kernel_rfl
theorem cr3 : thE tab2 ⟨2, 1, [(1, 0, 9, true, true)], 40, 0, 0, false, 0, 41, 0, 0, false⟩ 1 0 = 0 := by kernel_rfl
theorem cr4 : thR tab2 ⟨2, 1, [(1, 0, 9, true, true)], 40, 0, 0, false, 0, 41, 0, 0, false⟩ 1 0 true = (⟨2, 1, [(1, 0, 9, true, true)], 40, 0, 0, false, 0, 41, 0, 0, false⟩, 9, 0) := by kernel_rfl
theorem cr5 : thE tab2 ⟨2, 1, [], 40, 0, 0, false, 0, 41, 0, 0, false⟩ 1 0 = 0 := by kernel_rfl
theorem cr6 : thR tab2 ⟨2, 1, [], 40, 0, 0, false, 0, 41, 0, 0, false⟩ 1 0 true = (⟨2, 1, [], 40, 0, 0, false, 0, 41, 0, 0, false⟩, 0, 3) := by kernel_rfl
theorem cr7 : thR tab2 ⟨2, 1, [], 40, 0, 0, false, 0, 41, 0, 0, false⟩ 2 7 true = (⟨2, 1, [], 40, 0, 0, false, 0, 41, 0, 0, false⟩, 7, 0) := by kernel_rfl
theorem cr8 : thR tab2 ⟨2, 1, [], 40, 0, 0, false, 0, 41, 0, 0, false⟩ 3 7 true = (⟨2, 1, [], 40, 0, 0, false, 0, 41, 0, 0, false⟩, 0, 2) := by kernel_rfl
theorem cr9 : thE tab2 ⟨2, 1, [], 40, 0, 0, false, 0, 41, 0, 0, false⟩ 2 7 = 0 := by kernel_rfl
theorem cr10 : thE tab2 ⟨2, 1, [], 40, 0, 0, false, 0, 41, 0, 0, false⟩ 3 7 = 0 := by kernel_rfl

theorem tab_len : tab.length = 512 := wth_len _ _
theorem tab2_len : tab2.length = 512 := by rw [tab2, List.length_set, tab_len]

set_option maxHeartbeats 4000000 in
theorem tables_own (w : World) : Calls Try.prog 55 #[] w fun e w' =>
    ∃ g, e = .returned (.tuple #[.agg #[.slice (some ⟨g, 0, none⟩) 512 512], .agg #[.int .i64 2, .int .i64 1, .slice none 0 0, .int .i64 40, .int .i64 0, .int .i64 0, .bool false, .int .i64 0, .int .i64 41, .int .i64 0, .int .i64 0, .bool false]]) ∧ w'.heap[g]? = some (.cells (intCells tab) 3 (0, 0)) ∧ w.heap.size ≤ g ∧ Below w.heap.size w w' := by
  go_enter Try.func55, Try.ntmps55
  go_wp2_with fail
  refine (with_own _ 0 10 [9, 33, 10, 3, 16, 49, 24, 159, 25, 139] 5 _ ?_ rfl (by decide) (by decide)).mono ?_
  · exact sl_block (heap_at (by simp)) rfl rfl (by simp [maxLen])
  rintro e w1 ⟨g, rfl, hS, b1, hg, cs, hgc, hcs⟩
  have X0 := (((Box.newAt (n := w.heap.size) rfl 39 #[.slice none 0 0]).past _).past _).keep b1
  have X1 := ((Box.newAt (n := w.heap.size + 1) (by simp) 44 #[.int .i64 0, .int .i64 0, .slice none 0 0, .int .i64 0, .int .i64 0, .int .i64 0, .bool false, .int .i64 0, .int .i64 0, .int .i64 0, .int .i64 0, .bool false]).past _).keep b1
  have B1 : Hid (Below w.heap.size w w1) := bel_trans (bel_alloc (bel_alloc (bel_alloc (Below.refl _ _) _) _) _) b1
  have hg' : w.heap.size + 1 + 1 + 1 ≤ g := by simpa using hg
  have hcc : cs = intCells tab := by
    apply Array.ext'
    rw [hcs, intCells_list]; rfl
  have HG : Hid (w1.heap[g]? = some (.cells (intCells tab) 3 (0, 0))) := by show _ = _; rw [hgc, hcc]
  clear b1 hS hg hgc hcs hcc
  obtain ⟨r0, r1, s0⟩ := X0.one
  obtain ⟨⟨u0, u1, u2, u3, u4, u5, u6, u7, u8, u9, u10, u11⟩, s1⟩ := X1.twelve
  obtain ⟨y0, y1, y2, y3, y4, y5, y6, y7, y8, y9, y10, y11⟩ := X1.marks
  go_wp2
  refine bodyPost_ret (v := .tuple #[.agg #[.slice (some ⟨g, 0, none⟩) 512 512], .agg #[.int .i64 2, .int .i64 1, .slice none 0 0, .int .i64 40, .int .i64 0, .int .i64 0, .bool false, .int .i64 0, .int .i64 41, .int .i64 0, .int .i64 0, .bool false]]) (by simp [results, Try.results55, go_sem, *]) rfl ⟨g, rfl, ?_, by omega, ?_⟩
  · exact (Box.other (p := ⟨w.heap.size, 0, none⟩) HG.out (by dsimp only; omega) _).other12 (by omega) _ _ _ _ _ _ _ _ _ _ _ _
  · exact bel_set12 (by omega) (bel_set (p := ⟨w.heap.size, 0, none⟩) (Nat.le_refl _) B1.out _) _ _ _ _ _ _ _ _ _ _ _ _

theorem sl_tab {w : World} {g : Nat} {zs : List Int} (h : w.heap[g]? = some (.cells (intCells zs) 3 (0, 0))) (hl : zs.length = 512) : Sl w (.slice (some ⟨g, 0, none⟩) 512 512) zs :=
  sl_block h (intCells_list _) hl.symm (by rw [hl]; simp [maxLen])

set_option maxHeartbeats 4000000 in
theorem crossed_true (w : World) : Calls Try.prog 24 #[] w fun e w' => e = .returned (.bool true) ∧ Below w.heap.size w w' := by
  go_enter Try.func24, Try.ntmps24
  go_wp2_with fail
  refine (tables_own _).mono ?_
  rintro e w1 ⟨g, rfl, hg1, hg, b1⟩
  have hgl : g < w1.heap.size := Box.lt hg1
  have z1 : w.heap.size ≤ w1.heap.size := b1.size
  have HG : Hid _ := hg1
  have B1 : Hid (Below w.heap.size w w1) := b1
  clear hg1 b1
  have G2 := heap_past (o := .cells #[.int .i64 2, .int .i64 1, .slice none 0 0, .int .i64 40, .int .i64 0, .int .i64 0, .bool false, .int .i64 0, .int .i64 41, .int .i64 0, .int .i64 0, .bool false] 44) (by simp; omega) (heap_past (o := .cells #[.slice (some ⟨g, 0, none⟩) 512 512] 39) hgl HG.out)
  go_wp2_with fail
  refine (through_at (sl_tab G2 tab_len) (Ls.nothing _) cr1 cr2).mono ?_
  rintro e w2 ⟨va, vk, rfl, hL2, b2⟩
  have X1 := ((Box.newAt (w := w1) rfl 39 #[.slice (some ⟨g, 0, none⟩) 512 512]).past (.cells #[.int .i64 2, .int .i64 1, .slice none 0 0, .int .i64 40, .int .i64 0, .int .i64 0, .bool false, .int .i64 0, .int .i64 41, .int .i64 0, .int .i64 0, .bool false] 44)).keep b2
  have X2 := (Box.newAt (w := w1.alloc (.cells #[.slice (some ⟨g, 0, none⟩) 512 512] 39)) (n := w1.heap.size + 1) (by simp) 44 #[.int .i64 2, .int .i64 1, .slice none 0 0, .int .i64 40, .int .i64 0, .int .i64 0, .bool false, .int .i64 0, .int .i64 41, .int .i64 0, .int .i64 0, .bool false]).keep b2
  have G2 := heap_kept b2 (by simp; omega) G2
  have B2 : Hid (Below w.heap.size w w2) := bel_trans (bel_alloc (bel_alloc B1.out _) _) b2
  clear b2 B1 HG
  have zA : w.heap.size ≤ w1.heap.size := z1
  have zg : g < w2.heap.size := Box.lt G2
  have nA : ¬ g = w1.heap.size := by omega
  have nA1 : ¬ g = w1.heap.size + 1 := by omega
  generalize w1.heap.size = A at *
  clear z1 hgl
  have hL2 : Ls w2 (.slice va 1 vk) [(1, 0, 9, true, true)] := hL2
  have HS2 : Hid (Sl w2 (.slice (some ⟨g, 0, none⟩) 512 512) tab) := sl_tab G2 tab_len
  have HL3 : Hid (Ls ((w2.setCell ⟨g, 24, none⟩ (.int .i64 0)).alloc (.cells #[.int .i64 2, .int .i64 1, .slice va 1 vk, .int .i64 40, .int .i64 0, .int .i64 0, .bool false, .int .i64 0, .int .i64 41, .int .i64 0, .int .i64 0, .bool false] 44)) (.slice va 1 vk) [(1, 0, 9, true, true)]) := by
    have := hL2.setSl HS2.out (k := 24) (by rw [tab_len]; decide) (.int .i64 0)
    rw [Nat.zero_add] at this
    exact this.alloc _
  have g24 : w2.cell? ⟨g, 24, none⟩ = some (.int .i64 (nth tab 24)) := by rw [cell_of_row w2 g _ _ _ _ G2, intCells_at (by rw [tab_len]; decide)]
  have f24 : w2.frozen? ⟨g, 24, none⟩ = false := frozen_of_row w2 g _ _ _ G2
  have G3 : ((w2.setCell ⟨g, 24, none⟩ (.int .i64 0)).alloc (.cells #[.int .i64 2, .int .i64 1, .slice va 1 vk, .int .i64 40, .int .i64 0, .int .i64 0, .bool false, .int .i64 0, .int .i64 41, .int .i64 0, .int .i64 0, .bool false] 44)).heap[g]? = some (.cells (intCells tab2) 3 (0, 0)) := by
    refine heap_past (by simpa [World.setCell] using zg) ?_
    rw [heap_setCell_same _ _ _ _ _ _ G2, intCells_set]; rfl
  have X1' := (X1.other (p := ⟨g, 24, none⟩) (by dsimp only; omega) (.int .i64 0)).past (.cells #[.int .i64 2, .int .i64 1, .slice va 1 vk, .int .i64 40, .int .i64 0, .int .i64 0, .bool false, .int .i64 0, .int .i64 41, .int .i64 0, .int .i64 0, .bool false] 44)
  have X2' := (X2.other (p := ⟨g, 24, none⟩) (by dsimp only; omega) (.int .i64 0)).past (.cells #[.int .i64 2, .int .i64 1, .slice va 1 vk, .int .i64 40, .int .i64 0, .int .i64 0, .bool false, .int .i64 0, .int .i64 41, .int .i64 0, .int .i64 0, .bool false] 44)
  have X3' : Box ((w2.setCell ⟨g, 24, none⟩ (.int .i64 0)).alloc (.cells #[.int .i64 2, .int .i64 1, .slice va 1 vk, .int .i64 40, .int .i64 0, .int .i64 0, .bool false, .int .i64 0, .int .i64 41, .int .i64 0, .int .i64 0, .bool false] 44)) w2.heap.size 44 #[.int .i64 2, .int .i64 1, .slice va 1 vk, .int .i64 40, .int .i64 0, .int .i64 0, .bool false, .int .i64 0, .int .i64 41, .int .i64 0, .int .i64 0, .bool false] := Box.newAt (by simp) _ _
  have B3 : Hid (Below w.heap.size w ((w2.setCell ⟨g, 24, none⟩ (.int .i64 0)).alloc (.cells #[.int .i64 2, .int .i64 1, .slice va 1 vk, .int .i64 40, .int .i64 0, .int .i64 0, .bool false, .int .i64 0, .int .i64 41, .int .i64 0, .int .i64 0, .bool false] 44))) := bel_alloc (bel_set hg B2.out _) _
  obtain ⟨m0, -, s1⟩ := X1.one
  have HG3 : Hid _ := G3
  clear G2 G3 hL2 B2
  go_wp2_with fail
  clear g24 f24 m0 s1 X1 X2 zg
  generalize ((w2.setCell ⟨g, 24, none⟩ (.int .i64 0)).alloc (.cells #[.int .i64 2, .int .i64 1, .slice va 1 vk, .int .i64 40, .int .i64 0, .int .i64 0, .bool false, .int .i64 0, .int .i64 41, .int .i64 0, .int .i64 0, .bool false] 44)) = W3 at *
  generalize w2.heap.size = N at *
  refine (through_at (sl_tab HG3.out tab2_len) HL3.out cr3 cr4).mono ?_
  rintro e w4 ⟨va4, vk4, rfl, -, b4⟩
  have X1 := (X1'.keep b4).past (.cells #[.int .i64 2, .int .i64 1, .slice va4 1 vk4, .int .i64 40, .int .i64 0, .int .i64 0, .bool false, .int .i64 0, .int .i64 41, .int .i64 0, .int .i64 0, .bool false] 44)
  have X2 := (X2'.keep b4).past (.cells #[.int .i64 2, .int .i64 1, .slice va4 1 vk4, .int .i64 40, .int .i64 0, .int .i64 0, .bool false, .int .i64 0, .int .i64 41, .int .i64 0, .int .i64 0, .bool false] 44)
  have X3 := (X3'.keep b4).past (.cells #[.int .i64 2, .int .i64 1, .slice va4 1 vk4, .int .i64 40, .int .i64 0, .int .i64 0, .bool false, .int .i64 0, .int .i64 41, .int .i64 0, .int .i64 0, .bool false] 44)
  have HL4 : Hid (Ls _ (.slice va 1 vk) [(1, 0, 9, true, true)]) := (HL3.out.keep b4).alloc (.cells #[.int .i64 2, .int .i64 1, .slice va4 1 vk4, .int .i64 40, .int .i64 0, .int .i64 0, .bool false, .int .i64 0, .int .i64 41, .int .i64 0, .int .i64 0, .bool false] 44)
  have HG4 : Hid _ := heap_past (o := .cells #[.int .i64 2, .int .i64 1, .slice va4 1 vk4, .int .i64 40, .int .i64 0, .int .i64 0, .bool false, .int .i64 0, .int .i64 41, .int .i64 0, .int .i64 0, .bool false] 44) (Box.lt (heap_kept b4 (Box.lt HG3.out) HG3.out)) (heap_kept b4 (Box.lt HG3.out) HG3.out)
  have B4 : Hid (Below w.heap.size w (w4.alloc (.cells #[.int .i64 2, .int .i64 1, .slice va4 1 vk4, .int .i64 40, .int .i64 0, .int .i64 0, .bool false, .int .i64 0, .int .i64 41, .int .i64 0, .int .i64 0, .bool false] 44))) := bel_alloc (bel_trans B3.out b4) _
  have Y1 := X1'.keep b4
  have Y3 := X3'.keep b4
  clear b4 X1' X2' X3' HL3 HG3 B3
  obtain ⟨m0, -, s1⟩ := Y1.one
  obtain ⟨⟨n0, n1, n2, n3, n4, n5, n6, n7, n8, n9, n10, n11⟩, s3⟩ := Y3.twelve
  go_wp2_with fail
  clear m0 s1 n0 n1 n2 n3 n4 n5 n6 n7 n8 n9 n10 n11 s3 Y1 Y3
  generalize (w4.alloc (.cells #[.int .i64 2, .int .i64 1, .slice va4 1 vk4, .int .i64 40, .int .i64 0, .int .i64 0, .bool false, .int .i64 0, .int .i64 41, .int .i64 0, .int .i64 0, .bool false] 44)) = W5 at *
  refine (plain_at (sl_tab HG4.out tab2_len) HL4.out cr5 cr6).mono ?_
  rintro e w6 ⟨rfl, b6⟩
  have X1 := X1.keep b6
  have X2 := X2.keep b6
  have X3 := X3.keep b6
  have HG6 : Hid _ := heap_kept b6 (Box.lt HG4.out) HG4.out
  have B6 : Hid (Below w.heap.size w w6) := bel_trans B4.out b6
  clear b6 HL4 HG4 B4
  obtain ⟨m0, -, s1⟩ := X1.one
  obtain ⟨⟨n0, n1, n2, n3, n4, n5, n6, n7, n8, n9, n10, n11⟩, s3⟩ := X2.twelve
  go_wp2_with fail
  clear m0 s1 n0 n1 n2 n3 n4 n5 n6 n7 n8 n9 n10 n11 s3
  refine (through_at (sl_tab HG6.out tab2_len) (Ls.nothing _) cr9 cr7).mono ?_
  rintro e w7 ⟨va7, vk7, rfl, -, b7⟩
  have X1 := X1.keep b7
  have X2 := X2.keep b7
  have X3 := X3.keep b7
  have HG7 : Hid _ := heap_past (o := .cells #[.int .i64 2, .int .i64 1, .slice va7 0 vk7, .int .i64 40, .int .i64 0, .int .i64 0, .bool false, .int .i64 0, .int .i64 41, .int .i64 0, .int .i64 0, .bool false] 44) (Box.lt (heap_kept b7 (Box.lt HG6.out) HG6.out)) (heap_kept b7 (Box.lt HG6.out) HG6.out)
  have B7 : Hid (Below w.heap.size w w7) := bel_trans B6.out b7
  clear b7 HG6 B6
  obtain ⟨m0, -, s1⟩ := X1.one
  obtain ⟨⟨n0, n1, n2, n3, n4, n5, n6, n7, n8, n9, n10, n11⟩, s3⟩ := X2.twelve
  go_wp2_with fail
  clear m0 s1 n0 n1 n2 n3 n4 n5 n6 n7 n8 n9 n10 n11 s3
  refine (through_at (sl_tab HG7.out tab2_len) (Ls.nothing _) cr10 cr8).mono ?_
  rintro e w8 ⟨va8, vk8, rfl, -, b8⟩
  have X3 := (X3.past _).keep b8
  have B8 : Hid (Below w.heap.size w w8) := bel_trans (bel_alloc B7.out _) b8
  clear b8 HG7 B7
  obtain ⟨⟨n0, n1, n2, n3, n4, n5, n6, n7, n8, n9, n10, n11⟩, s3⟩ := X3.twelve
  go_wp2
  go_ret
  exact ⟨rfl, bel_alloc B8.out _⟩
end Go.Proofs.Ytemnklppplgcoab
