/-
  Laid together: Tables, ToldMath, PageMath, DrivenMath, EqualE, MDriven, MWalkB, MShutWalk, Open0, Open, OpenH, OpenO.
-/
import Derived.Test.YtlgjllmecjkbjacGreatT26
import Derived.ProofKit
import Derived.OpenShut
import Derived.ShutString
import Derived.ChangeOld
/-
  The tables of the closed facts.
-/
namespace Go.Proofs.YtlgjllmecjkbjacGreat
open Go.RowKit
def tab : List Int := wth [9, 33, 10, 3, 16, 49, 24, 159, 25, 139] 5
theorem tab_len : tab.length = 512 := wth_len _ _
set_option maxHeartbeats 4000000 in
theorem tables_own (w : World) : Calls Tryz.prog 36 #[] w fun e w' =>
    ∃ g, e = .returned (.tuple #[.agg #[.slice (some ⟨g, 0, none⟩) 512 512], .agg #[.int .i64 2, .int .i64 1, .slice none 0 0, .int .i64 40, .int .i64 0, .int .i64 0, .bool false, .int .i64 0, .int .i64 41, .int .i64 0, .int .i64 0, .bool false]]) ∧ w'.heap[g]? = some (.cells (intCells tab) 3 (0, 0)) ∧ w.heap.size ≤ g ∧ Below w.heap.size w w' := by
  go_enter Tryz.func36, Tryz.ntmps36
  go_wp2_with fail
  refine (with_own _ 0 10 [9, 33, 10, 3, 16, 49, 24, 159, 25, 139] 5 _ ?_ rfl (by decide) (by decide)).mono ?_
  · exact sl_block (heap_at (by simp)) rfl rfl (by simp [maxLen])
  rintro e w1 ⟨g, rfl, hS, b1, hg, cs, hgc, hcs⟩
  have X0 := (((Box.newAt (n := w.heap.size) rfl 24 #[.slice none 0 0]).past _).past _).keep b1
  have X1 := ((Box.newAt (n := w.heap.size + 1) (by simp) 31 #[.int .i64 0, .int .i64 0, .slice none 0 0, .int .i64 0, .int .i64 0, .int .i64 0, .bool false, .int .i64 0, .int .i64 0, .int .i64 0, .int .i64 0, .bool false]).past _).keep b1
  have B1 : Hid (Below w.heap.size w w1) := bel_trans (bel_alloc (bel_alloc (bel_alloc (Below.refl _ _) _) _) _) b1
  have hg' : w.heap.size + 1 + 1 + 1 ≤ g := by simpa using hg
  have hcc : cs = intCells tab := by
    apply Array.ext'
    rw [hcs, intCells_list]; rfl
  have HG : Hid (w1.heap[g]? = some (.cells (intCells tab) 3 (0, 0))) := by show _ = _; rw [hgc, hcc]
  clear b1 hS hg hgc hcs hcc
  obtain ⟨r0, r1, s0⟩ := X0.one
  obtain ⟨⟨u0, u1, u2, u3, u4, u5, u6, u7, u8, u9, u10, u11⟩, s1⟩ := X1.twelve
  obtain ⟨y0, y1, y2, y3, y4, y5, y6, y7, y8, y9, y10, y11⟩ := X1.marks
  go_wp2
  refine bodyPost_ret (v := .tuple #[.agg #[.slice (some ⟨g, 0, none⟩) 512 512], .agg #[.int .i64 2, .int .i64 1, .slice none 0 0, .int .i64 40, .int .i64 0, .int .i64 0, .bool false, .int .i64 0, .int .i64 41, .int .i64 0, .int .i64 0, .bool false]]) (by simp [results, Tryz.results36, go_sem, *]) rfl ⟨g, rfl, ?_, by omega, ?_⟩
  · exact (Box.other (p := ⟨w.heap.size, 0, none⟩) HG.out (by dsimp only; omega) _).other12 (by omega) _ _ _ _ _ _ _ _ _ _ _ _
  · exact bel_set12 (by omega) (bel_set (p := ⟨w.heap.size, 0, none⟩) (Nat.le_refl _) B1.out _) _ _ _ _ _ _ _ _ _ _ _ _
theorem sl_tab {w : World} {g : Nat} {zs : List Int} (h : w.heap[g]? = some (.cells (intCells zs) 3 (0, 0))) (hl : zs.length = 512) : Sl w (.slice (some ⟨g, 0, none⟩) 512 512) zs :=
  sl_block h (intCells_list _) hl.symm (by rw [hl]; simp [maxLen])
end Go.Proofs.YtlgjllmecjkbjacGreat
/-
  What a burst tells, as data alone: as much as was asked for, or a fault; what lies in the ring of faults then.
-/
namespace Go.Proofs.YtlgjllmecjkbjacGreat
open Go.RowKit
end Go.Proofs.YtlgjllmecjkbjacGreat
/-
  A burst within one page, as data alone: the page is asked for once; what is touched lies in the page to which it comes.
-/
namespace Go.Proofs.YtlgjllmecjkbjacGreat
open Go.RowKit
end Go.Proofs.YtlgjllmecjkbjacGreat
/-
  The closed fact driven, as data alone: what its script does.
-/
namespace Go.Proofs.YtlgjllmecjkbjacGreat
open Go.RowKit
def dvn : List Int := ((((wth [9, 33, 10, 3, 16, 49, 24, 159, 25, 139] 5).set 100 4096).set 101 4632).set 102 20544).set 320 1
def dv0 : Mc := ⟨dvn, ⟨100, [0, 0, 0, 0, 0, 0, 0, 0], false⟩, ⟨2, 1, [], 40, 0, 1, false, 0, 41, 0, 0, false⟩⟩
def dvA : Hp := ⟨3, 0, 1, 1, 1, false, []⟩
def dvS : Hp := ⟨1, 0, 0, 0, 0, false, []⟩
def dvO : Hp := ⟨2, 0, 0, 0, 0, false, []⟩
def dvL : List Hp := [dvA, dvS, dvS, dvS, dvA, dvO, dvA, dvO]
theorem dv_len : dvn.length = 512 := by simp only [dvn, List.length_set]; exact wth_len _ _
theorem dv_good : chkM dv0 = 0 := by decide +kernel
theorem dv_said : (rnM dv0 dvL).2.2 = [0, 0, 0, 0, 0, 0, 0, 6] := by decide +kernel
theorem dv_told : ((rnM dv0 dvL).2.1.map (fun t => (t.done, t.f))) = [(true, 0), (false, 0), (false, 0), (false, 0), (true, 0), (false, 0), (false, 3), (false, 0)] := by decide +kernel
theorem dv_word : nth (rnM dv0 dvL).1.zs 328 = 11 := by decide +kernel
theorem dv_none : (rnM dv0 dvL).1.b.cache = [] := by decide +kernel
end Go.Proofs.YtlgjllmecjkbjacGreat
/-
  slices.Equal of errors.
-/
namespace Go.Proofs.YtlgjllmecjkbjacGreat
open Go.RowKit
theorem equalE_any (v1 v2 : Value) (xs ys : List Int) (w : World) (h1 : Sl w v1 xs) (h2 : Sl w v2 ys) :
    Calls Tryz.prog 23 #[v1, v2] w fun e w' => e = .returned (.bool (decide (xs = ys))) ∧ ∃ n, w' = w.drewN n := by
  obtain ⟨a1, c1, rfl, l1, h1⟩ := h1
  obtain ⟨a2, c2, rfl, l2, h2⟩ := h2
  unfold maxLen at l1 l2
  by_cases hl : xs.length = ys.length
  · have hne : ((xs.length : Int) != (ys.length : Int)) = false := by simp [hl]
    rcases h1 with rfl | ⟨b1, o1, rfl, hb1, hc1⟩
    · obtain rfl : ys = [] := List.eq_nil_of_length_eq_zero hl.symm
      go_enter Tryz.func23, Tryz.ntmps23
      go_wp2
      go_loopw [5, 13] (fun _ i w' => i = .int .i64 0 ∧ w' = w) (fun _ i _ => 0)
      case atStart => exact ⟨rfl, rfl⟩
      case round =>
        obtain ⟨rfl, rfl⟩ := hrel
        go_wp2
        go_ret
        exact ⟨rfl, 0, rfl⟩
    · rcases h2 with rfl | ⟨b2, o2, rfl, hb2, hc2⟩
      · obtain rfl : xs = [] := List.eq_nil_of_length_eq_zero hl
        go_enter Tryz.func23, Tryz.ntmps23
        go_wp2
        go_loopw [5, 13] (fun _ i w' => i = .int .i64 0 ∧ w' = w) (fun _ i _ => 0)
        case atStart => exact ⟨rfl, rfl⟩
        case round =>
          obtain ⟨rfl, rfl⟩ := hrel
          go_wp2
          go_ret
          exact ⟨rfl, 0, rfl⟩
      have Hl : Hid (xs.length = ys.length) := hl
      have hle : (xs.length : Int) ≤ ys.length := by omega
      have H1 := hc1
      have H2 := hc2
      clear hl hc1 hc2
      have HC1 : Hid _ := H1
      have HC2 : Hid _ := H2
      clear H1 H2
      go_enter Tryz.func23, Tryz.ntmps23
      go_wp2
      go_loopw [5, 13] (fun _ i w' => ∃ k : Nat, k ≤ xs.length ∧ i = .int .i64 k ∧ (∀ j, j < k → nth xs j = nth ys j) ∧ ∃ n, w' = w.drewN n) (fun _ i _ => xs.length - (intOf i).toNat)
      case atStart => exact ⟨0, Nat.zero_le _, rfl, fun j hj => absurd hj (Nat.not_lt_zero _), 0, rfl⟩
      case round =>
        obtain ⟨k, hk, rfl, hpre, n, rfl⟩ := hrel
        have HP : Hid (∀ j, j < k → nth xs j = nth ys j) := hpre
        clear hpre
        by_cases hlt : k < xs.length
        · have g1 := HC1.out k hlt
          have g2 := HC2.out k (by have := Hl.out; omega)
          have hlt1 : (k : Int) < xs.length := by omega
          have hlt2 : (k : Int) < ys.length := by omega
          by_cases hq : nth xs k = nth ys k
          · have hb : (nth xs k != nth ys k) = false := by simp [hq]
            have HQ : Hid (nth xs k = nth ys k) := hq
            clear hq
            go_wp2
            go_quiet (fail)
            go_wp2
            refine ⟨⟨k + 1, by omega, by go_num, fun j hj => ?_, _, rfl⟩, by simp [intOf]; omega⟩
            by_cases e : j = k
            · rw [e]; exact HQ.out
            · exact HP.out j (by omega)
          · have hb : (nth xs k != nth ys k) = true := by simp [hq]
            have HN : Hid (decide (xs = ys) = false) := by simpa [Hid] using ne_of_getD hq
            clear hq
            go_wp2
            go_quiet (fail)
            go_wp2
            go_ret
            exact ⟨ret_bool HN.out.symm, n + nq, World.drewN_drewN _ _ _⟩
        · have HD : Hid (decide (xs = ys) = true) := equal_done Hl.out hlt HP.out
          go_wp2
          go_ret
          exact ⟨ret_bool HD.out.symm, _, rfl⟩
  · have hne : ((xs.length : Int) != (ys.length : Int)) = true := by simp; omega
    have hd : decide (xs = ys) = false := by simp; intro e; exact hl (by rw [e])
    rw [hd]
    go_enter Tryz.func23, Tryz.ntmps23
    go_wp2
    go_ret
    exact ⟨rfl, 0, rfl⟩
end Go.Proofs.YtlgjllmecjkbjacGreat
/-
  The closed fact 'driven' of the statements answers true; nothing that was there turns.
-/
namespace Go.Proofs.YtlgjllmecjkbjacGreat
open Go.RowKit
theorem dvn_tab : (((tab.set 100 4096).set 101 4632).set 102 20544).set 320 1 = dvn := rfl
def dvRow : Array Value := #[.int .i64 3, .int .i64 0, .int .i64 1, .int .i64 1, .int .i64 1, .bool false, .slice none 0 0, .int .i64 1, .int .i64 0, .int .i64 0, .int .i64 0, .int .i64 0, .bool false, .slice none 0 0, .int .i64 1, .int .i64 0, .int .i64 0, .int .i64 0, .int .i64 0, .bool false, .slice none 0 0, .int .i64 1, .int .i64 0, .int .i64 0, .int .i64 0, .int .i64 0, .bool false, .slice none 0 0, .int .i64 3, .int .i64 0, .int .i64 1, .int .i64 1, .int .i64 1, .bool false, .slice none 0 0, .int .i64 2, .int .i64 0, .int .i64 0, .int .i64 0, .int .i64 0, .bool false, .slice none 0 0, .int .i64 3, .int .i64 0, .int .i64 1, .int .i64 1, .int .i64 1, .bool false, .slice none 0 0, .int .i64 2, .int .i64 0, .int .i64 0, .int .i64 0, .int .i64 0, .bool false, .slice none 0 0]
theorem dv_hps {w : World} {n : Nat} {t : TypeId} (h : Box w n t dvRow) : Hps w (.slice (some ⟨n, 0, none⟩) 8 8) dvL := by
  refine ⟨some ⟨n, 0, none⟩, 8, rfl, Nat.le_refl _, by decide, .inr ⟨n, 0, rfl, h.lt, fun i hi => ?_⟩⟩
  have hi8 : i < 8 := hi
  have hS : Slc w (.slice none 0 0) [] := ⟨Sl.nil _ none 0, none, 0, rfl, Nat.zero_le _, Nat.zero_le _⟩
  have hcase : i = 0 ∨ i = 1 ∨ i = 2 ∨ i = 3 ∨ i = 4 ∨ i = 5 ∨ i = 6 ∨ i = 7 := by omega
  rcases hcase with rfl | rfl | rfl | rfl | rfl | rfl | rfl | rfl
  all_goals exact ⟨.slice none 0 0, h.cell _, h.cell _, h.cell _, h.cell _, h.cell _, h.cell _, h.cell _, hS⟩
theorem dv_run : rnE dv0 dvL = 0 := rnE_ok dv_good (by decide)
def DrvA (g : Nat) (W : World) (s : Value) (wx : World) : Prop :=
  ∃ n4 k, s = .pointer (some ⟨n4, 0, none⟩) ∧ Box wx n4 33 #[.slice (some ⟨g, 0, none⟩) 512 512, .int .i64 100, .slice (some ⟨k, 0, none⟩) 8 8, .bool false, .int .i64 2, .int .i64 1, .slice none 0 0, .int .i64 40, .int .i64 0, .int .i64 1, .bool false, .int .i64 0, .int .i64 41, .int .i64 0, .int .i64 0, .bool false] ∧ Box wx k 3 zeroRegs ∧ W.heap.size ≤ n4 ∧ W.heap.size ≤ k ∧ Below W.heap.size W wx
set_option maxRecDepth 10000 in
set_option maxHeartbeats 4000000 in
theorem driven_true (w : World) : Calls Tryz.prog 12 #[] w fun e w' => e = .returned (.bool true) ∧ Below w.heap.size w w' := by
  go_enter Tryz.func12, Tryz.ntmps12
  go_wp2_with fail
  refine (tables_own _).mono ?_
  rintro e w1 ⟨g, rfl, hg1, hg, b1⟩
  have G1 : Box w1 g 3 (intCells tab) := hg1
  have gl := G1.lt
  go_upto_region 3 with fail
  have G1 : Box (((w1.alloc (.cells #[.slice (some ⟨g, 0, none⟩) 512 512] 24)).alloc (.cells #[.int .i64 2, .int .i64 1, .slice none 0 0, .int .i64 40, .int .i64 0, .int .i64 0, .bool false, .int .i64 0, .int .i64 41, .int .i64 0, .int .i64 0, .bool false] 31)).alloc (.cells #[.int .i64 3, .int .i64 0, .int .i64 1, .int .i64 1, .int .i64 1, .bool false, .slice none 0 0] 37)) g 3 (intCells tab) := ((G1.past _).past _).past _
  have X1 := ((Box.newAt (w := w1) (n := w1.heap.size) rfl 24 #[.slice (some ⟨g, 0, none⟩) 512 512]).past (.cells #[.int .i64 2, .int .i64 1, .slice none 0 0, .int .i64 40, .int .i64 0, .int .i64 0, .bool false, .int .i64 0, .int .i64 41, .int .i64 0, .int .i64 0, .bool false] 31)).past (.cells #[.int .i64 3, .int .i64 0, .int .i64 1, .int .i64 1, .int .i64 1, .bool false, .slice none 0 0] 37)
  have X2 := (Box.newAt (w := (w1.alloc (.cells #[.slice (some ⟨g, 0, none⟩) 512 512] 24))) (n := w1.heap.size + 1) (by simp) 31 #[.int .i64 2, .int .i64 1, .slice none 0 0, .int .i64 40, .int .i64 0, .int .i64 0, .bool false, .int .i64 0, .int .i64 41, .int .i64 0, .int .i64 0, .bool false]).past (.cells #[.int .i64 3, .int .i64 0, .int .i64 1, .int .i64 1, .int .i64 1, .bool false, .slice none 0 0] 37)
  have X3 := Box.newAt (w := ((w1.alloc (.cells #[.slice (some ⟨g, 0, none⟩) 512 512] 24)).alloc (.cells #[.int .i64 2, .int .i64 1, .slice none 0 0, .int .i64 40, .int .i64 0, .int .i64 0, .bool false, .int .i64 0, .int .i64 41, .int .i64 0, .int .i64 0, .bool false] 31))) (n := w1.heap.size + 1 + 1) (by simp) 37 #[.int .i64 3, .int .i64 0, .int .i64 1, .int .i64 1, .int .i64 1, .bool false, .slice none 0 0]
  have B1 : Hid (Below w.heap.size w (((w1.alloc (.cells #[.slice (some ⟨g, 0, none⟩) 512 512] 24)).alloc (.cells #[.int .i64 2, .int .i64 1, .slice none 0 0, .int .i64 40, .int .i64 0, .int .i64 0, .bool false, .int .i64 0, .int .i64 41, .int .i64 0, .int .i64 0, .bool false] 31)).alloc (.cells #[.int .i64 3, .int .i64 0, .int .i64 1, .int .i64 1, .int .i64 1, .bool false, .slice none 0 0] 37))) := bel_alloc (bel_alloc (bel_alloc b1 _) _) _
  have zA : w.heap.size ≤ w1.heap.size := b1.size
  clear b1 hg1
  generalize (((w1.alloc (.cells #[.slice (some ⟨g, 0, none⟩) 512 512] 24)).alloc (.cells #[.int .i64 2, .int .i64 1, .slice none 0 0, .int .i64 40, .int .i64 0, .int .i64 0, .bool false, .int .i64 0, .int .i64 41, .int .i64 0, .int .i64 0, .bool false] 31)).alloc (.cells #[.int .i64 3, .int .i64 0, .int .i64 1, .int .i64 1, .int .i64 1, .bool false, .slice none 0 0] 37)) = W at *
  generalize w1.heap.size = A at *
  have c100 : W.cell? ⟨g, 100, none⟩ = some (.int .i64 (nth tab 100)) := (G1.cell 100).trans (intCells_at (by rw [tab_len]; decide))
  have c101 : W.cell? ⟨g, 101, none⟩ = some (.int .i64 (nth tab 101)) := (G1.cell 101).trans (intCells_at (by rw [tab_len]; decide))
  have c102 : W.cell? ⟨g, 102, none⟩ = some (.int .i64 (nth tab 102)) := (G1.cell 102).trans (intCells_at (by rw [tab_len]; decide))
  have c320 : W.cell? ⟨g, 320, none⟩ = some (.int .i64 (nth tab 320)) := (G1.cell 320).trans (intCells_at (by rw [tab_len]; decide))
  have fz := G1.marksOf
  have gW := G1.lt
  have nA : ¬ g = A := by omega
  have nA1 : ¬ g = A + 1 := by omega
  have nB : ¬ A = g := by omega
  have nB1 : ¬ A + 1 = g := by omega
  obtain ⟨m0, -, s1⟩ := X1.one
  obtain ⟨⟨u0, u1, u2, u3, u4, u5, u6, u7, u8, u9, u10, u11⟩, s2⟩ := X2.twelve
  have fz2 := X2.marksOf
  go_upto_region 8 with fail
  clear c100 c101 c102 c320 fz m0 s1 u0 u1 u2 u3 u4 u5 u6 u7 u8 u9 u10 u11 s2 fz2
  have G2 : Box (((((W.setCell ⟨g, 100, none⟩ (.int .i64 4096)).setCell ⟨g, 101, none⟩ (.int .i64 4632)).setCell ⟨g, 102, none⟩ (.int .i64 20544)).setCell ⟨g, 320, none⟩ (.int .i64 1)).setCell ⟨A + 1, 5, none⟩ (.int .i64 1)) g 3 (intCells dvn) := by
    have q := ((((G1.set 100 (.int .i64 4096)).set 101 (.int .i64 4632)).set 102 (.int .i64 20544)).set 320 (.int .i64 1)).other (p := ⟨A + 1, 5, none⟩) (by dsimp only; omega) (.int .i64 1)
    rw [intCells_set, intCells_set, intCells_set, intCells_set, dvn_tab] at q
    exact q
  have K2 : KeptB (fun q => q = g ∨ q = A + 1) W (((((W.setCell ⟨g, 100, none⟩ (.int .i64 4096)).setCell ⟨g, 101, none⟩ (.int .i64 4632)).setCell ⟨g, 102, none⟩ (.int .i64 20544)).setCell ⟨g, 320, none⟩ (.int .i64 1)).setCell ⟨A + 1, 5, none⟩ (.int .i64 1)) := (((((KeptB.refl (fun q => q = g ∨ q = A + 1) W).setCell (p := ⟨g, 100, none⟩) (.inl (.inl rfl)) _).setCell (p := ⟨g, 101, none⟩) (.inl (.inl rfl)) _).setCell (p := ⟨g, 102, none⟩) (.inl (.inl rfl)) _).setCell (p := ⟨g, 320, none⟩) (.inl (.inl rfl)) _).setCell (p := ⟨A + 1, 5, none⟩) (.inl (.inr rfl)) _
  have Y1 := X1.kept K2 (by omega)
  have Y2 : Box (((((W.setCell ⟨g, 100, none⟩ (.int .i64 4096)).setCell ⟨g, 101, none⟩ (.int .i64 4632)).setCell ⟨g, 102, none⟩ (.int .i64 20544)).setCell ⟨g, 320, none⟩ (.int .i64 1)).setCell ⟨A + 1, 5, none⟩ (.int .i64 1)) (A + 1) 31 #[.int .i64 2, .int .i64 1, .slice none 0 0, .int .i64 40, .int .i64 0, .int .i64 1, .bool false, .int .i64 0, .int .i64 41, .int .i64 0, .int .i64 0, .bool false] := ((((X2.other (p := ⟨g, 100, none⟩) (by dsimp only; omega) (.int .i64 4096)).other (p := ⟨g, 101, none⟩) (by dsimp only; omega) (.int .i64 4632)).other (p := ⟨g, 102, none⟩) (by dsimp only; omega) (.int .i64 20544)).other (p := ⟨g, 320, none⟩) (by dsimp only; omega) (.int .i64 1)).set 5 (.int .i64 1)
  have Y3 := X3.kept K2 (by omega)
  have B2 : Hid (Below w.heap.size w (((((W.setCell ⟨g, 100, none⟩ (.int .i64 4096)).setCell ⟨g, 101, none⟩ (.int .i64 4632)).setCell ⟨g, 102, none⟩ (.int .i64 20544)).setCell ⟨g, 320, none⟩ (.int .i64 1)).setCell ⟨A + 1, 5, none⟩ (.int .i64 1))) := by
    show Below _ _ _
    (repeat (first | with_reducible exact B1.out | (with_reducible refine bel_set ?_ ?_ _; (focus (dsimp only; omega)))))
  have z8 : W.heap.size ≤ (((((W.setCell ⟨g, 100, none⟩ (.int .i64 4096)).setCell ⟨g, 101, none⟩ (.int .i64 4632)).setCell ⟨g, 102, none⟩ (.int .i64 20544)).setCell ⟨g, 320, none⟩ (.int .i64 1)).setCell ⟨A + 1, 5, none⟩ (.int .i64 1)).heap.size := K2.size
  have t2 : A + 1 + 1 < W.heap.size := X3.lt
  clear X1 X2 X3 G1 K2 B1
  generalize (((((W.setCell ⟨g, 100, none⟩ (.int .i64 4096)).setCell ⟨g, 101, none⟩ (.int .i64 4632)).setCell ⟨g, 102, none⟩ (.int .i64 20544)).setCell ⟨g, 320, none⟩ (.int .i64 1)).setCell ⟨A + 1, 5, none⟩ (.int .i64 1)) = V at *
  obtain ⟨m0, -, s1⟩ := Y1.one
  obtain ⟨⟨u0, u1, u2, u3, u4, u5, u6, u7, u8, u9, u10, u11⟩, s2⟩ := Y2.twelve
  have hm8 := make8
  go_cut [4] from 30 to 34 (fun s wx => DrvA g V s wx)
  case first =>
    refine wp_region_held_drew (S := fun w' => Below V.heap.size V w') (by kernel_rfl) (Below.drew (Below.refl _ _)) (fun hHeld => ?_)
    refine wpHeld_takeL (i := 0) (v := ?_) rfl (by kernel_rfl) (by kernel_rfl) (by kernel_rfl) (fun _ _ _ h => h) (Or.inl ⟨by kernel_rfl, ?_⟩) (by assumption) ?_
    rotate_left 1
    focus (intro wz hSz; (try dsimp only at hSz); (obtain ⟨m0, -, s1⟩ := (Y1.keep hSz).one); go_simp; (try with_reducible rfl))
    simp only [Act.put, List.setIfInBounds_toArray, List.set_cons_zero, List.set_cons_succ]
    refine wpHeld_takeL (i := 3) (v := ?_) rfl (by kernel_rfl) (by kernel_rfl) (by kernel_rfl) (fun _ _ _ h => h) (Or.inl ⟨by kernel_rfl, ?_⟩) (by assumption) ?_
    rotate_left 1
    focus (intro wz hSz; (try dsimp only at hSz); (obtain ⟨⟨u0, u1, u2, u3, u4, u5, u6, u7, u8, u9, u10, u11⟩, s2⟩ := (Y2.keep hSz).twelve); go_simp; (try with_reducible rfl))
    simp only [Act.put, List.setIfInBounds_toArray, List.set_cons_zero, List.set_cons_succ]
    refine wpHeld_twoL (i := 1) (j := 5) (by kernel_rfl) (by rfl) (by rfl) (fun K hK => ?_) (fun K hK => ?_)
    · go_simp
      refine hK.out _ _ (bel_alloc hHeld _) (fun hHeld2 => ?_)
      clear hK K hHeld
      have hHeld := hHeld2
      clear hHeld2
      refine wpHeld_takeL (i := 2) (v := ?_) rfl (by kernel_rfl) (by kernel_rfl) (by kernel_rfl) (fun _ _ _ h => h) (Or.inl ⟨by kernel_rfl, ?_⟩) (by assumption) ?_
      rotate_left 1
      focus (intro wz hSz; (try dsimp only at hSz); go_simp; (try with_reducible rfl))
      simp only [Act.put, List.setIfInBounds_toArray, List.set_cons_zero, List.set_cons_succ]
      refine wpHeld_takeL (i := 4) (v := ?_) rfl (by kernel_rfl) (by kernel_rfl) (by kernel_rfl) (fun _ _ _ h => h) (Or.inl ⟨by kernel_rfl, ?_⟩) (by assumption) ?_
      rotate_left 1
      focus (intro wz hSz; (try dsimp only at hSz); go_simp; (try with_reducible rfl))
      simp only [Act.put, List.setIfInBounds_toArray, List.set_cons_zero, List.set_cons_succ]
      refine wpHeld_oneL (i := 5) (by kernel_rfl) (by rfl) (fun K hK => ?_)
      go_simp
      refine hK.out _ _ (bel_alloc hHeld _) (fun hHeld2 => ?_)
      clear hK K hHeld
      have hHeld := hHeld2
      clear hHeld2
      refine wpHeld_oneL (i := 6) (by kernel_rfl) (by rfl) (fun K hK => ?_)
      refine step_store_row rfl 33 (.tmp 4) (.tmp 34) rfl (V.heap.size + 1) #[.slice (some ⟨g, 0, none⟩) 512 512, .int .i64 100, .slice (some ⟨V.heap.size, 0, none⟩) 8 8, .bool false, .int .i64 2, .int .i64 1, .slice none 0 0, .int .i64 40, .int .i64 0, .int .i64 1, .bool false, .int .i64 0, .int .i64 41, .int .i64 0, .int .i64 0, .bool false] rfl rfl _ _ (Box.newAt (by simp) _ _) (by rw [infoM]; rfl) rfl (by simp [Value.oneCell']) ?_
      refine hK.out _ _ (bel_setRow (by simp) hHeld _) (fun hHeld2 => ?_)
      clear hK K
      simp only [Act.put]
      refine wpAnyH_done (by kernel_rfl) ?_ _
      go_wp2_with fail
      go_meet
      exact ⟨V.heap.size + 1, V.heap.size, rfl, Box.setRow (Box.newAt (by simp) _ _) _, Box.otherRow (Box.past (Box.newAt (w := V.drew) rfl _ _) _) (show V.heap.size ≠ V.heap.size + 1 by omega) _, by omega, by omega, hHeld2⟩
    · go_simp
      refine hK.out _ _ (bel_alloc hHeld _) (fun hHeld2 => ?_)
      clear hK K hHeld
      have hHeld := hHeld2
      clear hHeld2
      refine wpHeld_oneL (i := 1) (by kernel_rfl) (by rfl) (fun K hK => ?_)
      go_simp
      refine hK.out _ _ (bel_alloc hHeld _) (fun hHeld2 => ?_)
      clear hK K hHeld
      have hHeld := hHeld2
      clear hHeld2
      refine wpHeld_takeL (i := 2) (v := ?_) rfl (by kernel_rfl) (by kernel_rfl) (by kernel_rfl) (fun _ _ _ h => h) (Or.inl ⟨by kernel_rfl, ?_⟩) (by assumption) ?_
      rotate_left 1
      focus (intro wz hSz; (try dsimp only at hSz); go_simp; (try with_reducible rfl))
      simp only [Act.put, List.setIfInBounds_toArray, List.set_cons_zero, List.set_cons_succ]
      refine wpHeld_takeL (i := 4) (v := ?_) rfl (by kernel_rfl) (by kernel_rfl) (by kernel_rfl) (fun _ _ _ h => h) (Or.inl ⟨by kernel_rfl, ?_⟩) (by assumption) ?_
      rotate_left 1
      focus (intro wz hSz; (try dsimp only at hSz); go_simp; (try with_reducible rfl))
      simp only [Act.put, List.setIfInBounds_toArray, List.set_cons_zero, List.set_cons_succ]
      refine wpHeld_oneL (i := 6) (by kernel_rfl) (by rfl) (fun K hK => ?_)
      refine step_store_row rfl 33 (.tmp 4) (.tmp 34) rfl (V.heap.size) #[.slice (some ⟨g, 0, none⟩) 512 512, .int .i64 100, .slice (some ⟨V.heap.size + 1, 0, none⟩) 8 8, .bool false, .int .i64 2, .int .i64 1, .slice none 0 0, .int .i64 40, .int .i64 0, .int .i64 1, .bool false, .int .i64 0, .int .i64 41, .int .i64 0, .int .i64 0, .bool false] rfl rfl _ _ (Box.past (Box.newAt (w := V.drew) rfl _ _) _) (by rw [infoM]; rfl) rfl (by simp [Value.oneCell']) ?_
      refine hK.out _ _ (bel_setRow (by simp) hHeld _) (fun hHeld2 => ?_)
      clear hK K
      simp only [Act.put]
      refine wpAnyH_done (by kernel_rfl) ?_ _
      go_wp2_with fail
      go_meet
      exact ⟨V.heap.size, V.heap.size + 1, rfl, Box.setRow (Box.past (Box.newAt (w := V.drew) rfl _ _) _) _, Box.otherRow (Box.newAt (by simp) _ _) (show V.heap.size + 1 ≠ V.heap.size by omega) _, by omega, by omega, hHeld2⟩
  case rest =>
    obtain ⟨n4, k, rfl, X4, XK, l4, lk, b4⟩ := hcut
    have G3 := G2.keep b4
    have Y3 := Y3.keep b4
    have B4 : Hid (Below w.heap.size w wc) := bel_trans B2.out b4
    clear m0 s1 u0 u1 u2 u3 u4 u5 u6 u7 u8 u9 u10 u11 s2 hm8 Y1 Y2 b4 B2 G2
    go_upto_region 10 with fail
    have X4 := X4.past (.cells #[.int .i64 1, .int .i64 0, .int .i64 0, .int .i64 0, .int .i64 0, .bool false, .slice none 0 0] 37)
    have XK := XK.past (.cells #[.int .i64 1, .int .i64 0, .int .i64 0, .int .i64 0, .int .i64 0, .bool false, .slice none 0 0] 37)
    have G3 := G3.past (.cells #[.int .i64 1, .int .i64 0, .int .i64 0, .int .i64 0, .int .i64 0, .bool false, .slice none 0 0] 37)
    have Y3 := Y3.past (.cells #[.int .i64 1, .int .i64 0, .int .i64 0, .int .i64 0, .int .i64 0, .bool false, .slice none 0 0] 37)
    have X5 : Box (wc.alloc (.cells #[.int .i64 1, .int .i64 0, .int .i64 0, .int .i64 0, .int .i64 0, .bool false, .slice none 0 0] 37)) wc.heap.size 37 #[.int .i64 1, .int .i64 0, .int .i64 0, .int .i64 0, .int .i64 0, .bool false, .slice none 0 0] := Box.newAt rfl _ _
    have B5 : Hid (Below w.heap.size w (wc.alloc (.cells #[.int .i64 1, .int .i64 0, .int .i64 0, .int .i64 0, .int .i64 0, .bool false, .slice none 0 0] 37))) := bel_alloc B4.out _
    have z5 : w.heap.size ≤ wc.heap.size := B4.out.size
    clear B4
    generalize (wc.alloc (.cells #[.int .i64 1, .int .i64 0, .int .i64 0, .int .i64 0, .int .i64 0, .bool false, .slice none 0 0] 37)) = wD at *
    generalize wc.heap.size = n5 at *
    obtain ⟨⟨i0, i1, i2, i3⟩, ⟨j0, j1, j2, j3, j4, j5, j6, j7, j8, j9, j10, j11⟩, s0⟩ := X4.sixteen
    obtain ⟨⟨k0, k1, k2, k3, k4, k5, k6⟩, sH⟩ := Y3.seven
    obtain ⟨⟨l0, l1, l2, l3, l4', l5, l6⟩, sI⟩ := X5.seven
    go_wp2_with fail
    clear i0 i1 i2 i3 j0 j1 j2 j3 j4 j5 j6 j7 j8 j9 j10 j11 s0 k0 k1 k2 k3 k4 k5 k6 sH l0 l1 l2 l3 l4' l5 l6 sI
    have BD : Hid (Below wD.heap.size wD (wD.alloc (.cells dvRow 37))) := bel_alloc (Below.refl _ _) _
    have hM : IsM (wD.alloc (.cells dvRow 37)) dv0 #[.slice (some ⟨g, 0, none⟩) 512 512, .int .i64 100, .slice (some ⟨k, 0, none⟩) 8 8, .bool false, .int .i64 2, .int .i64 1, .slice none 0 0, .int .i64 40, .int .i64 0, .int .i64 1, .bool false, .int .i64 0, .int .i64 41, .int .i64 0, .int .i64 0, .bool false] :=
      ⟨some ⟨g, 0, none⟩, 512, 512, some ⟨k, 0, none⟩, 8, 8, none, 0, 0, rfl, Sl.keep (sl_tab G3 dv_len) BD.out, Sl.keep (sl_block XK zeroRegs_list rfl (by decide)) BD.out, Ls.nothing _⟩
    have hX : Box (wD.alloc (.cells dvRow 37)) wD.heap.size 37 dvRow := Box.newAt rfl _ _
    refine (mRun_row (m := dv0) (l := dvL) hM (dv_hps hX)).mono ?_
    clear hM hX
    rintro e w7 ⟨cs1, a1, c1, a2, c2, rfl, hM, hT, hS, -, -, -, b7⟩
    have B7 : Hid (Below w.heap.size w w7) := bel_trans (bel_trans B5.out BD.out) b7
    clear b7 B5 BD X4 XK G3 Y3 X5
    have hw := dv_word
    have hno := dv_none
    have hsd := dv_said
    have htd := dv_told
    have hgd := rnM_good dvL dv0 dv_good
    rw [dv_run] at *
    rw [rnX_ok dv_run] at *
    obtain ⟨⟨⟨zs, ⟨p, r, d⟩, ⟨mo, ba, l, op, oh, ot, st, fe, fp, fh, ft, lo⟩⟩, ts, es⟩, hR⟩ : ∃ R, rnM dv0 dvL = R := ⟨_, rfl⟩
    rw [hR] at hM hT hS hw hno hsd htd hgd ⊢
    dsimp only at hM hT hS hw hno hsd htd hgd ⊢
    clear hR
    subst hsd
    subst hno
    have hz : zs.length = 512 := (chk_ok (chkM_ok hgd).1).1
    have hl8 : ts.length = 8 := by have := congrArg List.length htd; simpa using this
    rw [hl8] at hT ⊢
    obtain ⟨qs, hQ, hMn⟩ := hT
    have hq8 : qs.length = 8 := by rw [hMn.1, hl8]
    obtain ⟨tb, tq, ht0, htl, ht⟩ : ∃ tb tq, a1 = some ⟨tb, tq, none⟩ ∧ tb < w7.heap.size ∧ ∀ i, i < 8 → AtQ w7 tb (tq + i * 4) (qth qs i) := by
      obtain ⟨a', c', e', -, -, q⟩ := hQ
      simp only [Value.slice.injEq] at e'
      rcases q with q | ⟨b', o', q, q2, q3⟩
      · rw [q] at hq8; simp at hq8
      · exact ⟨b', o', by rw [e'.1, q], q2, fun i hi => q3 i (by omega)⟩
    subst ht0
    have hth : ∀ i, i < 8 → (toth ts i).done = ((ts.map (fun t => (t.done, t.f)))[i]?.getD (false, 0)).1 ∧ (toth ts i).f = ((ts.map (fun t => (t.done, t.f)))[i]?.getD (false, 0)).2 := fun i hi => by
      unfold toth
      rw [List.getElem?_map, List.getElem?_eq_getElem (by omega)]
      exact ⟨rfl, rfl⟩
    rw [htd] at hth
    have e0 := (ht 0 (by decide)).1
    have e4 := (ht 4 (by decide)).1
    have e6 := (ht 6 (by decide)).2.2.1
    rw [(hMn.2 0 (by omega)).done, (hth 0 (by decide)).1] at e0
    rw [(hMn.2 4 (by omega)).done, (hth 4 (by decide)).1] at e4
    rw [(hMn.2 6 (by omega)).f, (hth 6 (by decide)).2] at e6
    have e0 : w7.cell? ⟨tb, tq, none⟩ = some (.bool true) := e0
    have e4 : w7.cell? ⟨tb, tq + 16, none⟩ = some (.bool true) := e4
    have e6 : w7.cell? ⟨tb, tq + 26, none⟩ = some (.int .i64 3) := e6
    obtain ⟨b1, m1, e1, b2, m2, e2, b3, m3, e3, rfl, s1, s2, s3⟩ := hM
    dsimp only at s1 s2 s3
    obtain ⟨gb, go, gc, hsl, hgb, hgc⟩ := s1.open512 hz
    simp only [Value.slice.injEq] at hsl
    obtain ⟨rfl, rfl, rfl⟩ := hsl
    have c328 := hgc 328 (by decide)
    rw [hw] at c328
    obtain ⟨a3, k3, h3, -⟩ := s3
    simp only [Value.slice.injEq, List.length_nil] at h3
    obtain ⟨-, rfl, -⟩ := h3
    have HS : Hid (Sl w7 (.slice a2 8 c2) [0, 0, 0, 0, 0, 0, 0, 6]) := hS
    clear hS hQ hMn hth htd ht hgc hw hgd s2 s1
    have X6 := (Box.newAt (w := w7) (n := w7.heap.size) rfl 33 #[.slice (some ⟨gb, go, none⟩) 512 e1, .int .i64 p, .slice b2 m2 e2, .bool d, .int .i64 mo, .int .i64 ba, .slice b3 0 e3, .int .i64 op, .int .i64 oh, .int .i64 ot, .bool st, .int .i64 fe, .int .i64 fp, .int .i64 fh, .int .i64 ft, .bool lo]).past (.cells #[.int .i64 0, .int .i64 0, .int .i64 0, .int .i64 0, .int .i64 0, .int .i64 0, .int .i64 0, .int .i64 6] 41)
    have XE := Box.newAt (w := (w7.alloc (.cells #[.slice (some ⟨gb, go, none⟩) 512 e1, .int .i64 p, .slice b2 m2 e2, .bool d, .int .i64 mo, .int .i64 ba, .slice b3 0 e3, .int .i64 op, .int .i64 oh, .int .i64 ot, .bool st, .int .i64 fe, .int .i64 fp, .int .i64 fh, .int .i64 ft, .bool lo] 33))) (n := w7.heap.size + 1) (by simp) 41 #[.int .i64 0, .int .i64 0, .int .i64 0, .int .i64 0, .int .i64 0, .int .i64 0, .int .i64 0, .int .i64 6]
    have B9 : Hid (Below w7.heap.size w7 ((w7.alloc (.cells #[.slice (some ⟨gb, go, none⟩) 512 e1, .int .i64 p, .slice b2 m2 e2, .bool d, .int .i64 mo, .int .i64 ba, .slice b3 0 e3, .int .i64 op, .int .i64 oh, .int .i64 ot, .bool st, .int .i64 fe, .int .i64 fp, .int .i64 fh, .int .i64 ft, .bool lo] 33)).alloc (.cells #[.int .i64 0, .int .i64 0, .int .i64 0, .int .i64 0, .int .i64 0, .int .i64 0, .int .i64 0, .int .i64 6] 41))) := bel_alloc (bel_alloc (Below.refl _ _) _) _
    go_wp2_with fail
    refine (equalE_any _ _ [0, 0, 0, 0, 0, 0, 0, 6] [0, 0, 0, 0, 0, 0, 0, 6] _ (HS.out.keep B9.out) (sl_block XE rfl rfl (by decide))).mono ?_
    rw [show decide (([0, 0, 0, 0, 0, 0, 0, 6] : List Int) = [0, 0, 0, 0, 0, 0, 0, 6]) = true from by decide]
    rintro e w9 ⟨rfl, nz, rfl⟩
    have X6 := X6.drewN nz
    have BN : Hid (Below w7.heap.size w7 (((w7.alloc (.cells #[.slice (some ⟨gb, go, none⟩) 512 e1, .int .i64 p, .slice b2 m2 e2, .bool d, .int .i64 mo, .int .i64 ba, .slice b3 0 e3, .int .i64 op, .int .i64 oh, .int .i64 ot, .bool st, .int .i64 fe, .int .i64 fp, .int .i64 fh, .int .i64 ft, .bool lo] 33)).alloc (.cells #[.int .i64 0, .int .i64 0, .int .i64 0, .int .i64 0, .int .i64 0, .int .i64 0, .int .i64 0, .int .i64 6] 41)).drewN nz)) := bel_drewN B9.out nz
    have e0 := ((bcell BN.out).1 tb tq htl).trans e0
    have e4 := ((bcell BN.out).1 tb (tq + 16) htl).trans e4
    have e6 := ((bcell BN.out).1 tb (tq + 26) htl).trans e6
    have c328 := ((bcell BN.out).1 gb (go + 328) hgb).trans c328
    have BF : Hid (Below w.heap.size w (((w7.alloc (.cells #[.slice (some ⟨gb, go, none⟩) 512 e1, .int .i64 p, .slice b2 m2 e2, .bool d, .int .i64 mo, .int .i64 ba, .slice b3 0 e3, .int .i64 op, .int .i64 oh, .int .i64 ot, .bool st, .int .i64 fe, .int .i64 fp, .int .i64 fh, .int .i64 ft, .bool lo] 33)).alloc (.cells #[.int .i64 0, .int .i64 0, .int .i64 0, .int .i64 0, .int .i64 0, .int .i64 0, .int .i64 0, .int .i64 6] 41)).drewN nz)) := bel_trans B7.out BN.out
    have htl : tb < (((w7.alloc (.cells #[.slice (some ⟨gb, go, none⟩) 512 e1, .int .i64 p, .slice b2 m2 e2, .bool d, .int .i64 mo, .int .i64 ba, .slice b3 0 e3, .int .i64 op, .int .i64 oh, .int .i64 ot, .bool st, .int .i64 fe, .int .i64 fp, .int .i64 fh, .int .i64 ft, .bool lo] 33)).alloc (.cells #[.int .i64 0, .int .i64 0, .int .i64 0, .int .i64 0, .int .i64 0, .int .i64 0, .int .i64 0, .int .i64 6] 41)).drewN nz).heap.size := Nat.lt_of_lt_of_le htl BN.out.size
    have hgb : gb < (((w7.alloc (.cells #[.slice (some ⟨gb, go, none⟩) 512 e1, .int .i64 p, .slice b2 m2 e2, .bool d, .int .i64 mo, .int .i64 ba, .slice b3 0 e3, .int .i64 op, .int .i64 oh, .int .i64 ot, .bool st, .int .i64 fe, .int .i64 fp, .int .i64 fh, .int .i64 ft, .bool lo] 33)).alloc (.cells #[.int .i64 0, .int .i64 0, .int .i64 0, .int .i64 0, .int .i64 0, .int .i64 0, .int .i64 0, .int .i64 6] 41)).drewN nz).heap.size := Nat.lt_of_lt_of_le hgb BN.out.size
    clear XE HS B9 BN B7
    generalize ((w7.alloc (.cells #[.slice (some ⟨gb, go, none⟩) 512 e1, .int .i64 p, .slice b2 m2 e2, .bool d, .int .i64 mo, .int .i64 ba, .slice b3 0 e3, .int .i64 op, .int .i64 oh, .int .i64 ot, .bool st, .int .i64 fe, .int .i64 fp, .int .i64 fh, .int .i64 ft, .bool lo] 33)).alloc (.cells #[.int .i64 0, .int .i64 0, .int .i64 0, .int .i64 0, .int .i64 0, .int .i64 0, .int .i64 0, .int .i64 6] 41)).drewN nz = wF at *
    generalize w7.heap.size = n6 at *
    obtain ⟨⟨i0, i1, i2, i3⟩, ⟨j0, j1, j2, j3, j4, j5, j6, j7, j8, j9, j10, j11⟩, s0⟩ := X6.sixteen
    clear X6
    go_wp2
    go_ret
    exact ⟨rfl, BF.out⟩
end Go.Proofs.YtlgjllmecjkbjacGreat
/-
  What the walks over scripts share.
-/
namespace Go.Proofs.YtlgjllmecjkbjacGreat
open Go.RowKit
def offMc (m : Mc) : Mc := ⟨m.zs, m.h, { m.b with mode := 0 }⟩
theorem IsM.off {w : World} {m : Mc} {cs : Array Value} (h : IsM w m cs) : IsM w (offMc m) (cs.setIfInBounds 4 (.int .i64 0)) := by
  obtain ⟨a1, n1, c1, a2, n2, c2, a3, n3, c3, rfl, h1, h2, h3⟩ := h
  exact ⟨a1, n1, c1, a2, n2, c2, a3, n3, c3, by simp [offMc], h1, h2, h3⟩
theorem IsM.mode {w : World} {m : Mc} {cs : Array Value} (h : IsM w m cs) : cs[4]? = some (.int .i64 m.b.mode) := by
  obtain ⟨a1, n1, c1, a2, n2, c2, a3, n3, c3, rfl, -⟩ := h; rfl
def LpI (P : Mc → Prop) (S : Nat) (w wx : World) : Prop := (∃ cs m, Box wx S 33 cs ∧ IsM wx m cs ∧ P m) ∧ Below w.heap.size w wx
theorem hps_at {w w' : World} {va : Option Addr} {vk : Nat} {l : List Hp} (h : Hps w (.slice va l.length vk) l) (hb : Below w.heap.size w w') {i : Nat} (hi : i < l.length) :
    ∃ b o, va = some ⟨b, o, none⟩ ∧ b < w'.heap.size ∧ AtHp w' b (o + i * 7) (hpth l i) := by
  obtain ⟨a', c', e', -, -, q⟩ := h
  simp only [Value.slice.injEq] at e'
  rcases q with q | ⟨b', o', q, q2, q3⟩
  · rw [q] at hi; simp at hi
  · exact ⟨b', o', by rw [e'.1, q], Nat.lt_of_lt_of_le q2 hb.size, (q3 i hi).keep hb q2⟩
theorem isM_any {u : Value} {zs : List Int} {p : Int} {v : Value} {r : List Int} {d : Bool} {mo ba op oh ot fe fp fh ft : Int} {st lo : Bool} {vc : Value} {l : List Ln} {w : World} (h : Sl w u zs ∧ Sl w v r ∧ Ls w vc l) : IsM w ⟨zs, ⟨p, r, d⟩, ⟨mo, ba, l, op, oh, ot, st, fe, fp, fh, ft, lo⟩⟩ #[u, .int .i64 p, v, .bool d, .int .i64 mo, .int .i64 ba, vc, .int .i64 op, .int .i64 oh, .int .i64 ot, .bool st, .int .i64 fe, .int .i64 fp, .int .i64 fh, .int .i64 ft, .bool lo] := by
  obtain ⟨h1, h2, h3⟩ := h
  obtain ⟨a1, n1, c1, rfl⟩ : ∃ a k c, u = .slice a k c := let ⟨a, c, e, _⟩ := h1; ⟨a, _, c, e⟩
  obtain ⟨a2, n2, c2, rfl⟩ : ∃ a k c, v = .slice a k c := let ⟨a, c, e, _⟩ := h2; ⟨a, _, c, e⟩
  obtain ⟨a3, n3, c3, rfl⟩ : ∃ a k c, vc = .slice a k c := let ⟨a, c, e, _⟩ := h3; ⟨a, _, c, e⟩
  exact ⟨a1, n1, c1, a2, n2, c2, a3, n3, c3, rfl, h1, h2, h3⟩
end Go.Proofs.YtlgjllmecjkbjacGreat
/-
  MachineShut: the walk.
-/
namespace Go.Proofs.YtlgjllmecjkbjacGreat
open Go.RowKit
set_option maxRecDepth 10000 in
set_option maxHeartbeats 4000000 in
theorem mshut_row {m : Mc} {l : List Hp} {cs : Array Value} {v : Value} {w : World} (hm : IsM w m cs) (hl : Hps w v l) : Calls Tryz.prog 8 #[.agg cs, v] w fun e w' => e = .returned (.bool true) ∧ Below w.heap.size w w' := by
  have HL : Hid (Hps w v l) := hl
  obtain ⟨va, vk, rfl⟩ := hl.shape
  have HM : Hid (IsM w m cs) := hm
  obtain ⟨a1, n1, c1, a2, n2, c2, a3, n3, c3, rfl, h1, h2, h3⟩ := hm
  clear hl h1 h2 h3
  have X0 := Box.newAt (w := w) (n := w.heap.size) rfl 33 #[.slice a1 n1 c1, .int .i64 m.h.pc, .slice a2 n2 c2, .bool m.h.done, .int .i64 m.b.mode, .int .i64 m.b.base, .slice a3 n3 c3, .int .i64 m.b.op, .int .i64 m.b.oh, .int .i64 m.b.ot, .bool m.b.stop, .int .i64 m.b.fen, .int .i64 m.b.fp, .int .i64 m.b.fh, .int .i64 m.b.ft, .bool m.b.lost]
  have BW0 : Hid (Below w.heap.size w (w.alloc (.cells #[.slice a1 n1 c1, .int .i64 m.h.pc, .slice a2 n2 c2, .bool m.h.done, .int .i64 m.b.mode, .int .i64 m.b.base, .slice a3 n3 c3, .int .i64 m.b.op, .int .i64 m.b.oh, .int .i64 m.b.ot, .bool m.b.stop, .int .i64 m.b.fen, .int .i64 m.b.fp, .int .i64 m.b.fh, .int .i64 m.b.ft, .bool m.b.lost] 33))) := bel_alloc (Below.refl w.heap.size w) _
  go_enter Tryz.func8, Tryz.ntmps8
  obtain ⟨⟨i0, i1, i2, i3⟩, ⟨j0, j1, j2, j3, j4, j5, j6, j7, j8, j9, j10, j11⟩, s0⟩ := X0.sixteen
  have mk := X0.marksOf
  go_upto_region 2 with fail
  have X0 : Box (w.alloc (.cells #[.slice a1 n1 c1, .int .i64 m.h.pc, .slice a2 n2 c2, .bool m.h.done, .int .i64 0, .int .i64 m.b.base, .slice a3 n3 c3, .int .i64 m.b.op, .int .i64 m.b.oh, .int .i64 m.b.ot, .bool m.b.stop, .int .i64 m.b.fen, .int .i64 m.b.fp, .int .i64 m.b.fh, .int .i64 m.b.ft, .bool m.b.lost] 33)) w.heap.size 33 #[.slice a1 n1 c1, .int .i64 m.h.pc, .slice a2 n2 c2, .bool m.h.done, .int .i64 0, .int .i64 m.b.base, .slice a3 n3 c3, .int .i64 m.b.op, .int .i64 m.b.oh, .int .i64 m.b.ot, .bool m.b.stop, .int .i64 m.b.fen, .int .i64 m.b.fp, .int .i64 m.b.fh, .int .i64 m.b.ft, .bool m.b.lost] := Box.newAt rfl _ _
  have BW : Hid (Below w.heap.size w (w.alloc (.cells #[.slice a1 n1 c1, .int .i64 m.h.pc, .slice a2 n2 c2, .bool m.h.done, .int .i64 0, .int .i64 m.b.base, .slice a3 n3 c3, .int .i64 m.b.op, .int .i64 m.b.oh, .int .i64 m.b.ot, .bool m.b.stop, .int .i64 m.b.fen, .int .i64 m.b.fp, .int .i64 m.b.fh, .int .i64 m.b.ft, .bool m.b.lost] 33))) := bel_alloc (Below.refl w.heap.size w) _
  have M0 : IsM (w.alloc (.cells #[.slice a1 n1 c1, .int .i64 m.h.pc, .slice a2 n2 c2, .bool m.h.done, .int .i64 0, .int .i64 m.b.base, .slice a3 n3 c3, .int .i64 m.b.op, .int .i64 m.b.oh, .int .i64 m.b.ot, .bool m.b.stop, .int .i64 m.b.fen, .int .i64 m.b.fp, .int .i64 m.b.fh, .int .i64 m.b.ft, .bool m.b.lost] 33)) (offMc m) #[.slice a1 n1 c1, .int .i64 m.h.pc, .slice a2 n2 c2, .bool m.h.done, .int .i64 0, .int .i64 m.b.base, .slice a3 n3 c3, .int .i64 m.b.op, .int .i64 m.b.oh, .int .i64 m.b.ot, .bool m.b.stop, .int .i64 m.b.fen, .int .i64 m.b.fp, .int .i64 m.b.fh, .int .i64 m.b.ft, .bool m.b.lost] := (HM.out.keep BW.out).off
  clear mk BW0
  clear i0 i1 i2 i3 j0 j1 j2 j3 j4 j5 j6 j7 j8 j9 j10 j11 s0
  generalize (w.alloc (.cells #[.slice a1 n1 c1, .int .i64 m.h.pc, .slice a2 n2 c2, .bool m.h.done, .int .i64 0, .int .i64 m.b.base, .slice a3 n3 c3, .int .i64 m.b.op, .int .i64 m.b.oh, .int .i64 m.b.ot, .bool m.b.stop, .int .i64 m.b.fen, .int .i64 m.b.fp, .int .i64 m.b.fh, .int .i64 m.b.ft, .bool m.b.lost] 33)) = W at *
  obtain ⟨⟨i0, i1, i2, i3⟩, ⟨j0, j1, j2, j3, j4, j5, j6, j7, j8, j9, j10, j11⟩, s0⟩ := X0.sixteen
  go_wp2_with fail
  refine (driven_true _).mono ?_
  rintro e w1 ⟨rfl, b1⟩
  clear i0 i1 i2 i3 j0 j1 j2 j3 j4 j5 j6 j7 j8 j9 j10 j11 s0
  have X0 := X0.keep b1
  have M0 := M0.keep b1
  have B1 : Hid (Below w.heap.size w w1) := bel_trans BW.out b1
  clear b1 BW
  obtain ⟨⟨i0, i1, i2, i3⟩, ⟨j0, j1, j2, j3, j4, j5, j6, j7, j8, j9, j10, j11⟩, s0⟩ := X0.sixteen
  go_wp2_with fail
  refine (mCheck_row M0).mono ?_
  rintro e wB ⟨rfl, b2⟩
  clear i0 i1 i2 i3 j0 j1 j2 j3 j4 j5 j6 j7 j8 j9 j10 j11 s0
  have X0 := X0.keep b2
  have M0 := M0.keep b2
  have B2 : Hid (Below w.heap.size w wB) := bel_trans B1.out b2
  clear b2 B1
  by_cases hE : chkM (offMc m) = 0
  rotate_left
  · obtain ⟨z, hz⟩ : ∃ z, chkM (offMc m) = z := ⟨_, rfl⟩
    rw [hz] at hE ⊢
    have q : (z != 0) = true := by simpa using hE
    clear hz hE
    go_wp2_with fail
    refine (driven_true _).mono ?_
    rintro e w3 ⟨rfl, b3⟩
    go_wp2_with fail
    go_ret
    exact ⟨rfl, bel_trans B2.out b3⟩
  rw [hE]
  have q : ((0 : Int) != 0) = false := rfl
  go_upto_region 4 with fail
  clear q hE
  go_cut [24, 25, 26] from 20 to 23 (fun x y z wx => ∃ (q : Nat) (b : Option Addr) (c : Nat), x = .slice b q c ∧ y = .int .i64 q ∧ z = .int .i64 0 ∧ q ≤ l.length ∧ q ≤ 60 ∧ (q = 0 ∨ b = va) ∧ wx = wB)
  case first =>
    have hcc : l.length ≤ vk ∧ vk ≤ maxLen := by
      obtain ⟨a', c', e', q1, q2, -⟩ := HL.out
      simp only [Value.slice.injEq] at e'
      rw [e'.2.2]; exact ⟨q1, q2⟩
    obtain ⟨hc1, hc2⟩ := hcc
    unfold maxLen at hc2
    by_cases hl0 : l.length = 0
    · obtain rfl : l = [] := List.eq_nil_of_length_eq_zero hl0
      cases va with
      | none =>
        go_wp2
        go_meet
        exact ⟨0, _, _, rfl, rfl, rfl, Nat.zero_le _, by omega, .inl rfl, rfl⟩
      | some ad =>
        by_cases hc0 : vk = 0
        · subst hc0
          go_wp2
          go_meet
          exact ⟨0, _, _, rfl, rfl, rfl, Nat.zero_le _, by omega, .inl rfl, rfl⟩
        · go_wp2
          go_meet
          exact ⟨0, _, _, rfl, rfl, rfl, Nat.zero_le _, by omega, .inl rfl, rfl⟩
    · obtain ⟨b2, o2, hva, -⟩ := hps_at HL.out (Below.refl _ _) (i := 0) (by omega)
      subst hva
      have hc0 : ¬ vk = 0 := by omega
      by_cases h12 : l.length ≤ 60
      · have h12' : (l.length : Int) ≤ 60 := by omega
        have hcl : (l.length : Int) ≤ vk := by omega
        go_wp2
        go_meet
        exact ⟨l.length, _, _, rfl, rfl, rfl, Nat.le_refl _, h12, .inr rfl, rfl⟩
      · have h12' : ¬ (l.length : Int) ≤ 60 := by omega
        have h12'' : (60 : Int) < l.length := by omega
        have hcl : (60 : Int) ≤ vk := by omega
        go_wp2
        go_meet
        exact ⟨60, _, _, rfl, rfl, rfl, by omega, Nat.le_refl _, .inr rfl, rfl⟩
  case rest =>
    obtain ⟨q, b9, c9, rfl, rfl, rfl, hq, hq60, hqb, rfl⟩ := hcut
    obtain ⟨wA, rfl⟩ : ∃ wA, wA = wc := ⟨wc, rfl⟩
    obtain ⟨P, hPdef⟩ : ∃ P : Mc → Prop, P = fun k => k.b.mode = 0 := ⟨_, rfl⟩
    have HI : Hid (LpI P w.heap.size w wA) := ⟨⟨_, _, X0, M0, by rw [hPdef]; rfl⟩, B2.out⟩
    clear X0 M0 B2
    go_wp2
    go_loopw [6, 7, 8, 9, 26] (fun _ _ _ _ s wx => ∃ i : Nat, s = .int .i64 i ∧ i ≤ q ∧ LpI P w.heap.size w wx) (fun _ _ _ _ s _ => q - (intOf s).toNat)
    case atStart => exact ⟨0, rfl, Nat.zero_le _, HI.out⟩
    case round =>
      obtain ⟨i, rfl, hiq, hR⟩ := hrel
      clear HI
      by_cases hlt : i < q
      rotate_left
      · obtain rfl : i = q := by omega
        have HB : Hid (Below w.heap.size w wr) := hR.2
        clear hR
        go_wp2
        go_ret
        exact ⟨rfl, HB.out⟩
      obtain ⟨⟨cs0, now, X0, M0, hP⟩, hbel⟩ := hR
      have HB : Hid (Below w.heap.size w wr) := hbel
      have HP : Hid (P now) := hP
      clear hP hbel
      obtain ⟨hs0, ha0⟩ := M0.size
      obtain ⟨b, o, hva, hbl, hA⟩ := hps_at HL.out HB.out (i := i) (by omega)
      have hb9 : b9 = va := by
        rcases hqb with e | e
        · omega
        · exact e
      subst hb9
      subst hva
      obtain ⟨X, hX⟩ : ∃ X, hpth l i = X := ⟨_, rfl⟩
      rw [hX] at hA
      clear hX
      obtain ⟨u, q0, q1, q2, q3, q4, q5, q6, hS⟩ := hA
      have HSd : Hid (Sl wr u X.ds) := hS.1
      obtain ⟨da, dn, dc, rfl⟩ : ∃ a k c, u = .slice a k c := let ⟨a, c, e, _⟩ := hS.1; ⟨a, _, c, e⟩
      have hlt1 : (i : Int) < (q : Int) := by omega
      clear hS
      have s0 := X0.lt
      have X0a := X0.past (.cells #[.int .i64 X.kind, .int .i64 X.num, .int .i64 X.d, .int .i64 X.a, .int .i64 X.n, .bool X.wr, .slice da dn dc] 37)
      go_wp2_with (first
        | fail
        | (refine wpList_load_row rfl 33 (.tmp 2) rfl w.heap.size rfl _ _ _ _ X0a Tryz.underlying33 rfl (by rw [infoM, hs0]) ?_))
      have BX : Hid (Below wr.heap.size wr (wr.alloc (.cells #[.int .i64 X.kind, .int .i64 X.num, .int .i64 X.d, .int .i64 X.a, .int .i64 X.n, .bool X.wr, .slice da dn dc] 37))) := bel_alloc (Below.refl _ _) _
      have X6 : Box (wr.alloc (.cells #[.int .i64 X.kind, .int .i64 X.num, .int .i64 X.d, .int .i64 X.a, .int .i64 X.n, .bool X.wr, .slice da dn dc] 37)) wr.heap.size 37 #[.int .i64 X.kind, .int .i64 X.num, .int .i64 X.d, .int .i64 X.a, .int .i64 X.n, .bool X.wr, .slice da dn dc] := Box.newAt rfl _ _
      refine (mDo_row (m := now) (x := X) (M0.keep BX.out) ⟨_, _, _, rfl, HSd.out.keep BX.out⟩).mono ?_
      rintro e w4 ⟨cs1, cs2, rfl, hM, hT, o1, o2, b4⟩
      have X6 := X6.keep b4
      have B4 : Hid (Below wr.heap.size wr w4) := bel_trans BX.out b4
      have z6 : wr.heap.size < w4.heap.size := X6.lt
      obtain ⟨hs1, ha1⟩ := hM.size
      obtain ⟨⟨Y, T⟩, hYT⟩ : ∃ R, hpR now X = R := ⟨_, rfl⟩
      have HYT : Hid (hpR now X = (Y, T)) := hYT
      rw [hYT] at hM hT
      obtain ⟨a4, n4, c4, a5, n5, c5, rfl, hd4, ht5⟩ := hT
      dsimp only at hM hd4 ht5
      obtain ⟨E, hE⟩ : ∃ E, hpE now X = E := ⟨_, rfl⟩
      have HEE : Hid (hpE now X = E) := hE
      rw [hE]
      clear hE hYT b4 X0a q0 q1 q2 q3 q4 q5 q6
      obtain ⟨n7, hn7⟩ : ∃ n, w4.heap.size = n := ⟨_, rfl⟩
      obtain ⟨n8, hn8⟩ : ∃ n, n7 + 1 = n := ⟨_, rfl⟩
      have X7 : Box ((w4.alloc (.cells #[.slice none 0 0, .int .i64 0, .slice none 0 0, .bool false, .int .i64 0, .int .i64 0, .slice none 0 0, .int .i64 0, .int .i64 0, .int .i64 0, .bool false, .int .i64 0, .int .i64 0, .int .i64 0, .int .i64 0, .bool false] 33)).alloc (.cells #[.bool false, .slice none 0 0, .int .i64 0, .slice none 0 0] 40)) n7 33 zeroM := (Box.newAt hn7.symm _ _).past _
      have X8 : Box ((w4.alloc (.cells #[.slice none 0 0, .int .i64 0, .slice none 0 0, .bool false, .int .i64 0, .int .i64 0, .slice none 0 0, .int .i64 0, .int .i64 0, .int .i64 0, .bool false, .int .i64 0, .int .i64 0, .int .i64 0, .int .i64 0, .bool false] 33)).alloc (.cells #[.bool false, .slice none 0 0, .int .i64 0, .slice none 0 0] 40)) n8 40 zeroT := Box.newAt (by simp; omega) _ _
      have h78 : n7 ≠ n8 := by omega
      have X0 := ((((X0.keep B4.out).past (.cells #[.slice none 0 0, .int .i64 0, .slice none 0 0, .bool false, .int .i64 0, .int .i64 0, .slice none 0 0, .int .i64 0, .int .i64 0, .int .i64 0, .bool false, .int .i64 0, .int .i64 0, .int .i64 0, .int .i64 0, .bool false] 33)).past (.cells #[.bool false, .slice none 0 0, .int .i64 0, .slice none 0 0] 40)).otherRow (show w.heap.size ≠ n7 by omega) cs1).otherRow (show w.heap.size ≠ n8 by omega) #[.bool T.done, .slice a4 n4 c4, .int .i64 T.f, .slice a5 n5 c5]
      have X6 := (((X6.past (.cells #[.slice none 0 0, .int .i64 0, .slice none 0 0, .bool false, .int .i64 0, .int .i64 0, .slice none 0 0, .int .i64 0, .int .i64 0, .int .i64 0, .bool false, .int .i64 0, .int .i64 0, .int .i64 0, .int .i64 0, .bool false] 33)).past (.cells #[.bool false, .slice none 0 0, .int .i64 0, .slice none 0 0] 40)).otherRow (show wr.heap.size ≠ n7 by omega) cs1).otherRow (show wr.heap.size ≠ n8 by omega) #[.bool T.done, .slice a4 n4 c4, .int .i64 T.f, .slice a5 n5 c5]
      have B5 : Hid (Below wr.heap.size wr ((((w4.alloc (.cells #[.slice none 0 0, .int .i64 0, .slice none 0 0, .bool false, .int .i64 0, .int .i64 0, .slice none 0 0, .int .i64 0, .int .i64 0, .int .i64 0, .bool false, .int .i64 0, .int .i64 0, .int .i64 0, .int .i64 0, .bool false] 33)).alloc (.cells #[.bool false, .slice none 0 0, .int .i64 0, .slice none 0 0] 40)).setRow n7 cs1).setRow n8 #[.bool T.done, .slice a4 n4 c4, .int .i64 T.f, .slice a5 n5 c5])) := bel_setRow (by omega) (bel_setRow (by omega) (bel_alloc (bel_alloc B4.out _) _) _) _
      have K5B : Below w4.heap.size w4 ((((w4.alloc (.cells #[.slice none 0 0, .int .i64 0, .slice none 0 0, .bool false, .int .i64 0, .int .i64 0, .slice none 0 0, .int .i64 0, .int .i64 0, .int .i64 0, .bool false, .int .i64 0, .int .i64 0, .int .i64 0, .int .i64 0, .bool false] 33)).alloc (.cells #[.bool false, .slice none 0 0, .int .i64 0, .slice none 0 0] 40)).setRow n7 cs1).setRow n8 #[.bool T.done, .slice a4 n4 c4, .int .i64 T.f, .slice a5 n5 c5]) := bel_setRow (by omega) (bel_setRow (by omega) (bel_alloc (bel_alloc (Below.refl _ _) _) _) _) _
      have hM := hM.keep K5B
      have hd4 := hd4.keep K5B
      have ht5 := ht5.keep K5B
      have M0 := M0.keep B5.out
      have Z7 := X7
      have Z8 := X8.otherRow h78.symm cs1
      have X7 := (X7.setRow cs1).otherRow h78 #[.bool T.done, .slice a4 n4 c4, .int .i64 T.f, .slice a5 n5 c5]
      have X8 := Z8.setRow #[.bool T.done, .slice a4 n4 c4, .int .i64 T.f, .slice a5 n5 c5]
      have o1 := o1.less (a := fun q => q < wr.heap.size) (fun q hq => by simp; omega)
      have z07 : w.heap.size < n7 := by omega
      have z06 : w.heap.size < wr.heap.size := s0
      clear K5B
      go_upto_region 8 with (first
        | fail
        | (refine wpList_store_row rfl 33 (.tmp 7) (.tmp 34) rfl n7 cs1 rfl rfl _ _ Z7 (by rw [infoM, hs1]) (by rw [hs1]; rfl) ha1 ?_)
        | (refine wpList_store_row rfl 40 (.tmp 8) (.tmp 35) rfl n8 _ rfl rfl _ _ Z8 (by rw [infoTo]; rfl) rfl (by simp [Value.oneCell']) ?_))
      clear Z7 Z8 hn7 hn8 B4 BX
      generalize ((((w4.alloc (.cells #[.slice none 0 0, .int .i64 0, .slice none 0 0, .bool false, .int .i64 0, .int .i64 0, .slice none 0 0, .int .i64 0, .int .i64 0, .int .i64 0, .bool false, .int .i64 0, .int .i64 0, .int .i64 0, .int .i64 0, .bool false] 33)).alloc (.cells #[.bool false, .slice none 0 0, .int .i64 0, .slice none 0 0] 40)).setRow n7 cs1).setRow n8 #[.bool T.done, .slice a4 n4 c4, .int .i64 T.f, .slice a5 n5 c5]) = w5 at *
      have HBF : Hid (Below w.heap.size w w5) := bel_trans HB.out B5.out
      clear HB B5
      by_cases h0 : E = 0
      rotate_left
      · have q : (E != 0) = true := by simpa using h0
        have HI : Hid (LpI P w.heap.size w w5) := ⟨⟨cs0, now, X0, M0, HP.out⟩, HBF.out⟩
        clear h0 X0 X6 X7 X8 hM hd4 ht5 M0 hs0 ha0 hs1 ha1
        go_wp2_with fail
        exact ⟨⟨i + 1, by go_num, by omega, HI.out⟩, by simp [intOf]; omega⟩
      subst h0
      have K6 : KeptB (fun q => q = w.heap.size) w5 (w5.setRow (w.heap.size) cs1) := (KeptB.refl (fun q => q = w.heap.size) w5).setRow (n := w.heap.size) (.inl rfl) _
      have hM6 := hM.kept K6 o1 (fun q hq => by omega)
      have Y0 := X0.setRow cs1
      have K7 : KeptB (fun q => q = w.heap.size) (w5.setRow (w.heap.size) cs1) ((w5.setRow (w.heap.size) cs1).setCell ⟨w.heap.size, 4, none⟩ (.int .i64 0)) := (KeptB.refl (fun q => q = w.heap.size) _).setCell (p := ⟨w.heap.size, 4, none⟩) (.inl rfl) _
      have HI : Hid (LpI P w.heap.size w ((w5.setRow (w.heap.size) cs1).setCell ⟨w.heap.size, 4, none⟩ (.int .i64 0))) := ⟨⟨_, _, Y0.set 4 (.int .i64 0), (hM6.kept K7 o1 (fun q hq => by omega)).off, by rw [hPdef]; rfl⟩, bel_set (p := ⟨w.heap.size, 4, none⟩) (Nat.le_refl _) (bel_setRow (Nat.le_refl _) HBF.out _) _⟩
      have x4 : (w5.setRow (w.heap.size) cs1).cell? ⟨w.heap.size, 4, none⟩ = some (.int .i64 Y.b.mode) := (Y0.cell 4).trans hM6.mode
      have mk := Y0.marksOf
      have sY := Y0.lt
      have HSH : Hid (X.kind = 3 → T.tch = [] ∧ T.done = false ∧ T.f = 1) := fun hk => hp_shut HEE.out HYT.out (by have := HP.out; rw [hPdef] at this; exact this) hk
      obtain ⟨td, tdat, tf, ttch⟩ := T
      dsimp only at X8 hd4 ht5 HSH
      clear hM6 Y0 K6 K7 hM
      have hfin : ∀ hk : Bool, hk = decide (X.kind = 3) → True := fun _ _ => trivial
      clear hfin
      have q : ((0 : Int) != 0) = false := rfl
      by_cases hk : X.kind = 3
      · obtain ⟨rfl, rfl, rfl⟩ := HSH.out hk
        obtain ⟨a5', k5', h5', -⟩ := ht5
        simp only [Value.slice.injEq, List.length_nil] at h5'
        obtain ⟨-, rfl, -⟩ := h5'
        rw [hk] at X6
        obtain ⟨⟨k0, k1, k2, k3, k4, k5, k6⟩, sH⟩ := X6.seven
        obtain ⟨z0, z1, z2, z3, -, -, -, -, s8⟩ := X8.four
        clear X6 X8 hd4 hs0 ha0
        go_upto_region 11 with fail
        clear k0 k1 k2 k3 k4 k5 k6 sH z0 z1 z2 z3 s8 q
        go_wp2_with (first
          | fail
          | (refine wpList_load_row rfl 33 (.tmp 7) rfl n7 rfl _ _ _ _ X7 Tryz.underlying33 rfl (by rw [infoM, hs1]) ?_)
          | (refine wpList_store_row rfl 33 (.tmp 2) (.tmp 57) rfl (w.heap.size) cs1 rfl rfl _ _ X0 (by rw [infoM, hs1]) (by rw [hs1]; exact M0.size.1) ha1 ?_))
        exact ⟨⟨i + 1, by go_num, by omega, HI.out⟩, by simp [intOf]; omega⟩
      · have qk : (X.kind == 3) = false := by simpa using hk
        obtain ⟨⟨k0, k1, k2, k3, k4, k5, k6⟩, sH⟩ := X6.seven
        obtain ⟨z0, z1, z2, z3, -, -, -, -, s8⟩ := X8.four
        clear X6 X8 hd4 ht5 hs0 ha0
        go_upto_region 11 with fail
        clear k0 k1 k2 k3 k4 k5 k6 sH z0 z1 z2 z3 s8 q
        go_wp2_with (first
          | fail
          | (refine wpList_load_row rfl 33 (.tmp 7) rfl n7 rfl _ _ _ _ X7 Tryz.underlying33 rfl (by rw [infoM, hs1]) ?_)
          | (refine wpList_store_row rfl 33 (.tmp 2) (.tmp 57) rfl (w.heap.size) cs1 rfl rfl _ _ X0 (by rw [infoM, hs1]) (by rw [hs1]; exact M0.size.1) ha1 ?_))
        exact ⟨⟨i + 1, by go_num, by omega, HI.out⟩, by simp [intOf]; omega⟩
theorem mshut_walk (u : Value) (zs : List Int) (p : Int) (v : Value) (r : List Int) (d : Bool) (mo ba op oh ot fe fp fh ft : Int) (st lo : Bool) (vc : Value) (l : List Ln) (v1 : Value) (l1 : List Hp) (w : World) (hm : Sl w u zs ∧ Sl w v r ∧ Ls w vc l) (hl : Hps w v1 l1) :
    Calls Tryz.prog 8 #[.agg #[u, .int .i64 p, v, .bool d, .int .i64 mo, .int .i64 ba, vc, .int .i64 op, .int .i64 oh, .int .i64 ot, .bool st, .int .i64 fe, .int .i64 fp, .int .i64 fh, .int .i64 ft, .bool lo], v1] w fun e w' => e = .returned (.bool true) ∧ Below w.heap.size w w' := mshut_row (isM_any hm) hl
end Go.Proofs.YtlgjllmecjkbjacGreat
/-
  What the openers share.
-/
namespace Go.Proofs.YtlgjllmecjkbjacGreat
open Go.ChangeShapes Go.WideShapes Go.ChangeAt Go.RowKit
theorem law_own : ownKnob Tryz.prog.godebug = none := by kernel_rfl
theorem law_laidOut : laidOutB Tryz.prog = true := by kernel_rfl
theorem int_cells : Tryz.prog.cellsOf 3 = 1 := by kernel_rfl
theorem bool_cells : Tryz.prog.cellsOf 4 = 1 := by kernel_rfl
theorem array5 {cs : List Value} (h : cs.length = 5) : ∃ c0 c1 c2 c3 c4, cs = [c0, c1, c2, c3, c4] := by
  match cs, h with
  | [c0, c1, c2, c3, c4], _ => exact ⟨c0, c1, c2, c3, c4, rfl⟩
theorem array3 {cs : List Value} (h : cs.length = 3) : ∃ c0 c1 c2, cs = [c0, c1, c2] := by
  match cs, h with
  | [c0, c1, c2], _ => exact ⟨c0, c1, c2, rfl⟩
section
variable {H : Type} {enc : TypeId × Value → H} {W : World}
theorem cell_int {n : Nat} {c : Value} {y : Option (DataW H × List MemPlace)} (h : DataW.trod enc Tryz.prog W 0 (fun _ => true) true n 3 [c] = y) (hy : y ≠ none) : ∃ a, c = .int .i64 a := by
  cases y with
  | none => exact absurd rfl hy
  | some y =>
    obtain ⟨a, e, _⟩ := DataW.trod_int Tryz.underlying3 h
    exact ⟨a, by simpa using e⟩
theorem cell_bool {n : Nat} {c : Value} {y : Option (DataW H × List MemPlace)} (h : DataW.trod enc Tryz.prog W 0 (fun _ => true) true n 4 [c] = y) (hy : y ≠ none) : ∃ a, c = .bool a := by
  cases y with
  | none => exact absurd rfl hy
  | some y =>
    obtain ⟨a, e, _⟩ := DataW.trod_bool Tryz.underlying4 h
    exact ⟨a, by simpa using e⟩
end
end Go.Proofs.YtlgjllmecjkbjacGreat
/-
  A memory that comes in as an argument reads as a list of numbers (Sl).
-/
namespace Go.Proofs.YtlgjllmecjkbjacGreat
open Go.ChangeShapes Go.WideShapes Go.ChangeAt Go.RowKit
theorem mem_cells : Tryz.prog.cellsOf 24 = 1 := by kernel_rfl
theorem slice_cells : Tryz.prog.cellsOf 22 = 1 := by kernel_rfl
theorem open_row {H : Type} {enc : TypeId × Value → H} {W : World} {fuel : Nat} {c0 : Value} {x : DataW H × List MemPlace}
    (h : DataW.trod enc Tryz.prog W 0 (fun _ => true) true fuel 22 [c0] = some x) : ∃ zs, Sl W c0 zs := by
  rcases open_ints Tryz.underlying22 Tryz.underlying3 int_cells h with ⟨hcs, _⟩ | ⟨a, len, cap, zs, hcs, _, hl, hm, hz, _, hcell, _⟩
  · simp only [List.cons.injEq, and_true] at hcs
    subst hcs
    exact ⟨[], Sl.nil _ _ _⟩
  · simp only [List.cons.injEq, and_true] at hcs
    subst hcs
    simp only [if_true] at hz
    by_cases h0 : len = 0
    · subst h0
      exact ⟨[], Sl.nil _ _ _⟩
    · obtain ⟨b, off, spot⟩ := a
      have hc := hcell 0 (by omega)
      have hspot : spot = none := by simpa [Addr.add] using World.cell?_spot hc
      subst hspot
      have hlen : (zs.take len).length = len := by simp; omega
      refine ⟨zs.take len, _, cap, by rw [hlen], by omega, .inr ⟨b, off, rfl, ?_, fun i hi => ?_⟩⟩
      · have := World.block_lt_of_cell? W _ hc
        simpa [Addr.add] using this
      · have ha : Addr.add ⟨b, off, none⟩ i = ⟨b, off + i, none⟩ := by unfold Addr.add; split <;> simp_all
        have := hcell i (by omega)
        rw [ha] at this
        rw [this]
        have hi' : i < len := by omega
        simp [nth, hi']
end Go.Proofs.YtlgjllmecjkbjacGreat
/-
  A hart that comes in as an argument is written out.
-/
namespace Go.Proofs.YtlgjllmecjkbjacGreat
open Go.ChangeShapes Go.WideShapes Go.ChangeAt Go.RowKit
theorem hart_cells : Tryz.prog.cellsOf 26 = 3 := by kernel_rfl
section
variable {H : Type} {enc : TypeId × Value → H} {W : World}
end
end Go.Proofs.YtlgjllmecjkbjacGreat
/-
  An order that comes in as an argument is written out.
-/
namespace Go.Proofs.YtlgjllmecjkbjacGreat
open Go.ChangeShapes Go.WideShapes Go.ChangeAt Go.RowKit
section
variable {H : Type} {enc : TypeId × Value → H} {W : World}
end
end Go.Proofs.YtlgjllmecjkbjacGreat
