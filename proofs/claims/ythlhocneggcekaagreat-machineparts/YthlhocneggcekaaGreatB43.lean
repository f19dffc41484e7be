/-
  Laid together: DrivenMath, EqualE, MDriven, MWalkB, Open0, Open, OpenH, OpenL.
-/
import Derived.Test.YthlhocneggcekaaGreatB1
import Derived.Test.YthlhocneggcekaaGreatB2
import Derived.Test.YthlhocneggcekaaGreatB3
import Derived.Test.YthlhocneggcekaaGreatB4
import Derived.Test.YthlhocneggcekaaGreatB5
import Derived.Test.YthlhocneggcekaaGreatB6
import Derived.Test.YthlhocneggcekaaGreatB7
import Derived.Test.YthlhocneggcekaaGreatB8
import Derived.Test.YthlhocneggcekaaGreatB9
import Derived.Test.YthlhocneggcekaaGreatB10
import Derived.Test.YthlhocneggcekaaGreatB11
import Derived.Test.YthlhocneggcekaaGreatB12
import Derived.Test.YthlhocneggcekaaGreatB13
import Derived.Test.YthlhocneggcekaaGreatB14
import Derived.Test.YthlhocneggcekaaGreatB15
import Derived.Test.YthlhocneggcekaaGreatB16
import Derived.Test.YthlhocneggcekaaGreatB17
import Derived.Test.YthlhocneggcekaaGreatB18
import Derived.Test.YthlhocneggcekaaGreatB19
import Derived.Test.YthlhocneggcekaaGreatB20
import Derived.Test.YthlhocneggcekaaGreatB21
import Derived.Test.YthlhocneggcekaaGreatB22
import Derived.Test.YthlhocneggcekaaGreatB23
import Derived.Test.YthlhocneggcekaaGreatB24
import Derived.Test.YthlhocneggcekaaGreatB25
import Derived.Test.YthlhocneggcekaaGreatB26
import Derived.Test.YthlhocneggcekaaGreatB27
import Derived.Test.YthlhocneggcekaaGreatB28
import Derived.Test.YthlhocneggcekaaGreatB29
import Derived.Test.YthlhocneggcekaaGreatB30
import Derived.Test.YthlhocneggcekaaGreatB31
import Derived.Test.YthlhocneggcekaaGreatB32
import Derived.Test.YthlhocneggcekaaGreatB33
import Derived.Test.YthlhocneggcekaaGreatB34
import Derived.Test.YthlhocneggcekaaGreatB35
import Derived.Test.YthlhocneggcekaaGreatB36
import Derived.Test.YthlhocneggcekaaGreatB37
import Derived.Test.YthlhocneggcekaaGreatB38
import Derived.Test.YthlhocneggcekaaGreatB39
import Derived.Test.YthlhocneggcekaaGreatB40
import Derived.Test.YthlhocneggcekaaGreatB41
import Derived.Test.YthlhocneggcekaaGreatB42
import Derived.Deep.RegionHeld3
import Derived.Test.YthlhocneggcekaaGreatRows
import Derived.WalkKit
import Derived.WalkSpells
import Derived.WalkLawsBesides
import Derived.Below
import Derived.WalkSmall
import Derived.Deep.QuietTactic
import Derived.BigQuiet
import Derived.Deep.Draws
import Derived.Deep.AppendLies
import Derived.Deep.RegionWith
import Derived.LoopN
import Derived.Deep.CutRange
import Derived.Deep.DrawnRows
import Derived.Laws.CopyOwn
import Derived.Deep.RegionLaw
import Derived.Deep.RegionHeld
import Derived.Maps.OwnOps
import Derived.Maps.OwnSet
import Derived.Lib.AppendZerosOnto
import Derived.Lib.SliceRun
import Derived.ProofKit
import Derived.OpenShut
import Derived.ShutString
import Derived.ChangeOld
import Derived.Deep.Slices
namespace Go.Proofs.YthlhocneggcekaaGreat
open Go.RowKit
def dvn : List Int := ((((wth [9, 33, 10, 3, 16, 49, 24, 159, 25, 139] 5).set 100 4096).set 101 4632).set 102 20544).set 320 1
def dv0 : Mc := ⟨dvn, ⟨100, [0, 0, 0, 0, 0, 0, 0, 0], false⟩, ⟨2, 1, [], 40, 0, 1, false, 0, 41, 0, 0, false⟩⟩
def dvA : Hp := ⟨3, 0, 1, 1, 1, false, []⟩
def dvS : Hp := ⟨1, 0, 0, 0, 0, false, []⟩
def dvO : Hp := ⟨2, 0, 0, 0, 0, false, []⟩
def dvL : List Hp := [dvA, dvS, dvS, dvS, dvA, dvO, dvA, dvO]
theorem dv_len : dvn.length = 512 := by simp only [dvn, List.length_set]; exact wth_len _ _
theorem dv_good : chkM dv0 = 0 := by decide +kernel
theorem dv_said : (rnM dv0 dvL).2.2 = [0, 0, 0, 0, 0, 0, 0, 6] := by decide +kernel
theorem dv_told : ((rnM dv0 dvL).2.1.map (fun t => (t.done, t.f))) = [(true, 0), (false, 0), (false, 0), (false, 0), (true, 0), (false, 0), (false, 3), (false, 0)] := by decide +kernel
theorem dv_word : nth (rnM dv0 dvL).1.zs 328 = 11 := by decide +kernel
theorem dv_none : (rnM dv0 dvL).1.b.cache = [] := by decide +kernel
theorem equalE_any (v1 v2 : Value) (xs ys : List Int) (w : World) (h1 : Sl w v1 xs) (h2 : Sl w v2 ys) :
    Calls Tryz.prog 24 #[v1, v2] w fun e w' => e = .returned (.bool (decide (xs = ys))) ∧ ∃ n, w' = w.drewN n := by
  obtain ⟨a1, c1, rfl, l1, h1⟩ := h1
  obtain ⟨a2, c2, rfl, l2, h2⟩ := h2
  unfold maxLen at l1 l2
  by_cases hl : xs.length = ys.length
  · have hne : ((xs.length : Int) != (ys.length : Int)) = false := by simp [hl]
    rcases h1 with rfl | ⟨b1, o1, rfl, hb1, hc1⟩
    · obtain rfl : ys = [] := List.eq_nil_of_length_eq_zero hl.symm
      go_enter Tryz.func24, Tryz.ntmps24
      go_wp2
      go_loopw [5, 13] (fun _ i w' => i = J 0 ∧ w' = w) (fun _ i _ => 0)
      case atStart => exact ⟨rfl, rfl⟩
      case round =>
        obtain ⟨rfl, rfl⟩ := hrel
        go_wp2
        go_ret
        exact ⟨rfl, 0, rfl⟩
    · rcases h2 with rfl | ⟨b2, o2, rfl, hb2, hc2⟩
      · obtain rfl : xs = [] := List.eq_nil_of_length_eq_zero hl
        go_enter Tryz.func24, Tryz.ntmps24
        go_wp2
        go_loopw [5, 13] (fun _ i w' => i = J 0 ∧ w' = w) (fun _ i _ => 0)
        case atStart => exact ⟨rfl, rfl⟩
        case round =>
          obtain ⟨rfl, rfl⟩ := hrel
          go_wp2
          go_ret
          exact ⟨rfl, 0, rfl⟩
      have Hl : Hid (xs.length = ys.length) := hl
      have hle : (xs.length : Int) ≤ ys.length := by omega
      have H1 := hc1
      have H2 := hc2
      clear hl hc1 hc2
      have HC1 : Hid _ := H1
      have HC2 : Hid _ := H2
      clear H1 H2
      go_enter Tryz.func24, Tryz.ntmps24
      go_wp2
      go_loopw [5, 13] (fun _ i w' => ∃ k : Nat, k ≤ xs.length ∧ i = J k ∧ (∀ j, j < k → nth xs j = nth ys j) ∧ ∃ n, w' = w.drewN n) (fun _ i _ => xs.length - (intOf i).toNat)
      case atStart => exact ⟨0, Nat.zero_le _, rfl, fun j hj => absurd hj (Nat.not_lt_zero _), 0, rfl⟩
      case round =>
        obtain ⟨k, hk, rfl, hpre, n, rfl⟩ := hrel
        have HP : Hid (∀ j, j < k → nth xs j = nth ys j) := hpre
        clear hpre
        by_cases hlt : k < xs.length
        · have g1 := HC1.out k hlt
          have g2 := HC2.out k (by have := Hl.out; omega)
          have hlt1 : (k : Int) < xs.length := by omega
          have hlt2 : (k : Int) < ys.length := by omega
          by_cases hq : nth xs k = nth ys k
          · have hb : (nth xs k != nth ys k) = false := by simp [hq]
            have HQ : Hid (nth xs k = nth ys k) := hq
            clear hq
            go_wp2
            go_quiet (fail)
            go_wp2
            refine ⟨⟨k + 1, by omega, by go_num, fun j hj => ?_, _, rfl⟩, by simp [intOf]; omega⟩
            by_cases e : j = k
            · rw [e]; exact HQ.out
            · exact HP.out j (by omega)
          · have hb : (nth xs k != nth ys k) = true := by simp [hq]
            have HN : Hid (decide (xs = ys) = false) := by simpa [Hid] using ne_of_getD hq
            clear hq
            go_wp2
            go_quiet (fail)
            go_wp2
            go_ret
            exact ⟨ret_bool HN.out.symm, n + nq, World.drewN_drewN _ _ _⟩
        · have HD : Hid (decide (xs = ys) = true) := equal_done Hl.out hlt HP.out
          go_wp2
          go_ret
          exact ⟨ret_bool HD.out.symm, _, rfl⟩
  · have hne : ((xs.length : Int) != (ys.length : Int)) = true := by simp; omega
    have hd : decide (xs = ys) = false := by simp; intro e; exact hl (by rw [e])
    rw [hd]
    go_enter Tryz.func24, Tryz.ntmps24
    go_wp2
    go_ret
    exact ⟨rfl, 0, rfl⟩
theorem dvn_tab : (((tab.set 100 4096).set 101 4632).set 102 20544).set 320 1 = dvn := rfl
def dvRow : Array Value := #[J 3, J 0, J 1, J 1, J 1, .bool false, .slice none 0 0, J 1, J 0, J 0, J 0, J 0, .bool false, .slice none 0 0, J 1, J 0, J 0, J 0, J 0, .bool false, .slice none 0 0, J 1, J 0, J 0, J 0, J 0, .bool false, .slice none 0 0, J 3, J 0, J 1, J 1, J 1, .bool false, .slice none 0 0, J 2, J 0, J 0, J 0, J 0, .bool false, .slice none 0 0, J 3, J 0, J 1, J 1, J 1, .bool false, .slice none 0 0, J 2, J 0, J 0, J 0, J 0, .bool false, .slice none 0 0]
theorem dv_hps {w : World} {n : Nat} {t : TypeId} (h : Box w n t dvRow) : Hps w (.slice (some ⟨n, 0, none⟩) 8 8) dvL := by
  refine ⟨some ⟨n, 0, none⟩, 8, rfl, Nat.le_refl _, by decide, .inr ⟨n, 0, rfl, h.lt, fun i hi => ?_⟩⟩
  have hi8 : i < 8 := hi
  have hS : Slc w (.slice none 0 0) [] := ⟨Sl.nil _ none 0, none, 0, rfl, Nat.zero_le _, Nat.zero_le _⟩
  have hcase : i = 0 ∨ i = 1 ∨ i = 2 ∨ i = 3 ∨ i = 4 ∨ i = 5 ∨ i = 6 ∨ i = 7 := by omega
  rcases hcase with rfl | rfl | rfl | rfl | rfl | rfl | rfl | rfl
  all_goals exact ⟨.slice none 0 0, h.cell _, h.cell _, h.cell _, h.cell _, h.cell _, h.cell _, h.cell _, hS⟩
theorem dv_run : rnE dv0 dvL = 0 := rnE_ok dv_good (by decide)
def DrvA (g : Nat) (W : World) (s : Value) (wx : World) : Prop :=
  ∃ n4 k, s = .pointer (some ⟨n4, 0, none⟩) ∧ Box wx n4 33 #[.slice (some ⟨g, 0, none⟩) 512 512, J 100, .slice (some ⟨k, 0, none⟩) 8 8, .bool false, J 2, J 1, .slice none 0 0, J 40, J 0, J 1, .bool false, J 0, J 41, J 0, J 0, .bool false] ∧ Box wx k 3 zeroRegs ∧ W.heap.size ≤ n4 ∧ W.heap.size ≤ k ∧ Below W.heap.size W wx
set_option maxRecDepth 10000 in
set_option maxHeartbeats 4000000 in
theorem driven_true (w : World) : Calls Tryz.prog 13 #[] w fun e w' => e = .returned (.bool true) ∧ Below w.heap.size w w' := by
  go_enter Tryz.func13, Tryz.ntmps13
  go_wp2_with fail
  refine (tables_own _).mono ?_
  rintro e w1 ⟨g, rfl, hg1, hg, b1⟩
  have G1 : Box w1 g 3 (intCells tab) := hg1
  have gl := G1.lt
  go_upto_region 3 with fail
  have G1 : Box (((w1.alloc (.cells #[.slice (some ⟨g, 0, none⟩) 512 512] 24)).alloc (.cells #[J 2, J 1, .slice none 0 0, J 40, J 0, J 0, .bool false, J 0, J 41, J 0, J 0, .bool false] 31)).alloc (.cells #[J 3, J 0, J 1, J 1, J 1, .bool false, .slice none 0 0] 37)) g 3 (intCells tab) := ((G1.past _).past _).past _
  have X1 := ((Box.newAt (w := w1) (n := w1.heap.size) rfl 24 #[.slice (some ⟨g, 0, none⟩) 512 512]).past (.cells #[J 2, J 1, .slice none 0 0, J 40, J 0, J 0, .bool false, J 0, J 41, J 0, J 0, .bool false] 31)).past (.cells #[J 3, J 0, J 1, J 1, J 1, .bool false, .slice none 0 0] 37)
  have X2 := (Box.newAt (w := (w1.alloc (.cells #[.slice (some ⟨g, 0, none⟩) 512 512] 24))) (n := w1.heap.size + 1) (by simp) 31 #[J 2, J 1, .slice none 0 0, J 40, J 0, J 0, .bool false, J 0, J 41, J 0, J 0, .bool false]).past (.cells #[J 3, J 0, J 1, J 1, J 1, .bool false, .slice none 0 0] 37)
  have X3 := Box.newAt (w := ((w1.alloc (.cells #[.slice (some ⟨g, 0, none⟩) 512 512] 24)).alloc (.cells #[J 2, J 1, .slice none 0 0, J 40, J 0, J 0, .bool false, J 0, J 41, J 0, J 0, .bool false] 31))) (n := w1.heap.size + 1 + 1) (by simp) 37 #[J 3, J 0, J 1, J 1, J 1, .bool false, .slice none 0 0]
  have B1 : Hid (Below w.heap.size w (((w1.alloc (.cells #[.slice (some ⟨g, 0, none⟩) 512 512] 24)).alloc (.cells #[J 2, J 1, .slice none 0 0, J 40, J 0, J 0, .bool false, J 0, J 41, J 0, J 0, .bool false] 31)).alloc (.cells #[J 3, J 0, J 1, J 1, J 1, .bool false, .slice none 0 0] 37))) := bel_alloc (bel_alloc (bel_alloc b1 _) _) _
  have zA : w.heap.size ≤ w1.heap.size := b1.size
  clear b1 hg1
  generalize (((w1.alloc (.cells #[.slice (some ⟨g, 0, none⟩) 512 512] 24)).alloc (.cells #[J 2, J 1, .slice none 0 0, J 40, J 0, J 0, .bool false, J 0, J 41, J 0, J 0, .bool false] 31)).alloc (.cells #[J 3, J 0, J 1, J 1, J 1, .bool false, .slice none 0 0] 37)) = W at *
  generalize w1.heap.size = A at *
  have c100 : W.cell? ⟨g, 100, none⟩ = some (J (nth tab 100)) := (G1.cell 100).trans (intCells_at (by rw [tab_len]; decide))
  have c101 : W.cell? ⟨g, 101, none⟩ = some (J (nth tab 101)) := (G1.cell 101).trans (intCells_at (by rw [tab_len]; decide))
  have c102 : W.cell? ⟨g, 102, none⟩ = some (J (nth tab 102)) := (G1.cell 102).trans (intCells_at (by rw [tab_len]; decide))
  have c320 : W.cell? ⟨g, 320, none⟩ = some (J (nth tab 320)) := (G1.cell 320).trans (intCells_at (by rw [tab_len]; decide))
  have fz := G1.marksOf
  have gW := G1.lt
  have nA : ¬ g = A := by omega
  have nA1 : ¬ g = A + 1 := by omega
  have nB : ¬ A = g := by omega
  have nB1 : ¬ A + 1 = g := by omega
  obtain ⟨m0, -, s1⟩ := X1.one
  obtain ⟨⟨u0, u1, u2, u3, u4, u5, u6, u7, u8, u9, u10, u11⟩, s2⟩ := X2.twelve
  have fz2 := X2.marksOf
  go_upto_region 8 with fail
  clear c100 c101 c102 c320 fz m0 s1 u0 u1 u2 u3 u4 u5 u6 u7 u8 u9 u10 u11 s2 fz2
  have G2 : Box (((((W.setCell ⟨g, 100, none⟩ (J 4096)).setCell ⟨g, 101, none⟩ (J 4632)).setCell ⟨g, 102, none⟩ (J 20544)).setCell ⟨g, 320, none⟩ (J 1)).setCell ⟨A + 1, 5, none⟩ (J 1)) g 3 (intCells dvn) := by
    have q := ((((G1.set 100 (J 4096)).set 101 (J 4632)).set 102 (J 20544)).set 320 (J 1)).other (p := ⟨A + 1, 5, none⟩) (by dsimp only; omega) (J 1)
    rw [intCells_set, intCells_set, intCells_set, intCells_set, dvn_tab] at q
    exact q
  have K2 : KeptB (fun q => q = g ∨ q = A + 1) W (((((W.setCell ⟨g, 100, none⟩ (J 4096)).setCell ⟨g, 101, none⟩ (J 4632)).setCell ⟨g, 102, none⟩ (J 20544)).setCell ⟨g, 320, none⟩ (J 1)).setCell ⟨A + 1, 5, none⟩ (J 1)) := (((((KeptB.refl (fun q => q = g ∨ q = A + 1) W).setCell (p := ⟨g, 100, none⟩) (.inl (.inl rfl)) _).setCell (p := ⟨g, 101, none⟩) (.inl (.inl rfl)) _).setCell (p := ⟨g, 102, none⟩) (.inl (.inl rfl)) _).setCell (p := ⟨g, 320, none⟩) (.inl (.inl rfl)) _).setCell (p := ⟨A + 1, 5, none⟩) (.inl (.inr rfl)) _
  have Y1 := X1.kept K2 (by omega)
  have Y2 : Box (((((W.setCell ⟨g, 100, none⟩ (J 4096)).setCell ⟨g, 101, none⟩ (J 4632)).setCell ⟨g, 102, none⟩ (J 20544)).setCell ⟨g, 320, none⟩ (J 1)).setCell ⟨A + 1, 5, none⟩ (J 1)) (A + 1) 31 #[J 2, J 1, .slice none 0 0, J 40, J 0, J 1, .bool false, J 0, J 41, J 0, J 0, .bool false] := ((((X2.other (p := ⟨g, 100, none⟩) (by dsimp only; omega) (J 4096)).other (p := ⟨g, 101, none⟩) (by dsimp only; omega) (J 4632)).other (p := ⟨g, 102, none⟩) (by dsimp only; omega) (J 20544)).other (p := ⟨g, 320, none⟩) (by dsimp only; omega) (J 1)).set 5 (J 1)
  have Y3 := X3.kept K2 (by omega)
  have B2 : Hid (Below w.heap.size w (((((W.setCell ⟨g, 100, none⟩ (J 4096)).setCell ⟨g, 101, none⟩ (J 4632)).setCell ⟨g, 102, none⟩ (J 20544)).setCell ⟨g, 320, none⟩ (J 1)).setCell ⟨A + 1, 5, none⟩ (J 1))) := by
    show Below _ _ _
    (repeat (first | with_reducible exact B1.out | (with_reducible refine bel_set ?_ ?_ _; (focus (dsimp only; omega)))))
  have z8 : W.heap.size ≤ (((((W.setCell ⟨g, 100, none⟩ (J 4096)).setCell ⟨g, 101, none⟩ (J 4632)).setCell ⟨g, 102, none⟩ (J 20544)).setCell ⟨g, 320, none⟩ (J 1)).setCell ⟨A + 1, 5, none⟩ (J 1)).heap.size := K2.size
  have t2 : A + 1 + 1 < W.heap.size := X3.lt
  clear X1 X2 X3 G1 K2 B1
  generalize (((((W.setCell ⟨g, 100, none⟩ (J 4096)).setCell ⟨g, 101, none⟩ (J 4632)).setCell ⟨g, 102, none⟩ (J 20544)).setCell ⟨g, 320, none⟩ (J 1)).setCell ⟨A + 1, 5, none⟩ (J 1)) = V at *
  obtain ⟨m0, -, s1⟩ := Y1.one
  obtain ⟨⟨u0, u1, u2, u3, u4, u5, u6, u7, u8, u9, u10, u11⟩, s2⟩ := Y2.twelve
  have hm8 := make8
  go_cut [4] from 30 to 34 (fun s wx => DrvA g V s wx)
  case first =>
    refine wp_region_held_drew (S := fun w' => Below V.heap.size V w') (by kernel_rfl) (Below.drew (Below.refl _ _)) (fun hHeld => ?_)
    refine tkH 0 rfl (by kernel_rfl) (fun _ _ _ h => h) (by assumption) (by intro wz hSz; (try dsimp only at hSz); (obtain ⟨m0, -, s1⟩ := (Y1.keep hSz).one); go_simp; (try with_reducible rfl)) ?_
    simp only [nmz]
    refine tkH 3 rfl (by kernel_rfl) (fun _ _ _ h => h) (by assumption) (by intro wz hSz; (try dsimp only at hSz); (obtain ⟨⟨u0, u1, u2, u3, u4, u5, u6, u7, u8, u9, u10, u11⟩, s2⟩ := (Y2.keep hSz).twelve); go_simp; (try with_reducible rfl)) ?_
    simp only [nmz]
    refine wpHeld_twoL (i := 1) (j := 5) (by kernel_rfl) (by rfl) (by rfl) (fun K hK => ?_) (fun K hK => ?_)
    · go_simp
      refine hK.out _ _ (bel_alloc hHeld _) (fun hHeld2 => ?_)
      clear hK K hHeld
      have hHeld := hHeld2
      clear hHeld2
      refine tkH 2 rfl (by kernel_rfl) (fun _ _ _ h => h) (by assumption) (by intro wz hSz; (try dsimp only at hSz); go_simp; (try with_reducible rfl)) ?_
      simp only [nmz]
      refine tkH 4 rfl (by kernel_rfl) (fun _ _ _ h => h) (by assumption) (by intro wz hSz; (try dsimp only at hSz); go_simp; (try with_reducible rfl)) ?_
      simp only [nmz]
      refine wpHeld_oneL (i := 5) (by kernel_rfl) (by rfl) (fun K hK => ?_)
      go_simp
      refine hK.out _ _ (bel_alloc hHeld _) (fun hHeld2 => ?_)
      clear hK K hHeld
      have hHeld := hHeld2
      clear hHeld2
      refine wpHeld_oneL (i := 6) (by kernel_rfl) (by rfl) (fun K hK => ?_)
      refine step_store_row rfl 33 (.tmp 4) (.tmp 34) rfl (V.heap.size + 1) #[.slice (some ⟨g, 0, none⟩) 512 512, J 100, .slice (some ⟨V.heap.size, 0, none⟩) 8 8, .bool false, J 2, J 1, .slice none 0 0, J 40, J 0, J 1, .bool false, J 0, J 41, J 0, J 0, .bool false] rfl rfl _ _ (Box.newAt (by simp) _ _) (by rw [infoM]; rfl) rfl (by simp [Value.oneCell']) ?_
      refine hK.out _ _ (bel_setRow (by simp) hHeld _) (fun hHeld2 => ?_)
      clear hK K
      simp only [Act.put]
      refine wpAnyH_done (by kernel_rfl) ?_ _
      go_wp2_with fail
      go_meet
      exact ⟨V.heap.size + 1, V.heap.size, rfl, Box.setRow (Box.newAt (by simp) _ _) _, Box.otherRow (Box.past (Box.newAt (w := V.drew) rfl _ _) _) (show V.heap.size ≠ V.heap.size + 1 by omega) _, by omega, by omega, hHeld2⟩
    · go_simp
      refine hK.out _ _ (bel_alloc hHeld _) (fun hHeld2 => ?_)
      clear hK K hHeld
      have hHeld := hHeld2
      clear hHeld2
      refine wpHeld_oneL (i := 1) (by kernel_rfl) (by rfl) (fun K hK => ?_)
      go_simp
      refine hK.out _ _ (bel_alloc hHeld _) (fun hHeld2 => ?_)
      clear hK K hHeld
      have hHeld := hHeld2
      clear hHeld2
      refine tkH 2 rfl (by kernel_rfl) (fun _ _ _ h => h) (by assumption) (by intro wz hSz; (try dsimp only at hSz); go_simp; (try with_reducible rfl)) ?_
      simp only [nmz]
      refine tkH 4 rfl (by kernel_rfl) (fun _ _ _ h => h) (by assumption) (by intro wz hSz; (try dsimp only at hSz); go_simp; (try with_reducible rfl)) ?_
      simp only [nmz]
      refine wpHeld_oneL (i := 6) (by kernel_rfl) (by rfl) (fun K hK => ?_)
      refine step_store_row rfl 33 (.tmp 4) (.tmp 34) rfl (V.heap.size) #[.slice (some ⟨g, 0, none⟩) 512 512, J 100, .slice (some ⟨V.heap.size + 1, 0, none⟩) 8 8, .bool false, J 2, J 1, .slice none 0 0, J 40, J 0, J 1, .bool false, J 0, J 41, J 0, J 0, .bool false] rfl rfl _ _ (Box.past (Box.newAt (w := V.drew) rfl _ _) _) (by rw [infoM]; rfl) rfl (by simp [Value.oneCell']) ?_
      refine hK.out _ _ (bel_setRow (by simp) hHeld _) (fun hHeld2 => ?_)
      clear hK K
      simp only [Act.put]
      refine wpAnyH_done (by kernel_rfl) ?_ _
      go_wp2_with fail
      go_meet
      exact ⟨V.heap.size, V.heap.size + 1, rfl, Box.setRow (Box.past (Box.newAt (w := V.drew) rfl _ _) _) _, Box.otherRow (Box.newAt (by simp) _ _) (show V.heap.size + 1 ≠ V.heap.size by omega) _, by omega, by omega, hHeld2⟩
  case rest =>
    obtain ⟨n4, k, rfl, X4, XK, l4, lk, b4⟩ := hcut
    have G3 := G2.keep b4
    have Y3 := Y3.keep b4
    have B4 : Hid (Below w.heap.size w wc) := bel_trans B2.out b4
    clear m0 s1 u0 u1 u2 u3 u4 u5 u6 u7 u8 u9 u10 u11 s2 hm8 Y1 Y2 b4 B2 G2
    go_upto_region 10 with fail
    have X4 := X4.past (.cells #[J 1, J 0, J 0, J 0, J 0, .bool false, .slice none 0 0] 37)
    have XK := XK.past (.cells #[J 1, J 0, J 0, J 0, J 0, .bool false, .slice none 0 0] 37)
    have G3 := G3.past (.cells #[J 1, J 0, J 0, J 0, J 0, .bool false, .slice none 0 0] 37)
    have Y3 := Y3.past (.cells #[J 1, J 0, J 0, J 0, J 0, .bool false, .slice none 0 0] 37)
    have X5 : Box (wc.alloc (.cells #[J 1, J 0, J 0, J 0, J 0, .bool false, .slice none 0 0] 37)) wc.heap.size 37 #[J 1, J 0, J 0, J 0, J 0, .bool false, .slice none 0 0] := Box.newAt rfl _ _
    have B5 : Hid (Below w.heap.size w (wc.alloc (.cells #[J 1, J 0, J 0, J 0, J 0, .bool false, .slice none 0 0] 37))) := bel_alloc B4.out _
    have z5 : w.heap.size ≤ wc.heap.size := B4.out.size
    clear B4
    generalize (wc.alloc (.cells #[J 1, J 0, J 0, J 0, J 0, .bool false, .slice none 0 0] 37)) = wD at *
    generalize wc.heap.size = n5 at *
    obtain ⟨⟨i0, i1, i2, i3⟩, ⟨j0, j1, j2, j3, j4, j5, j6, j7, j8, j9, j10, j11⟩, s0⟩ := X4.sixteen
    obtain ⟨⟨k0, k1, k2, k3, k4, k5, k6⟩, sH⟩ := Y3.seven
    obtain ⟨⟨l0, l1, l2, l3, l4', l5, l6⟩, sI⟩ := X5.seven
    go_wp2_with fail
    clear i0 i1 i2 i3 j0 j1 j2 j3 j4 j5 j6 j7 j8 j9 j10 j11 s0 k0 k1 k2 k3 k4 k5 k6 sH l0 l1 l2 l3 l4' l5 l6 sI
    have BD : Hid (Below wD.heap.size wD (wD.alloc (.cells dvRow 37))) := bel_alloc (Below.refl _ _) _
    have hM : IsM (wD.alloc (.cells dvRow 37)) dv0 #[.slice (some ⟨g, 0, none⟩) 512 512, J 100, .slice (some ⟨k, 0, none⟩) 8 8, .bool false, J 2, J 1, .slice none 0 0, J 40, J 0, J 1, .bool false, J 0, J 41, J 0, J 0, .bool false] :=
      ⟨some ⟨g, 0, none⟩, 512, 512, some ⟨k, 0, none⟩, 8, 8, none, 0, 0, rfl, Sl.keep (sl_tab G3 dv_len) BD.out, Sl.keep (sl_block XK zeroRegs_list rfl (by decide)) BD.out, Ls.nothing _⟩
    have hX : Box (wD.alloc (.cells dvRow 37)) wD.heap.size 37 dvRow := Box.newAt rfl _ _
    refine (mRun_row (m := dv0) (l := dvL) hM (dv_hps hX)).mono ?_
    clear hM hX
    rintro e w7 ⟨cs1, a1, c1, a2, c2, rfl, hM, hT, hS, -, -, -, b7⟩
    have B7 : Hid (Below w.heap.size w w7) := bel_trans (bel_trans B5.out BD.out) b7
    clear b7 B5 BD X4 XK G3 Y3 X5
    have hw := dv_word
    have hno := dv_none
    have hsd := dv_said
    have htd := dv_told
    have hgd := rnM_good dvL dv0 dv_good
    rw [dv_run] at *
    rw [rnX_ok dv_run] at *
    obtain ⟨⟨⟨zs, ⟨p, r, d⟩, ⟨mo, ba, l, op, oh, ot, st, fe, fp, fh, ft, lo⟩⟩, ts, es⟩, hR⟩ : ∃ R, rnM dv0 dvL = R := ⟨_, rfl⟩
    rw [hR] at hM hT hS hw hno hsd htd hgd ⊢
    dsimp only at hM hT hS hw hno hsd htd hgd ⊢
    clear hR
    subst hsd
    subst hno
    have hz : zs.length = 512 := (chk_ok (chkM_ok hgd).1).1
    have hl8 : ts.length = 8 := by have := congrArg List.length htd; simpa using this
    rw [hl8] at hT ⊢
    obtain ⟨qs, hQ, hMn⟩ := hT
    have hq8 : qs.length = 8 := by rw [hMn.1, hl8]
    obtain ⟨tb, tq, ht0, htl, ht⟩ : ∃ tb tq, a1 = some ⟨tb, tq, none⟩ ∧ tb < w7.heap.size ∧ ∀ i, i < 8 → AtQ w7 tb (tq + i * 4) (qth qs i) := by
      obtain ⟨a', c', e', -, -, q⟩ := hQ
      simp only [Value.slice.injEq] at e'
      rcases q with q | ⟨b', o', q, q2, q3⟩
      · rw [q] at hq8; simp at hq8
      · exact ⟨b', o', by rw [e'.1, q], q2, fun i hi => q3 i (by omega)⟩
    subst ht0
    have hth : ∀ i, i < 8 → (toth ts i).done = ((ts.map (fun t => (t.done, t.f)))[i]?.getD (false, 0)).1 ∧ (toth ts i).f = ((ts.map (fun t => (t.done, t.f)))[i]?.getD (false, 0)).2 := fun i hi => by
      unfold toth
      rw [List.getElem?_map, List.getElem?_eq_getElem (by omega)]
      exact ⟨rfl, rfl⟩
    rw [htd] at hth
    have e0 := (ht 0 (by decide)).1
    have e4 := (ht 4 (by decide)).1
    have e6 := (ht 6 (by decide)).2.2.1
    rw [(hMn.2 0 (by omega)).done, (hth 0 (by decide)).1] at e0
    rw [(hMn.2 4 (by omega)).done, (hth 4 (by decide)).1] at e4
    rw [(hMn.2 6 (by omega)).f, (hth 6 (by decide)).2] at e6
    have e0 : w7.cell? ⟨tb, tq, none⟩ = some (.bool true) := e0
    have e4 : w7.cell? ⟨tb, tq + 16, none⟩ = some (.bool true) := e4
    have e6 : w7.cell? ⟨tb, tq + 26, none⟩ = some (J 3) := e6
    obtain ⟨b1, m1, e1, b2, m2, e2, b3, m3, e3, rfl, s1, s2, s3⟩ := hM
    dsimp only at s1 s2 s3
    obtain ⟨gb, go, gc, hsl, hgb, hgc⟩ := s1.open512 hz
    simp only [Value.slice.injEq] at hsl
    obtain ⟨rfl, rfl, rfl⟩ := hsl
    have c328 := hgc 328 (by decide)
    rw [hw] at c328
    obtain ⟨a3, k3, h3, -⟩ := s3
    simp only [Value.slice.injEq, List.length_nil] at h3
    obtain ⟨-, rfl, -⟩ := h3
    have HS : Hid (Sl w7 (.slice a2 8 c2) [0, 0, 0, 0, 0, 0, 0, 6]) := hS
    clear hS hQ hMn hth htd ht hgc hw hgd s2 s1
    have X6 := (Box.newAt (w := w7) (n := w7.heap.size) rfl 33 #[.slice (some ⟨gb, go, none⟩) 512 e1, J p, .slice b2 m2 e2, .bool d, J mo, J ba, .slice b3 0 e3, J op, J oh, J ot, .bool st, J fe, J fp, J fh, J ft, .bool lo]).past (.cells #[J 0, J 0, J 0, J 0, J 0, J 0, J 0, J 6] 41)
    have XE := Box.newAt (w := (w7.alloc (.cells #[.slice (some ⟨gb, go, none⟩) 512 e1, J p, .slice b2 m2 e2, .bool d, J mo, J ba, .slice b3 0 e3, J op, J oh, J ot, .bool st, J fe, J fp, J fh, J ft, .bool lo] 33))) (n := w7.heap.size + 1) (by simp) 41 #[J 0, J 0, J 0, J 0, J 0, J 0, J 0, J 6]
    have B9 : Hid (Below w7.heap.size w7 ((w7.alloc (.cells #[.slice (some ⟨gb, go, none⟩) 512 e1, J p, .slice b2 m2 e2, .bool d, J mo, J ba, .slice b3 0 e3, J op, J oh, J ot, .bool st, J fe, J fp, J fh, J ft, .bool lo] 33)).alloc (.cells #[J 0, J 0, J 0, J 0, J 0, J 0, J 0, J 6] 41))) := bel_alloc (bel_alloc (Below.refl _ _) _) _
    go_wp2_with fail
    refine (equalE_any _ _ [0, 0, 0, 0, 0, 0, 0, 6] [0, 0, 0, 0, 0, 0, 0, 6] _ (HS.out.keep B9.out) (sl_block XE rfl rfl (by decide))).mono ?_
    rw [show decide (([0, 0, 0, 0, 0, 0, 0, 6] : List Int) = [0, 0, 0, 0, 0, 0, 0, 6]) = true from by decide]
    rintro e w9 ⟨rfl, nz, rfl⟩
    have X6 := X6.drewN nz
    have BN : Hid (Below w7.heap.size w7 (((w7.alloc (.cells #[.slice (some ⟨gb, go, none⟩) 512 e1, J p, .slice b2 m2 e2, .bool d, J mo, J ba, .slice b3 0 e3, J op, J oh, J ot, .bool st, J fe, J fp, J fh, J ft, .bool lo] 33)).alloc (.cells #[J 0, J 0, J 0, J 0, J 0, J 0, J 0, J 6] 41)).drewN nz)) := bel_drewN B9.out nz
    have e0 := ((bcell BN.out).1 tb tq htl).trans e0
    have e4 := ((bcell BN.out).1 tb (tq + 16) htl).trans e4
    have e6 := ((bcell BN.out).1 tb (tq + 26) htl).trans e6
    have c328 := ((bcell BN.out).1 gb (go + 328) hgb).trans c328
    have BF : Hid (Below w.heap.size w (((w7.alloc (.cells #[.slice (some ⟨gb, go, none⟩) 512 e1, J p, .slice b2 m2 e2, .bool d, J mo, J ba, .slice b3 0 e3, J op, J oh, J ot, .bool st, J fe, J fp, J fh, J ft, .bool lo] 33)).alloc (.cells #[J 0, J 0, J 0, J 0, J 0, J 0, J 0, J 6] 41)).drewN nz)) := bel_trans B7.out BN.out
    have htl : tb < (((w7.alloc (.cells #[.slice (some ⟨gb, go, none⟩) 512 e1, J p, .slice b2 m2 e2, .bool d, J mo, J ba, .slice b3 0 e3, J op, J oh, J ot, .bool st, J fe, J fp, J fh, J ft, .bool lo] 33)).alloc (.cells #[J 0, J 0, J 0, J 0, J 0, J 0, J 0, J 6] 41)).drewN nz).heap.size := Nat.lt_of_lt_of_le htl BN.out.size
    have hgb : gb < (((w7.alloc (.cells #[.slice (some ⟨gb, go, none⟩) 512 e1, J p, .slice b2 m2 e2, .bool d, J mo, J ba, .slice b3 0 e3, J op, J oh, J ot, .bool st, J fe, J fp, J fh, J ft, .bool lo] 33)).alloc (.cells #[J 0, J 0, J 0, J 0, J 0, J 0, J 0, J 6] 41)).drewN nz).heap.size := Nat.lt_of_lt_of_le hgb BN.out.size
    clear XE HS B9 BN B7
    generalize ((w7.alloc (.cells #[.slice (some ⟨gb, go, none⟩) 512 e1, J p, .slice b2 m2 e2, .bool d, J mo, J ba, .slice b3 0 e3, J op, J oh, J ot, .bool st, J fe, J fp, J fh, J ft, .bool lo] 33)).alloc (.cells #[J 0, J 0, J 0, J 0, J 0, J 0, J 0, J 6] 41)).drewN nz = wF at *
    generalize w7.heap.size = n6 at *
    obtain ⟨⟨i0, i1, i2, i3⟩, ⟨j0, j1, j2, j3, j4, j5, j6, j7, j8, j9, j10, j11⟩, s0⟩ := X6.sixteen
    clear X6
    go_wp2
    go_ret
    exact ⟨rfl, BF.out⟩
theorem hps_at {w w' : World} {va : Option Addr} {vk : Nat} {l : List Hp} (h : Hps w (.slice va l.length vk) l) (hb : Below w.heap.size w w') {i : Nat} (hi : i < l.length) :
    ∃ b o, va = some ⟨b, o, none⟩ ∧ b < w'.heap.size ∧ AtHp w' b (o + i * 7) (hpth l i) := by
  obtain ⟨a', c', e', -, -, q⟩ := h
  simp only [Value.slice.injEq] at e'
  rcases q with q | ⟨b', o', q, q2, q3⟩
  · rw [q] at hi; simp at hi
  · exact ⟨b', o', by rw [e'.1, q], Nat.lt_of_lt_of_le q2 hb.size, (q3 i hi).keep hb q2⟩
end Go.Proofs.YthlhocneggcekaaGreat
namespace Go.Proofs.YthlhocneggcekaaGreat
open Go.ChangeShapes Go.WideShapes Go.ChangeAt Go.RowKit
theorem int_cells : Tryz.prog.cellsOf 3 = 1 := by kernel_rfl
theorem bool_cells : Tryz.prog.cellsOf 4 = 1 := by kernel_rfl
theorem array5 {cs : List Value} (h : cs.length = 5) : ∃ c0 c1 c2 c3 c4, cs = [c0, c1, c2, c3, c4] := by
  match cs, h with
  | [c0, c1, c2, c3, c4], _ => exact ⟨c0, c1, c2, c3, c4, rfl⟩
theorem array3 {cs : List Value} (h : cs.length = 3) : ∃ c0 c1 c2, cs = [c0, c1, c2] := by
  match cs, h with
  | [c0, c1, c2], _ => exact ⟨c0, c1, c2, rfl⟩
section
variable {H : Type} {enc : TypeId × Value → H} {W : World}
theorem cell_int {n : Nat} {c : Value} {y : Option (DataW H × List MemPlace)} (h : DataW.trod enc Tryz.prog W 0 (fun _ => true) true n 3 [c] = y) (hy : y ≠ none) : ∃ a, c = .int .i64 a := by
  cases y with
  | none => exact absurd rfl hy
  | some y =>
    obtain ⟨a, e, _⟩ := DataW.trod_int Tryz.underlying3 h
    exact ⟨a, by simpa using e⟩
theorem cell_bool {n : Nat} {c : Value} {y : Option (DataW H × List MemPlace)} (h : DataW.trod enc Tryz.prog W 0 (fun _ => true) true n 4 [c] = y) (hy : y ≠ none) : ∃ a, c = .bool a := by
  cases y with
  | none => exact absurd rfl hy
  | some y =>
    obtain ⟨a, e, _⟩ := DataW.trod_bool Tryz.underlying4 h
    exact ⟨a, by simpa using e⟩
end
end Go.Proofs.YthlhocneggcekaaGreat
namespace Go.Proofs.YthlhocneggcekaaGreat
open Go.ChangeShapes Go.WideShapes Go.ChangeAt Go.RowKit
theorem mem_cells : Tryz.prog.cellsOf 24 = 1 := by kernel_rfl
theorem slice_cells : Tryz.prog.cellsOf 22 = 1 := by kernel_rfl
theorem open_row {H : Type} {enc : TypeId × Value → H} {W : World} {fuel : Nat} {c0 : Value} {x : DataW H × List MemPlace}
    (h : DataW.trod enc Tryz.prog W 0 (fun _ => true) true fuel 22 [c0] = some x) : ∃ zs, Sl W c0 zs := by
  rcases open_ints Tryz.underlying22 Tryz.underlying3 int_cells h with ⟨hcs, _⟩ | ⟨a, len, cap, zs, hcs, _, hl, hm, hz, _, hcell, _⟩
  · simp only [List.cons.injEq, and_true] at hcs
    subst hcs
    exact ⟨[], Sl.nil _ _ _⟩
  · simp only [List.cons.injEq, and_true] at hcs
    subst hcs
    simp only [if_true] at hz
    by_cases h0 : len = 0
    · subst h0
      exact ⟨[], Sl.nil _ _ _⟩
    · obtain ⟨b, off, spot⟩ := a
      have hc := hcell 0 (by omega)
      have hspot : spot = none := by simpa [Addr.add] using World.cell?_spot hc
      subst hspot
      have hlen : (zs.take len).length = len := by simp; omega
      refine ⟨zs.take len, _, cap, by rw [hlen], by omega, .inr ⟨b, off, rfl, ?_, fun i hi => ?_⟩⟩
      · have := World.block_lt_of_cell? W _ hc
        simpa [Addr.add] using this
      · have ha : Addr.add ⟨b, off, none⟩ i = ⟨b, off + i, none⟩ := by unfold Addr.add; split <;> simp_all
        have := hcell i (by omega)
        rw [ha] at this
        rw [this]
        have hi' : i < len := by omega
        simp [nth, hi']
end Go.Proofs.YthlhocneggcekaaGreat
namespace Go.Proofs.YthlhocneggcekaaGreat
open Go.ChangeShapes Go.WideShapes Go.ChangeAt Go.RowKit
theorem hart_cells : Tryz.prog.cellsOf 26 = 3 := by kernel_rfl
section
variable {H : Type} {enc : TypeId × Value → H} {W : World}
end
end Go.Proofs.YthlhocneggcekaaGreat
namespace Go.Proofs.YthlhocneggcekaaGreat
open Go.ChangeShapes Go.WideShapes Go.ChangeAt Go.RowKit
theorem line_cells : Tryz.prog.cellsOf 52 = 5 := by kernel_rfl
section
variable {H : Type} {enc : TypeId × Value → H} {W : World}
set_option maxRecDepth 100000 in
theorem line_open {fuel : Nat} {cs : List Value} {x : DataW H × List MemPlace} (h : DataW.trod enc Tryz.prog W 0 (fun _ => true) true fuel 52 cs = some x) :
    ∃ y : Ln, cs = [J y.1, J y.2.1, J y.2.2.1, .bool y.2.2.2.1, .bool y.2.2.2.2] := by
  obtain ⟨xs, n, _, _, hl, hlen, hf⟩ := DataW.trod_struct Tryz.underlying52 h
  rw [line_cells] at hl
  obtain ⟨c0, c1, c2, c3, c4, rfl⟩ := array5 hl
  have some_at : ∀ i, i < 5 → xs[i]? ≠ none := fun i hi => by
    rw [List.getElem?_eq_getElem (by rw [hlen]; exact hi)]; simp
  obtain ⟨a, rfl⟩ := cell_int (by simpa [int_cells] using hf 0 _ rfl) (some_at 0 (by omega))
  obtain ⟨b, rfl⟩ := cell_int (by simpa [int_cells] using hf 1 _ rfl) (some_at 1 (by omega))
  obtain ⟨c, rfl⟩ := cell_int (by simpa [int_cells] using hf 2 _ rfl) (some_at 2 (by omega))
  obtain ⟨d, rfl⟩ := cell_bool (by simpa [bool_cells] using hf 3 _ rfl) (some_at 3 (by omega))
  obtain ⟨p, rfl⟩ := cell_bool (by simpa [bool_cells] using hf 4 _ rfl) (some_at 4 (by omega))
  exact ⟨(a, b, c, d, p), rfl⟩
theorem choose_len {P : Nat → Ln → Prop} : ∀ n, (∀ i, i < n → ∃ y, P i y) → ∃ l : List Ln, l.length = n ∧ ∀ i, i < n → P i (lth l i)
  | 0, _ => ⟨[], rfl, fun i hi => absurd hi (Nat.not_lt_zero _)⟩
  | n + 1, h => by
    obtain ⟨l, hl, hp⟩ := choose_len n fun i hi => h i (by omega)
    obtain ⟨y, hy⟩ := h n (by omega)
    refine ⟨l ++ [y], by simp [hl], fun i hi => ?_⟩
    by_cases e : i = n
    · subst e
      have : lth (l ++ [y]) i = y := by simp [lth, ← hl]
      rw [this]; exact hy
    · have : lth (l ++ [y]) i = lth l i := by
        have hi' : i < l.length := by omega
        simp [lth, List.getElem?_append_left hi']
      rw [this]; exact hp i (by omega)
set_option maxRecDepth 100000 in
theorem lines_row {fuel : Nat} {c0 : Value} {x : DataW H × List MemPlace} (h : DataW.trod enc Tryz.prog W 0 (fun _ => true) true fuel 27 [c0] = some x) : ∃ l, Ls W c0 l := by
  rcases Deep.open_slice Tryz.underlying27 h with ⟨hcs, _⟩ | ⟨a, len, cap, m, n, D, Pl, hcs, hb, hl, hm, hmm, _, hx⟩
  · simp only [List.cons.injEq, and_true] at hcs
    subst hcs
    exact ⟨[], Ls.nothing _⟩
  · simp only [List.cons.injEq, and_true] at hcs
    subst hcs
    simp only [if_true] at hmm
    rw [line_cells] at hx
    by_cases h0 : len = 0
    · subst h0
      exact ⟨[], Ls.nil _ _ _ hm⟩
    · obtain ⟨b, off, spot⟩ := a
      have each : ∀ i, i < len → ∃ y : Ln, ∀ j u, (j < 5 ∧ [J y.1, J y.2.1, J y.2.2.1, .bool y.2.2.2.1, .bool y.2.2.2.2][j]? = some u) → W.cell? ((⟨b, off, spot⟩ : Addr).add (i * 5 + j)) = some u := by
        intro i hi
        obtain ⟨cs', h1, h2⟩ := hx i (by omega)
        obtain ⟨y, rfl⟩ := line_open h2
        obtain ⟨_, _, hcell⟩ := World.cells?_some h1
        refine ⟨y, fun j u ⟨hj, hu⟩ => ?_⟩
        have := hcell j (by omega)
        rw [Deep.add_add, hu] at this
        exact this
      obtain ⟨l, hlen, hp⟩ := choose_len (P := fun i y => ∀ j u, (j < 5 ∧ [J y.1, J y.2.1, J y.2.2.1, .bool y.2.2.2.1, .bool y.2.2.2.2][j]? = some u) → W.cell? ((⟨b, off, spot⟩ : Addr).add (i * 5 + j)) = some u) len each
      have hc := hp 0 (by omega) 0 _ ⟨by omega, rfl⟩
      have hspot : spot = none := by simpa [Addr.add] using World.cell?_spot hc
      subst hspot
      have ha : ∀ i, Addr.add ⟨b, off, none⟩ i = ⟨b, off + i, none⟩ := fun i => by unfold Addr.add; split <;> simp_all
      refine ⟨l, _, cap, by rw [hlen], by omega, hm, .inr ⟨b, off, rfl, ?_, fun i hi => ?_⟩⟩
      · have := World.block_lt_of_cell? W _ hc
        simpa [Addr.add] using this
      · rw [hlen] at hi
        have hq := hp i hi
        refine ⟨?_, ?_, ?_, ?_, ?_⟩
        · have := hq 0 _ ⟨by omega, rfl⟩; rw [ha] at this; exact this
        · have := hq 1 _ ⟨by omega, rfl⟩; rw [ha, ← Nat.add_assoc] at this; exact this
        · have := hq 2 _ ⟨by omega, rfl⟩; rw [ha, ← Nat.add_assoc] at this; exact this
        · have := hq 3 _ ⟨by omega, rfl⟩; rw [ha, ← Nat.add_assoc] at this; exact this
        · have := hq 4 _ ⟨by omega, rfl⟩; rw [ha, ← Nat.add_assoc] at this; exact this
end
end Go.Proofs.YthlhocneggcekaaGreat
