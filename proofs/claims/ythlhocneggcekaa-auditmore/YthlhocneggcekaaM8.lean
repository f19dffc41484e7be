/-
  Laid together: Audited.
-/
import Derived.Test.YthlhocneggcekaaM1
import Derived.Test.YthlhocneggcekaaM2
import Derived.Test.YthlhocneggcekaaM3
import Derived.Test.YthlhocneggcekaaM4
import Derived.Test.YthlhocneggcekaaM5
import Derived.Test.YthlhocneggcekaaM6
import Derived.Test.YthlhocneggcekaaM7
import Derived.Deep.RegionHeld
import Derived.Deep.RegionHeld3
import Derived.LoopN
import Derived.Deep.CutRange
import Derived.Deep.AppendLies
import Derived.Laws.CopyOwn
import Derived.Deep.RegionWith
import Derived.Maps.OwnOps
import Derived.Maps.OwnSet
import Derived.Deep.DrawnRows
import Derived.Test.YthlhocneggcekaaRows
import Derived.WalkKit
import Derived.WalkSpells
import Derived.WalkLawsBesides
import Derived.Below
import Derived.WalkSmall
import Derived.Deep.QuietTactic
import Derived.BigQuiet
import Derived.Deep.Draws
namespace Go.Proofs.Ythlhocneggcekaa
open Go.RowKit
def AudA (g : Nat) (W : World) (s : Value) (wx : World) : Prop :=
  ∃ n3 k, s = .pointer (some ⟨n3, 0, none⟩) ∧ Box wx n3 39 #[.slice (some ⟨g, 0, none⟩) 512 512, .int .i64 0, .slice (some ⟨k, 0, none⟩) 8 8, .bool false, .int .i64 2, .int .i64 1, .slice none 0 0, .int .i64 40, .int .i64 0, .int .i64 0, .bool false, .int .i64 0, .int .i64 41, .int .i64 0, .int .i64 0, .bool false] ∧ Box wx k 3 zeroRegs ∧ W.heap.size ≤ n3 ∧ W.heap.size ≤ k ∧ Below W.heap.size W wx
theorem isM_au {w : World} {g k : Nat} {z : Int} (hg : Box w g 3 (intCells tab)) (hk : Box w k 3 zeroRegs) : IsM w ⟨tab, ⟨0, List.replicate 8 0, false⟩, ⟨z, 1, [], 40, 0, 0, false, 0, 41, 0, 0, false⟩⟩ #[.slice (some ⟨g, 0, none⟩) 512 512, .int .i64 0, .slice (some ⟨k, 0, none⟩) 8 8, .bool false, .int .i64 z, .int .i64 1, .slice none 0 0, .int .i64 40, .int .i64 0, .int .i64 0, .bool false, .int .i64 0, .int .i64 41, .int .i64 0, .int .i64 0, .bool false] :=
  ⟨some ⟨g, 0, none⟩, 512, 512, some ⟨k, 0, none⟩, 8, 8, none, 0, 0, rfl, sl_tab hg tab_len, sl_block hk zeroRegs_list rfl (by simp [maxLen]), Ls.nothing _⟩
set_option maxRecDepth 10000 in
set_option maxHeartbeats 4000000 in
theorem audited_true (w : World) : Calls Try.prog 8 #[] w fun e w' => e = .returned (.bool true) ∧ Below w.heap.size w w' := by
  go_enter Try.func8, Try.ntmps8
  go_wp2_with fail
  refine (tables_own _).mono ?_
  rintro e w1 ⟨g, rfl, hg1, hg, b1⟩
  have G1 : Box w1 g 3 (intCells tab) := hg1
  go_upto_region 2 with fail
  have G1 : Box ((w1.alloc (.cells #[.slice (some ⟨g, 0, none⟩) 512 512] 30)).alloc (.cells #[.int .i64 2, .int .i64 1, .slice none 0 0, .int .i64 40, .int .i64 0, .int .i64 0, .bool false, .int .i64 0, .int .i64 41, .int .i64 0, .int .i64 0, .bool false] 37)) g 3 (intCells tab) := (G1.past _).past _
  have X1 := (Box.newAt (w := w1) (n := w1.heap.size) rfl 30 #[.slice (some ⟨g, 0, none⟩) 512 512]).past (.cells #[.int .i64 2, .int .i64 1, .slice none 0 0, .int .i64 40, .int .i64 0, .int .i64 0, .bool false, .int .i64 0, .int .i64 41, .int .i64 0, .int .i64 0, .bool false] 37)
  have X2 : Box ((w1.alloc (.cells #[.slice (some ⟨g, 0, none⟩) 512 512] 30)).alloc (.cells #[.int .i64 2, .int .i64 1, .slice none 0 0, .int .i64 40, .int .i64 0, .int .i64 0, .bool false, .int .i64 0, .int .i64 41, .int .i64 0, .int .i64 0, .bool false] 37)) (w1.heap.size + 1) 37 #[.int .i64 2, .int .i64 1, .slice none 0 0, .int .i64 40, .int .i64 0, .int .i64 0, .bool false, .int .i64 0, .int .i64 41, .int .i64 0, .int .i64 0, .bool false] := Box.newAt (by simp) _ _
  have B1 : Hid (Below w.heap.size w ((w1.alloc (.cells #[.slice (some ⟨g, 0, none⟩) 512 512] 30)).alloc (.cells #[.int .i64 2, .int .i64 1, .slice none 0 0, .int .i64 40, .int .i64 0, .int .i64 0, .bool false, .int .i64 0, .int .i64 41, .int .i64 0, .int .i64 0, .bool false] 37))) := bel_alloc (bel_alloc b1 _) _
  clear b1 hg1
  generalize ((w1.alloc (.cells #[.slice (some ⟨g, 0, none⟩) 512 512] 30)).alloc (.cells #[.int .i64 2, .int .i64 1, .slice none 0 0, .int .i64 40, .int .i64 0, .int .i64 0, .bool false, .int .i64 0, .int .i64 41, .int .i64 0, .int .i64 0, .bool false] 37)) = V at *
  generalize w1.heap.size = A at *
  have hm8 := make8
  go_cut [3] from 14 to 18 (fun s wx => AudA g V s wx)
  case first =>
    refine wp_region_held_drew (S := fun w' => Below V.heap.size V w') (by kernel_rfl) (Below.drew (Below.refl _ _)) (fun hHeld => ?_)
    refine wpHeld_takeL (i := 0) (v := ?_) rfl (by kernel_rfl) (by kernel_rfl) (by kernel_rfl) (fun _ _ _ h => h) (Or.inl ⟨by kernel_rfl, ?_⟩) (by assumption) ?_
    rotate_left 1
    focus (intro wz hSz; (try dsimp only at hSz); (obtain ⟨m0, -, s1⟩ := (X1.keep hSz).one); go_simp; (try with_reducible rfl))
    simp only [Act.put, List.setIfInBounds_toArray, List.set_cons_zero, List.set_cons_succ]
    refine wpHeld_takeL (i := 3) (v := ?_) rfl (by kernel_rfl) (by kernel_rfl) (by kernel_rfl) (fun _ _ _ h => h) (Or.inl ⟨by kernel_rfl, ?_⟩) (by assumption) ?_
    rotate_left 1
    focus (intro wz hSz; (try dsimp only at hSz); (obtain ⟨⟨u0, u1, u2, u3, u4, u5, u6, u7, u8, u9, u10, u11⟩, s2⟩ := (X2.keep hSz).twelve); go_simp; (try with_reducible rfl))
    simp only [Act.put, List.setIfInBounds_toArray, List.set_cons_zero, List.set_cons_succ]
    refine wpHeld_twoL (i := 1) (j := 5) (by kernel_rfl) (by rfl) (by rfl) (fun K hK => ?_) (fun K hK => ?_)
    · go_simp
      refine hK.out _ _ (bel_alloc hHeld _) (fun hHeld2 => ?_)
      clear hK K hHeld
      have hHeld := hHeld2
      clear hHeld2
      refine wpHeld_takeL (i := 2) (v := ?_) rfl (by kernel_rfl) (by kernel_rfl) (by kernel_rfl) (fun _ _ _ h => h) (Or.inl ⟨by kernel_rfl, ?_⟩) (by assumption) ?_
      rotate_left 1
      focus (intro wz hSz; (try dsimp only at hSz); go_simp; (try with_reducible rfl))
      simp only [Act.put, List.setIfInBounds_toArray, List.set_cons_zero, List.set_cons_succ]
      refine wpHeld_takeL (i := 4) (v := ?_) rfl (by kernel_rfl) (by kernel_rfl) (by kernel_rfl) (fun _ _ _ h => h) (Or.inl ⟨by kernel_rfl, ?_⟩) (by assumption) ?_
      rotate_left 1
      focus (intro wz hSz; (try dsimp only at hSz); go_simp; (try with_reducible rfl))
      simp only [Act.put, List.setIfInBounds_toArray, List.set_cons_zero, List.set_cons_succ]
      refine wpHeld_oneL (i := 5) (by kernel_rfl) (by rfl) (fun K hK => ?_)
      go_simp
      refine hK.out _ _ (bel_alloc hHeld _) (fun hHeld2 => ?_)
      clear hK K hHeld
      have hHeld := hHeld2
      clear hHeld2
      refine wpHeld_oneL (i := 6) (by kernel_rfl) (by rfl) (fun K hK => ?_)
      refine step_store_row rfl 39 (.tmp 3) (.tmp 18) rfl (V.heap.size + 1) #[.slice (some ⟨g, 0, none⟩) 512 512, .int .i64 0, .slice (some ⟨V.heap.size, 0, none⟩) 8 8, .bool false, .int .i64 2, .int .i64 1, .slice none 0 0, .int .i64 40, .int .i64 0, .int .i64 0, .bool false, .int .i64 0, .int .i64 41, .int .i64 0, .int .i64 0, .bool false] rfl rfl _ _ (Box.newAt (by simp) _ _) (by rw [infoM]; rfl) rfl (by simp [Value.oneCell']) ?_
      refine hK.out _ _ (bel_setRow (by simp) hHeld _) (fun hHeld2 => ?_)
      clear hK K
      simp only [Act.put]
      refine wpAnyH_done (by kernel_rfl) ?_ _
      go_wp2_with fail
      go_meet
      exact ⟨V.heap.size + 1, V.heap.size, rfl, Box.setRow (Box.newAt (by simp) _ _) _, Box.otherRow (Box.past (Box.newAt (w := V.drew) rfl _ _) _) (show V.heap.size ≠ V.heap.size + 1 by omega) _, by omega, by omega, hHeld2⟩
    · go_simp
      refine hK.out _ _ (bel_alloc hHeld _) (fun hHeld2 => ?_)
      clear hK K hHeld
      have hHeld := hHeld2
      clear hHeld2
      refine wpHeld_oneL (i := 1) (by kernel_rfl) (by rfl) (fun K hK => ?_)
      go_simp
      refine hK.out _ _ (bel_alloc hHeld _) (fun hHeld2 => ?_)
      clear hK K hHeld
      have hHeld := hHeld2
      clear hHeld2
      refine wpHeld_takeL (i := 2) (v := ?_) rfl (by kernel_rfl) (by kernel_rfl) (by kernel_rfl) (fun _ _ _ h => h) (Or.inl ⟨by kernel_rfl, ?_⟩) (by assumption) ?_
      rotate_left 1
      focus (intro wz hSz; (try dsimp only at hSz); go_simp; (try with_reducible rfl))
      simp only [Act.put, List.setIfInBounds_toArray, List.set_cons_zero, List.set_cons_succ]
      refine wpHeld_takeL (i := 4) (v := ?_) rfl (by kernel_rfl) (by kernel_rfl) (by kernel_rfl) (fun _ _ _ h => h) (Or.inl ⟨by kernel_rfl, ?_⟩) (by assumption) ?_
      rotate_left 1
      focus (intro wz hSz; (try dsimp only at hSz); go_simp; (try with_reducible rfl))
      simp only [Act.put, List.setIfInBounds_toArray, List.set_cons_zero, List.set_cons_succ]
      refine wpHeld_oneL (i := 6) (by kernel_rfl) (by rfl) (fun K hK => ?_)
      refine step_store_row rfl 39 (.tmp 3) (.tmp 18) rfl (V.heap.size) #[.slice (some ⟨g, 0, none⟩) 512 512, .int .i64 0, .slice (some ⟨V.heap.size + 1, 0, none⟩) 8 8, .bool false, .int .i64 2, .int .i64 1, .slice none 0 0, .int .i64 40, .int .i64 0, .int .i64 0, .bool false, .int .i64 0, .int .i64 41, .int .i64 0, .int .i64 0, .bool false] rfl rfl _ _ (Box.past (Box.newAt (w := V.drew) rfl _ _) _) (by rw [infoM]; rfl) rfl (by simp [Value.oneCell']) ?_
      refine hK.out _ _ (bel_setRow (by simp) hHeld _) (fun hHeld2 => ?_)
      clear hK K
      simp only [Act.put]
      refine wpAnyH_done (by kernel_rfl) ?_ _
      go_wp2_with fail
      go_meet
      exact ⟨V.heap.size, V.heap.size + 1, rfl, Box.setRow (Box.past (Box.newAt (w := V.drew) rfl _ _) _) _, Box.otherRow (Box.newAt (by simp) _ _) (show V.heap.size + 1 ≠ V.heap.size by omega) _, by omega, by omega, hHeld2⟩
  case rest =>
    obtain ⟨n3, k, rfl, X3, XK, l3, lk, b3⟩ := hcut
    have G2 := G1.keep b3
    have B2 : Hid (Below w.heap.size w wc) := bel_trans B1.out b3
    clear X1 X2 G1 B1 hm8 b3
    obtain ⟨rX, hrX⟩ : ∃ r : Array Value, r = #[.slice (some ⟨g, 0, none⟩) 512 512, .int .i64 0, .slice (some ⟨k, 0, none⟩) 8 8, .bool false, .int .i64 2, .int .i64 1, .slice none 0 0, .int .i64 40, .int .i64 0, .int .i64 0, .bool false, .int .i64 0, .int .i64 41, .int .i64 0, .int .i64 0, .bool false] := ⟨_, rfl⟩
    rw [← hrX] at X3
    have hsX : rX.size = 16 := by rw [hrX]; rfl
    have haX : rX.all (·.oneCell') = true := by rw [hrX]; simp [Value.oneCell']
    have h4X : rX[4]? = some (.int .i64 2) := by rw [hrX]; rfl
    have HMX : Hid (∀ wz, Below wc.heap.size wc wz → IsM wz auX rX) := fun wz hz => by rw [hrX]; exact isM_au (G2.keep hz) (XK.keep hz)
    have HMY : Hid (∀ wz, Below wc.heap.size wc wz → IsM wz auY (rX.setIfInBounds 4 (.int .i64 0))) := fun wz hz => by rw [hrX]; exact isM_au (G2.keep hz) (XK.keep hz)
    clear hrX G2 XK
    obtain ⟨n4, hn4⟩ : ∃ n, wc.heap.size = n := ⟨_, rfl⟩
    have s3 := X3.lt
    have Z4 : Box (wc.alloc (.cells #[.slice none 0 0, .int .i64 0, .slice none 0 0, .bool false, .int .i64 0, .int .i64 0, .slice none 0 0, .int .i64 0, .int .i64 0, .int .i64 0, .bool false, .int .i64 0, .int .i64 0, .int .i64 0, .int .i64 0, .bool false] 39)) n4 39 #[.slice none 0 0, .int .i64 0, .slice none 0 0, .bool false, .int .i64 0, .int .i64 0, .slice none 0 0, .int .i64 0, .int .i64 0, .int .i64 0, .bool false, .int .i64 0, .int .i64 0, .int .i64 0, .int .i64 0, .bool false] := Box.newAt hn4.symm _ _
    have X3a := X3.past (.cells #[.slice none 0 0, .int .i64 0, .slice none 0 0, .bool false, .int .i64 0, .int .i64 0, .slice none 0 0, .int .i64 0, .int .i64 0, .int .i64 0, .bool false, .int .i64 0, .int .i64 0, .int .i64 0, .int .i64 0, .bool false] 39)
    have Y4 := Z4.setRow rX
    have x4 : ((wc.alloc (.cells #[.slice none 0 0, .int .i64 0, .slice none 0 0, .bool false, .int .i64 0, .int .i64 0, .slice none 0 0, .int .i64 0, .int .i64 0, .int .i64 0, .bool false, .int .i64 0, .int .i64 0, .int .i64 0, .int .i64 0, .bool false] 39)).setRow n4 rX).cell? ⟨n4, 4, none⟩ = some (.int .i64 2) := (Y4.cell 4).trans h4X
    have mk := Y4.marksOf
    have sY := Y4.lt
    have HI : (Try.prog.info? 39).map (·.size) = some rX.size := by rw [infoM, hsX]
    go_upto_region 6 with (first
      | fail
      | (refine wpList_load_row rfl 39 (.tmp 3) rfl n3 rfl _ _ _ _ X3 Try.underlying39 rfl HI ?_)
      | (refine wpList_store_row rfl 39 (.tmp 4) (.tmp 19) rfl n4 rX rfl rfl _ _ Z4 HI (by rw [hsX]; rfl) haX ?_))
    have n5e : (((wc.alloc (.cells #[.slice none 0 0, .int .i64 0, .slice none 0 0, .bool false, .int .i64 0, .int .i64 0, .slice none 0 0, .int .i64 0, .int .i64 0, .int .i64 0, .bool false, .int .i64 0, .int .i64 0, .int .i64 0, .int .i64 0, .bool false] 39)).setRow n4 rX).setCell ⟨n4, 4, none⟩ (.int .i64 0)).heap.size = n4 + 1 := by simp [World.setRow]; omega
    have X3 : Box ((((wc.alloc (.cells #[.slice none 0 0, .int .i64 0, .slice none 0 0, .bool false, .int .i64 0, .int .i64 0, .slice none 0 0, .int .i64 0, .int .i64 0, .int .i64 0, .bool false, .int .i64 0, .int .i64 0, .int .i64 0, .int .i64 0, .bool false] 39)).setRow n4 rX).setCell ⟨n4, 4, none⟩ (.int .i64 0)).alloc (.cells #[.int .i64 1, .int .i64 1, .int .i64 73, .bool true, .int .i64 0] 24)) n3 39 rX := ((X3a.otherRow (show n3 ≠ n4 by omega) rX).other (p := ⟨n4, 4, none⟩) (by dsimp only; omega) _).past _
    have X4 : Box ((((wc.alloc (.cells #[.slice none 0 0, .int .i64 0, .slice none 0 0, .bool false, .int .i64 0, .int .i64 0, .slice none 0 0, .int .i64 0, .int .i64 0, .int .i64 0, .bool false, .int .i64 0, .int .i64 0, .int .i64 0, .int .i64 0, .bool false] 39)).setRow n4 rX).setCell ⟨n4, 4, none⟩ (.int .i64 0)).alloc (.cells #[.int .i64 1, .int .i64 1, .int .i64 73, .bool true, .int .i64 0] 24)) n4 39 (rX.setIfInBounds 4 (.int .i64 0)) := (Y4.set 4 _).past _
    have X5 : Box ((((wc.alloc (.cells #[.slice none 0 0, .int .i64 0, .slice none 0 0, .bool false, .int .i64 0, .int .i64 0, .slice none 0 0, .int .i64 0, .int .i64 0, .int .i64 0, .bool false, .int .i64 0, .int .i64 0, .int .i64 0, .int .i64 0, .bool false] 39)).setRow n4 rX).setCell ⟨n4, 4, none⟩ (.int .i64 0)).alloc (.cells #[.int .i64 1, .int .i64 1, .int .i64 73, .bool true, .int .i64 0] 24)) (n4 + 1) 24 #[.int .i64 1, .int .i64 1, .int .i64 73, .bool true, .int .i64 0] := Box.newAt n5e.symm _ _
    have BC : Hid (Below wc.heap.size wc ((((wc.alloc (.cells #[.slice none 0 0, .int .i64 0, .slice none 0 0, .bool false, .int .i64 0, .int .i64 0, .slice none 0 0, .int .i64 0, .int .i64 0, .int .i64 0, .bool false, .int .i64 0, .int .i64 0, .int .i64 0, .int .i64 0, .bool false] 39)).setRow n4 rX).setCell ⟨n4, 4, none⟩ (.int .i64 0)).alloc (.cells #[.int .i64 1, .int .i64 1, .int .i64 73, .bool true, .int .i64 0] 24))) := bel_alloc (bel_set (p := ⟨n4, 4, none⟩) (by dsimp only; omega) (bel_setRow (by omega) (bel_alloc (Below.refl _ _) _) _) _) _
    have HZ : Hid ((((wc.alloc (.cells #[.slice none 0 0, .int .i64 0, .slice none 0 0, .bool false, .int .i64 0, .int .i64 0, .slice none 0 0, .int .i64 0, .int .i64 0, .int .i64 0, .bool false, .int .i64 0, .int .i64 0, .int .i64 0, .int .i64 0, .bool false] 39)).setRow n4 rX).setCell ⟨n4, 4, none⟩ (.int .i64 0)).heap.size = n4 + 1) := n5e
    clear Z4 X3a Y4 x4 mk sY h4X haX
    have HS4 : Hid (n4 = wc.heap.size) := hn4.symm
    clear n5e HZ hn4
    generalize ((((wc.alloc (.cells #[.slice none 0 0, .int .i64 0, .slice none 0 0, .bool false, .int .i64 0, .int .i64 0, .slice none 0 0, .int .i64 0, .int .i64 0, .int .i64 0, .bool false, .int .i64 0, .int .i64 0, .int .i64 0, .int .i64 0, .bool false] 39)).setRow n4 rX).setCell ⟨n4, 4, none⟩ (.int .i64 0)).alloc (.cells #[.int .i64 1, .int .i64 1, .int .i64 73, .bool true, .int .i64 0] 24)) = wD at *
    obtain ⟨rY, hrY⟩ : ∃ r, rX.setIfInBounds 4 (.int .i64 0) = r := ⟨_, rfl⟩
    rw [hrY] at X4 HMY
    have hsY : rY.size = 16 := by rw [← hrY]; simp [hsX]
    clear hrY
    have HJ : (Try.prog.info? 39).map (·.size) = some rY.size := by rw [infoM, hsY]
    have B2 : Hid (Below w.heap.size w wD) := bel_trans B2.out BC.out
    obtain ⟨t0, t1, t2, t3, t4⟩ := X5.blk.five
    have sT := X5.lt
    go_wp2_with (first
      | fail
      | (refine wpList_load_row rfl 39 (.tmp 3) rfl n3 rfl _ _ _ _ X3 Try.underlying39 rfl HI ?_)
      | (refine wpList_load_row rfl 39 (.tmp 4) rfl n4 rfl _ _ _ _ X4 Try.underlying39 rfl HJ ?_)
      | (refine wpList_built2 rfl (.tmp 24) (.tmp 25) rfl rfl rfl hsX hsY ?_))
    clear t0 t1 t2 t3 t4 sT
    have BD : Hid (Below wD.heap.size wD (wD.alloc (.cells (rX ++ rY) 39))) := bel_alloc (Below.refl _ _) _
    refine (fair_any (l := [auX, auY]) (ms_two (Box.newAt rfl 39 _) (HMX.out _ (bel_trans BC.out BD.out)) (HMY.out _ (bel_trans BC.out BD.out)))).mono ?_
    rintro e w7 ⟨z, rfl, h7, -, b7⟩
    obtain rfl := au_last2 (h7 au_two)
    rw [show frE [auX, auY] (1, 1, 73, true, 0) = 0 from au_two]
    have b7 := bel_trans BD.out b7
    have X4 := X4.keep b7
    have X5 := X5.keep b7
    have B7 : Hid (Below w.heap.size w w7) := bel_trans B2.out b7
    have BC : Hid (Below wc.heap.size wc w7) := bel_trans BC.out b7
    clear b7 BD h7 X3 B2
    obtain ⟨t0, t1, t2, t3, t4⟩ := X5.blk.five
    have sT := X5.lt
    go_wp2_with (first
      | fail
      | (refine wpList_load_row rfl 39 (.tmp 4) rfl n4 rfl _ _ _ _ X4 Try.underlying39 rfl HJ ?_)
      | (refine wpList_built1 rfl (.tmp 32) rfl rfl hsY ?_))
    clear t0 t1 t2 t3 t4 sT
    have BD : Hid (Below w7.heap.size w7 (w7.alloc (.cells rY 39))) := bel_alloc (Below.refl _ _) _
    refine (fair_any (l := [auY]) (ms_one (Box.newAt rfl 39 _) (HMY.out _ (bel_trans BC.out BD.out)))).mono ?_
    rintro e w8 ⟨z, rfl, h8, -, b8⟩
    obtain rfl := au_last1 (h8 au_one)
    rw [show frE [auY] (1, 1, 73, true, 0) = 0 from au_one]
    have b8 := bel_trans BD.out b8
    have X5 := X5.keep b8
    have B8 : Hid (Below w.heap.size w w8) := bel_trans B7.out b8
    clear b8 BD h8 B7 X4 BC HMX HMY
    obtain ⟨t0, t1, t2, t3, t4⟩ := X5.blk.five
    have sT := X5.lt
    go_wp2_with fail
    refine (aCheck_any 1 1 73 true 0 _).mono ?_
    rintro e w9 ⟨rfl, b9⟩
    rw [show ckT (1, 1, 73, true, 0) = 0 from auT_good]
    clear t0 t1 t2 t3 t4 sT X5
    go_wp2_with fail
    refine (aCheck_any 0 1 0 false 0 _).mono ?_
    rintro e w10 ⟨rfl, b10⟩
    rw [show ckT (0, 1, 0, false, 0) = 3 by decide]
    go_wp2_with fail
    go_ret
    exact ⟨rfl, bel_trans B8.out (bel_trans b9 b10)⟩
end Go.Proofs.Ythlhocneggcekaa
