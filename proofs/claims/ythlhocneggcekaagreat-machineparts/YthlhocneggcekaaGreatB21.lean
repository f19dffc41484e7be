/-
  Laid together: HSet.
-/
import Derived.Test.YthlhocneggcekaaGreatB1
import Derived.Test.YthlhocneggcekaaGreatB2
import Derived.Test.YthlhocneggcekaaGreatB3
import Derived.Test.YthlhocneggcekaaGreatB4
import Derived.Test.YthlhocneggcekaaGreatB5
import Derived.Test.YthlhocneggcekaaGreatB6
import Derived.Test.YthlhocneggcekaaGreatB7
import Derived.Test.YthlhocneggcekaaGreatB9
import Derived.Test.YthlhocneggcekaaGreatB10
import Derived.Test.YthlhocneggcekaaGreatB11
import Derived.Test.YthlhocneggcekaaGreatB13
import Derived.Test.YthlhocneggcekaaGreatB14
import Derived.Test.YthlhocneggcekaaGreatB20
import Derived.Deep.RegionHeld3
import Derived.Maps.OwnOps
import Derived.Maps.OwnSet
import Derived.Test.YthlhocneggcekaaGreatRows
import Derived.WalkKit
import Derived.WalkSpells
import Derived.WalkLawsBesides
import Derived.Below
import Derived.WalkSmall
import Derived.Deep.QuietTactic
import Derived.BigQuiet
import Derived.Deep.Draws
import Derived.Deep.AppendLies
import Derived.Deep.RegionWith
import Derived.LoopN
import Derived.Deep.CutRange
import Derived.Deep.DrawnRows
import Derived.Laws.CopyOwn
namespace Go.Proofs.YthlhocneggcekaaGreat
open Go.RowKit
theorem setB_iff {b : Br} (h : chkB b = 0) {i v : Int} (hv : 0 ≤ v) (hi : i = 0 ∨ i = 1 ∨ i = 2 ∨ i = 3 ∨ i = 5 ∨ i = 6) : (chkB (setB b i v) == 0) = decide (v ≤ mostB i) := by
  by_cases hm : v ≤ mostB i
  · rw [decide_eq_true hm, setB_good h hv hm]; rfl
  · rw [decide_eq_false hm]
    have : ¬ chkB (setB b i v) = 0 := by
      intro e
      obtain ⟨g1, g2, g3, g4, g5, g6⟩ := chkB_ok e
      obtain ⟨r1, r2, r3⟩ := chkR_ok g5
      obtain ⟨s1, s2, s3⟩ := chkR_ok g6
      have r1 := pageR_in r1
      have r3 := stepR_in r3
      have s1 := pageR_in s1
      have s2 := stepR_in s2
      rcases hi with rfl | rfl | rfl | rfl | rfl | rfl <;> simp [setB, mostB] at * <;> omega
    simpa using this
theorem box12N {N : Nat} {W w' : World} {n : Nat} {t : TypeId} {a0 a1 a2 a3 a4 a5 a6 a7 a8 a9 a10 a11 : Value} (h : Box W n t #[a0, a1, a2, a3, a4, a5, a6, a7, a8, a9, a10, a11]) (hn : n < N) (hb : Below N W w') :
    (w'.cell? ⟨n, 0, none⟩ = some a0 ∧ w'.cell? ⟨n, 1, none⟩ = some a1 ∧ w'.cell? ⟨n, 2, none⟩ = some a2 ∧ w'.cell? ⟨n, 3, none⟩ = some a3 ∧ w'.cell? ⟨n, 4, none⟩ = some a4 ∧ w'.cell? ⟨n, 5, none⟩ = some a5 ∧ w'.cell? ⟨n, 6, none⟩ = some a6 ∧ w'.cell? ⟨n, 7, none⟩ = some a7 ∧ w'.cell? ⟨n, 8, none⟩ = some a8 ∧ w'.cell? ⟨n, 9, none⟩ = some a9 ∧ w'.cell? ⟨n, 10, none⟩ = some a10 ∧ w'.cell? ⟨n, 11, none⟩ = some a11) ∧ Below N W w' :=
  ⟨(Box.twelve (show Box w' n t #[a0, a1, a2, a3, a4, a5, a6, a7, a8, a9, a10, a11] from (hb.block n hn).trans h)).1, hb⟩
theorem limb2 {A B : Prop} (h : A ∧ B) : B := h.2
abbrev SetOut (mo ba op oh ot fe fp fh ft : Int) (st lo : Bool) (vc : Value) (l : List Ln) (i v : Int) (w : World) (e : Ending) (w' : World) : Prop :=
  ∃ mo1 ba1 op1 oh1 ot1 fe1 fp1 fh1 ft1 st1 lo1 ca1 ck1 cc1, e = .returned (.tuple #[.agg #[J mo1, J ba1, .slice ca1 ck1 cc1, J op1, J oh1, J ot1, .bool st1, J fe1, J fp1, J fh1, J ft1, .bool lo1], .bool (decide (v ≤ mostB i))]) ∧
    (v ≤ mostB i → vc = .slice ca1 ck1 cc1 ∧ setB ⟨mo, ba, l, op, oh, ot, st, fe, fp, fh, ft, lo⟩ i v = ⟨mo1, ba1, l, op1, oh1, ot1, st1, fe1, fp1, fh1, ft1, lo1⟩) ∧ Below w.heap.size w w'
set_option maxRecDepth 10000 in
set_option maxHeartbeats 4000000 in
theorem set_0 (mo ba op oh ot fe fp fh ft : Int) (st lo : Bool) (vc : Value) (l : List Ln) (v : Int) (w : World) (h : Ls w vc l) (hb : chkB ⟨mo, ba, l, op, oh, ot, st, fe, fp, fh, ft, lo⟩ = 0) (hv : 0 ≤ v) :
    Calls Tryz.prog 171 #[.agg #[J mo, J ba, vc, J op, J oh, J ot, .bool st, J fe, J fp, J fh, J ft, .bool lo], J 0, J v] w fun e w' => SetOut mo ba op oh ot fe fp fh ft st lo vc l 0 v w e w' := by
  have HL : Hid (Ls w vc l) := h
  obtain ⟨ca, cc, rfl, -⟩ := h.shape
  obtain ⟨ck, hck⟩ : ∃ ck, ck = l.length := ⟨_, rfl⟩
  rw [← hck] at HL ⊢
  have HC : Hid ((chkB (setB ⟨mo, ba, l, op, oh, ot, st, fe, fp, fh, ft, lo⟩ 0 v) == 0) = decide (v ≤ mostB 0)) := setB_iff hb hv (by simp)
  have HS : Hid (setB ⟨mo, ba, l, op, oh, ot, st, fe, fp, fh, ft, lo⟩ 0 v = ⟨v, ba, l, op, oh, ot, st, fe, fp, fh, ft, lo⟩) := rfl
  obtain ⟨c, hc⟩ : ∃ c, chkB ⟨v, ba, l, op, oh, ot, st, fe, fp, fh, ft, lo⟩ = c := ⟨_, rfl⟩
  have HCC : Hid (chkB ⟨v, ba, l, op, oh, ot, st, fe, fp, fh, ft, lo⟩ = c) := hc
  obtain ⟨ok, hok⟩ : ∃ ok, (c == 0) = ok := ⟨_, rfl⟩
  have HOK : Hid (decide (v ≤ mostB 0) = ok) := by show _ = _; rw [← HC.out, HS.out, hc, hok]
  clear h hb hv hck hc HC
  go_enter Tryz.func171, Tryz.ntmps171
  have X0 := (Box.newAt (w := w) (n := w.heap.size) rfl 31 #[J v, J ba, .slice ca ck cc, J op, J oh, J ot, .bool st, J fe, J fp, J fh, J ft, .bool lo]).past (.cells #[J 0, J 0, .slice none 0 0, J 0, J 0, J 0, .bool false, J 0, J 0, J 0, J 0, .bool false] 31)
  have X1 := Box.newAt (w := w.alloc (.cells #[J v, J ba, .slice ca ck cc, J op, J oh, J ot, .bool st, J fe, J fp, J fh, J ft, .bool lo] 31)) (n := w.heap.size + 1) (by simp) 31 #[J 0, J 0, .slice none 0 0, J 0, J 0, J 0, .bool false, J 0, J 0, J 0, J 0, .bool false]
  have B0 : Hid (Below w.heap.size w _) := bel_alloc (bel_alloc (Below.refl w.heap.size w) (.cells #[J v, J ba, .slice ca ck cc, J op, J oh, J ot, .bool st, J fe, J fp, J fh, J ft, .bool lo] 31)) (.cells #[J 0, J 0, .slice none 0 0, J 0, J 0, J 0, .bool false, J 0, J 0, J 0, J 0, .bool false] 31)
  go_upto_region 18 with fail
  generalize ((w.alloc (.cells #[J v, J ba, .slice ca ck cc, J op, J oh, J ot, .bool st, J fe, J fp, J fh, J ft, .bool lo] 31)).alloc (.cells #[J 0, J 0, .slice none 0 0, J 0, J 0, J 0, .bool false, J 0, J 0, J 0, J 0, .bool false] 31)) = W at *
  have n0 : w.heap.size < w.heap.size + 1 := by omega
  have nW : w.heap.size + 1 ≤ W.heap.size := by have := X1.lt; omega
  have nV : w.heap.size ≤ w.heap.size + 1 := by omega
  obtain ⟨⟨d0, d1, d2, d3, d4, d5, d6, d7, d8, d9, d10, d11⟩, s0⟩ := X0.twelve
  go_region_held3 (fun w' => (w'.cell? ⟨w.heap.size, 0, none⟩ = some (J v) ∧ w'.cell? ⟨w.heap.size, 1, none⟩ = some (J ba) ∧ w'.cell? ⟨w.heap.size, 2, none⟩ = some (.slice ca ck cc) ∧ w'.cell? ⟨w.heap.size, 3, none⟩ = some (J op) ∧ w'.cell? ⟨w.heap.size, 4, none⟩ = some (J oh) ∧ w'.cell? ⟨w.heap.size, 5, none⟩ = some (J ot) ∧ w'.cell? ⟨w.heap.size, 6, none⟩ = some (.bool st) ∧ w'.cell? ⟨w.heap.size, 7, none⟩ = some (J fe) ∧ w'.cell? ⟨w.heap.size, 8, none⟩ = some (J fp) ∧ w'.cell? ⟨w.heap.size, 9, none⟩ = some (J fh) ∧ w'.cell? ⟨w.heap.size, 10, none⟩ = some (J ft) ∧ w'.cell? ⟨w.heap.size, 11, none⟩ = some (.bool lo)) ∧ Below (w.heap.size + 1) W w')
    (with_reducible refine box12N X0 n0 ?_; (repeat (first | with_reducible assumption | (with_reducible (refine limb2 (?_ : _ ∧ _); assumption)) | with_reducible exact Below.refl _ _ | with_reducible refine Below.drew ?_ | with_reducible refine below_drewN ?_ _ | (with_reducible refine belN_alloc nW ?_ _) | (with_reducible refine belN_set ?_ ?_ _; (focus (first | with_reducible exact Nat.le_refl _ | with_reducible exact Nat.le_succ _))) | (with_reducible refine belN_trans (by assumption) nW ?_))))
    (first
      | (go_at_call 43; refine (bCheck_any v ba op oh ot fe fp fh ft st lo _ l _ ?_).mono ?_; (focus (refine HL.out.keep (B0.out.trans (Below.mono ?_ nV)); (repeat (first | with_reducible assumption | (with_reducible (refine limb2 (?_ : _ ∧ _); assumption)) | with_reducible exact Below.refl _ _ | with_reducible refine Below.drew ?_ | with_reducible refine below_drewN ?_ _ | (with_reducible refine belN_alloc nW ?_ _) | (with_reducible refine belN_set ?_ ?_ _; (focus (first | with_reducible exact Nat.le_refl _ | with_reducible exact Nat.le_succ _))) | (with_reducible refine belN_trans (by assumption) nW ?_))))); rintro e w5 ⟨rfl, b5⟩; rw [HCC.out]; obtain ⟨⟨u0, u1, u2, u3, u4, u5, u6, u7, u8, u9, u10, u11⟩, s5⟩ := (X1.drew.keep b5).twelve; have f5 := (X1.drew.keep b5).marksAll))
  rename_i hH
  have hB := limb2 hH
  clear hH
  have HB : Hid (Below w.heap.size w _) := B0.out.trans (hB.mono nV)
  clear hB
  go_wp2
  refine bodyPost_ret (v := .tuple #[.agg #[J v, J ba, .slice ca ck cc, J op, J oh, J ot, .bool st, J fe, J fp, J fh, J ft, .bool lo], .bool ok]) (by simp [results, Tryz.results171, go_sem, *]) rfl ⟨_, _, _, _, _, _, _, _, _, _, _, _, _, _, by rw [HOK.out], fun _ => ⟨rfl, HS.out⟩, HB.out⟩
set_option maxRecDepth 10000 in
set_option maxHeartbeats 4000000 in
theorem set_1 (mo ba op oh ot fe fp fh ft : Int) (st lo : Bool) (vc : Value) (l : List Ln) (v : Int) (w : World) (h : Ls w vc l) (hb : chkB ⟨mo, ba, l, op, oh, ot, st, fe, fp, fh, ft, lo⟩ = 0) (hv : 0 ≤ v) :
    Calls Tryz.prog 171 #[.agg #[J mo, J ba, vc, J op, J oh, J ot, .bool st, J fe, J fp, J fh, J ft, .bool lo], J 1, J v] w fun e w' => SetOut mo ba op oh ot fe fp fh ft st lo vc l 1 v w e w' := by
  have HL : Hid (Ls w vc l) := h
  obtain ⟨ca, cc, rfl, -⟩ := h.shape
  obtain ⟨ck, hck⟩ : ∃ ck, ck = l.length := ⟨_, rfl⟩
  rw [← hck] at HL ⊢
  have HC : Hid ((chkB (setB ⟨mo, ba, l, op, oh, ot, st, fe, fp, fh, ft, lo⟩ 1 v) == 0) = decide (v ≤ mostB 1)) := setB_iff hb hv (by simp)
  have HS : Hid (setB ⟨mo, ba, l, op, oh, ot, st, fe, fp, fh, ft, lo⟩ 1 v = ⟨mo, v, l, op, oh, ot, st, fe, fp, fh, ft, lo⟩) := rfl
  obtain ⟨c, hc⟩ : ∃ c, chkB ⟨mo, v, l, op, oh, ot, st, fe, fp, fh, ft, lo⟩ = c := ⟨_, rfl⟩
  have HCC : Hid (chkB ⟨mo, v, l, op, oh, ot, st, fe, fp, fh, ft, lo⟩ = c) := hc
  obtain ⟨ok, hok⟩ : ∃ ok, (c == 0) = ok := ⟨_, rfl⟩
  have HOK : Hid (decide (v ≤ mostB 1) = ok) := by show _ = _; rw [← HC.out, HS.out, hc, hok]
  clear h hb hv hck hc HC
  go_enter Tryz.func171, Tryz.ntmps171
  have X0 := (Box.newAt (w := w) (n := w.heap.size) rfl 31 #[J mo, J v, .slice ca ck cc, J op, J oh, J ot, .bool st, J fe, J fp, J fh, J ft, .bool lo]).past (.cells #[J 0, J 0, .slice none 0 0, J 0, J 0, J 0, .bool false, J 0, J 0, J 0, J 0, .bool false] 31)
  have X1 := Box.newAt (w := w.alloc (.cells #[J mo, J v, .slice ca ck cc, J op, J oh, J ot, .bool st, J fe, J fp, J fh, J ft, .bool lo] 31)) (n := w.heap.size + 1) (by simp) 31 #[J 0, J 0, .slice none 0 0, J 0, J 0, J 0, .bool false, J 0, J 0, J 0, J 0, .bool false]
  have B0 : Hid (Below w.heap.size w _) := bel_alloc (bel_alloc (Below.refl w.heap.size w) (.cells #[J mo, J v, .slice ca ck cc, J op, J oh, J ot, .bool st, J fe, J fp, J fh, J ft, .bool lo] 31)) (.cells #[J 0, J 0, .slice none 0 0, J 0, J 0, J 0, .bool false, J 0, J 0, J 0, J 0, .bool false] 31)
  go_upto_region 18 with fail
  generalize ((w.alloc (.cells #[J mo, J v, .slice ca ck cc, J op, J oh, J ot, .bool st, J fe, J fp, J fh, J ft, .bool lo] 31)).alloc (.cells #[J 0, J 0, .slice none 0 0, J 0, J 0, J 0, .bool false, J 0, J 0, J 0, J 0, .bool false] 31)) = W at *
  have n0 : w.heap.size < w.heap.size + 1 := by omega
  have nW : w.heap.size + 1 ≤ W.heap.size := by have := X1.lt; omega
  have nV : w.heap.size ≤ w.heap.size + 1 := by omega
  obtain ⟨⟨d0, d1, d2, d3, d4, d5, d6, d7, d8, d9, d10, d11⟩, s0⟩ := X0.twelve
  go_region_held3 (fun w' => (w'.cell? ⟨w.heap.size, 0, none⟩ = some (J mo) ∧ w'.cell? ⟨w.heap.size, 1, none⟩ = some (J v) ∧ w'.cell? ⟨w.heap.size, 2, none⟩ = some (.slice ca ck cc) ∧ w'.cell? ⟨w.heap.size, 3, none⟩ = some (J op) ∧ w'.cell? ⟨w.heap.size, 4, none⟩ = some (J oh) ∧ w'.cell? ⟨w.heap.size, 5, none⟩ = some (J ot) ∧ w'.cell? ⟨w.heap.size, 6, none⟩ = some (.bool st) ∧ w'.cell? ⟨w.heap.size, 7, none⟩ = some (J fe) ∧ w'.cell? ⟨w.heap.size, 8, none⟩ = some (J fp) ∧ w'.cell? ⟨w.heap.size, 9, none⟩ = some (J fh) ∧ w'.cell? ⟨w.heap.size, 10, none⟩ = some (J ft) ∧ w'.cell? ⟨w.heap.size, 11, none⟩ = some (.bool lo)) ∧ Below (w.heap.size + 1) W w')
    (with_reducible refine box12N X0 n0 ?_; (repeat (first | with_reducible assumption | (with_reducible (refine limb2 (?_ : _ ∧ _); assumption)) | with_reducible exact Below.refl _ _ | with_reducible refine Below.drew ?_ | with_reducible refine below_drewN ?_ _ | (with_reducible refine belN_alloc nW ?_ _) | (with_reducible refine belN_set ?_ ?_ _; (focus (first | with_reducible exact Nat.le_refl _ | with_reducible exact Nat.le_succ _))) | (with_reducible refine belN_trans (by assumption) nW ?_))))
    (first
      | (go_at_call 43; refine (bCheck_any mo v op oh ot fe fp fh ft st lo _ l _ ?_).mono ?_; (focus (refine HL.out.keep (B0.out.trans (Below.mono ?_ nV)); (repeat (first | with_reducible assumption | (with_reducible (refine limb2 (?_ : _ ∧ _); assumption)) | with_reducible exact Below.refl _ _ | with_reducible refine Below.drew ?_ | with_reducible refine below_drewN ?_ _ | (with_reducible refine belN_alloc nW ?_ _) | (with_reducible refine belN_set ?_ ?_ _; (focus (first | with_reducible exact Nat.le_refl _ | with_reducible exact Nat.le_succ _))) | (with_reducible refine belN_trans (by assumption) nW ?_))))); rintro e w5 ⟨rfl, b5⟩; rw [HCC.out]; obtain ⟨⟨u0, u1, u2, u3, u4, u5, u6, u7, u8, u9, u10, u11⟩, s5⟩ := (X1.drew.keep b5).twelve; have f5 := (X1.drew.keep b5).marksAll))
  rename_i hH
  have hB := limb2 hH
  clear hH
  have HB : Hid (Below w.heap.size w _) := B0.out.trans (hB.mono nV)
  clear hB
  go_wp2
  refine bodyPost_ret (v := .tuple #[.agg #[J mo, J v, .slice ca ck cc, J op, J oh, J ot, .bool st, J fe, J fp, J fh, J ft, .bool lo], .bool ok]) (by simp [results, Tryz.results171, go_sem, *]) rfl ⟨_, _, _, _, _, _, _, _, _, _, _, _, _, _, by rw [HOK.out], fun _ => ⟨rfl, HS.out⟩, HB.out⟩
set_option maxRecDepth 10000 in
set_option maxHeartbeats 4000000 in
theorem set_2 (mo ba op oh ot fe fp fh ft : Int) (st lo : Bool) (vc : Value) (l : List Ln) (v : Int) (w : World) (h : Ls w vc l) (hb : chkB ⟨mo, ba, l, op, oh, ot, st, fe, fp, fh, ft, lo⟩ = 0) (hv : 0 ≤ v) :
    Calls Tryz.prog 171 #[.agg #[J mo, J ba, vc, J op, J oh, J ot, .bool st, J fe, J fp, J fh, J ft, .bool lo], J 2, J v] w fun e w' => SetOut mo ba op oh ot fe fp fh ft st lo vc l 2 v w e w' := by
  have HL : Hid (Ls w vc l) := h
  obtain ⟨ca, cc, rfl, -⟩ := h.shape
  obtain ⟨ck, hck⟩ : ∃ ck, ck = l.length := ⟨_, rfl⟩
  rw [← hck] at HL ⊢
  have HC : Hid ((chkB (setB ⟨mo, ba, l, op, oh, ot, st, fe, fp, fh, ft, lo⟩ 2 v) == 0) = decide (v ≤ mostB 2)) := setB_iff hb hv (by simp)
  have HS : Hid (setB ⟨mo, ba, l, op, oh, ot, st, fe, fp, fh, ft, lo⟩ 2 v = ⟨mo, ba, l, v, oh, ot, st, fe, fp, fh, ft, lo⟩) := rfl
  obtain ⟨c, hc⟩ : ∃ c, chkB ⟨mo, ba, l, v, oh, ot, st, fe, fp, fh, ft, lo⟩ = c := ⟨_, rfl⟩
  have HCC : Hid (chkB ⟨mo, ba, l, v, oh, ot, st, fe, fp, fh, ft, lo⟩ = c) := hc
  obtain ⟨ok, hok⟩ : ∃ ok, (c == 0) = ok := ⟨_, rfl⟩
  have HOK : Hid (decide (v ≤ mostB 2) = ok) := by show _ = _; rw [← HC.out, HS.out, hc, hok]
  clear h hb hv hck hc HC
  go_enter Tryz.func171, Tryz.ntmps171
  have X0 := (Box.newAt (w := w) (n := w.heap.size) rfl 31 #[J mo, J ba, .slice ca ck cc, J v, J oh, J ot, .bool st, J fe, J fp, J fh, J ft, .bool lo]).past (.cells #[J 0, J 0, .slice none 0 0, J 0, J 0, J 0, .bool false, J 0, J 0, J 0, J 0, .bool false] 31)
  have X1 := Box.newAt (w := w.alloc (.cells #[J mo, J ba, .slice ca ck cc, J v, J oh, J ot, .bool st, J fe, J fp, J fh, J ft, .bool lo] 31)) (n := w.heap.size + 1) (by simp) 31 #[J 0, J 0, .slice none 0 0, J 0, J 0, J 0, .bool false, J 0, J 0, J 0, J 0, .bool false]
  have B0 : Hid (Below w.heap.size w _) := bel_alloc (bel_alloc (Below.refl w.heap.size w) (.cells #[J mo, J ba, .slice ca ck cc, J v, J oh, J ot, .bool st, J fe, J fp, J fh, J ft, .bool lo] 31)) (.cells #[J 0, J 0, .slice none 0 0, J 0, J 0, J 0, .bool false, J 0, J 0, J 0, J 0, .bool false] 31)
  go_upto_region 18 with fail
  generalize ((w.alloc (.cells #[J mo, J ba, .slice ca ck cc, J v, J oh, J ot, .bool st, J fe, J fp, J fh, J ft, .bool lo] 31)).alloc (.cells #[J 0, J 0, .slice none 0 0, J 0, J 0, J 0, .bool false, J 0, J 0, J 0, J 0, .bool false] 31)) = W at *
  have n0 : w.heap.size < w.heap.size + 1 := by omega
  have nW : w.heap.size + 1 ≤ W.heap.size := by have := X1.lt; omega
  have nV : w.heap.size ≤ w.heap.size + 1 := by omega
  obtain ⟨⟨d0, d1, d2, d3, d4, d5, d6, d7, d8, d9, d10, d11⟩, s0⟩ := X0.twelve
  go_region_held3 (fun w' => (w'.cell? ⟨w.heap.size, 0, none⟩ = some (J mo) ∧ w'.cell? ⟨w.heap.size, 1, none⟩ = some (J ba) ∧ w'.cell? ⟨w.heap.size, 2, none⟩ = some (.slice ca ck cc) ∧ w'.cell? ⟨w.heap.size, 3, none⟩ = some (J v) ∧ w'.cell? ⟨w.heap.size, 4, none⟩ = some (J oh) ∧ w'.cell? ⟨w.heap.size, 5, none⟩ = some (J ot) ∧ w'.cell? ⟨w.heap.size, 6, none⟩ = some (.bool st) ∧ w'.cell? ⟨w.heap.size, 7, none⟩ = some (J fe) ∧ w'.cell? ⟨w.heap.size, 8, none⟩ = some (J fp) ∧ w'.cell? ⟨w.heap.size, 9, none⟩ = some (J fh) ∧ w'.cell? ⟨w.heap.size, 10, none⟩ = some (J ft) ∧ w'.cell? ⟨w.heap.size, 11, none⟩ = some (.bool lo)) ∧ Below (w.heap.size + 1) W w')
    (with_reducible refine box12N X0 n0 ?_; (repeat (first | with_reducible assumption | (with_reducible (refine limb2 (?_ : _ ∧ _); assumption)) | with_reducible exact Below.refl _ _ | with_reducible refine Below.drew ?_ | with_reducible refine below_drewN ?_ _ | (with_reducible refine belN_alloc nW ?_ _) | (with_reducible refine belN_set ?_ ?_ _; (focus (first | with_reducible exact Nat.le_refl _ | with_reducible exact Nat.le_succ _))) | (with_reducible refine belN_trans (by assumption) nW ?_))))
    (first
      | (go_at_call 43; refine (bCheck_any mo ba v oh ot fe fp fh ft st lo _ l _ ?_).mono ?_; (focus (refine HL.out.keep (B0.out.trans (Below.mono ?_ nV)); (repeat (first | with_reducible assumption | (with_reducible (refine limb2 (?_ : _ ∧ _); assumption)) | with_reducible exact Below.refl _ _ | with_reducible refine Below.drew ?_ | with_reducible refine below_drewN ?_ _ | (with_reducible refine belN_alloc nW ?_ _) | (with_reducible refine belN_set ?_ ?_ _; (focus (first | with_reducible exact Nat.le_refl _ | with_reducible exact Nat.le_succ _))) | (with_reducible refine belN_trans (by assumption) nW ?_))))); rintro e w5 ⟨rfl, b5⟩; rw [HCC.out]; obtain ⟨⟨u0, u1, u2, u3, u4, u5, u6, u7, u8, u9, u10, u11⟩, s5⟩ := (X1.drew.keep b5).twelve; have f5 := (X1.drew.keep b5).marksAll))
  rename_i hH
  have hB := limb2 hH
  clear hH
  have HB : Hid (Below w.heap.size w _) := B0.out.trans (hB.mono nV)
  clear hB
  go_wp2
  refine bodyPost_ret (v := .tuple #[.agg #[J mo, J ba, .slice ca ck cc, J v, J oh, J ot, .bool st, J fe, J fp, J fh, J ft, .bool lo], .bool ok]) (by simp [results, Tryz.results171, go_sem, *]) rfl ⟨_, _, _, _, _, _, _, _, _, _, _, _, _, _, by rw [HOK.out], fun _ => ⟨rfl, HS.out⟩, HB.out⟩
set_option maxRecDepth 10000 in
set_option maxHeartbeats 4000000 in
theorem set_3 (mo ba op oh ot fe fp fh ft : Int) (st lo : Bool) (vc : Value) (l : List Ln) (v : Int) (w : World) (h : Ls w vc l) (hb : chkB ⟨mo, ba, l, op, oh, ot, st, fe, fp, fh, ft, lo⟩ = 0) (hv : 0 ≤ v) :
    Calls Tryz.prog 171 #[.agg #[J mo, J ba, vc, J op, J oh, J ot, .bool st, J fe, J fp, J fh, J ft, .bool lo], J 3, J v] w fun e w' => SetOut mo ba op oh ot fe fp fh ft st lo vc l 3 v w e w' := by
  have HL : Hid (Ls w vc l) := h
  obtain ⟨ca, cc, rfl, -⟩ := h.shape
  obtain ⟨ck, hck⟩ : ∃ ck, ck = l.length := ⟨_, rfl⟩
  rw [← hck] at HL ⊢
  have HC : Hid ((chkB (setB ⟨mo, ba, l, op, oh, ot, st, fe, fp, fh, ft, lo⟩ 3 v) == 0) = decide (v ≤ mostB 3)) := setB_iff hb hv (by simp)
  have HS : Hid (setB ⟨mo, ba, l, op, oh, ot, st, fe, fp, fh, ft, lo⟩ 3 v = ⟨mo, ba, l, op, oh, v, st, fe, fp, fh, ft, lo⟩) := rfl
  obtain ⟨c, hc⟩ : ∃ c, chkB ⟨mo, ba, l, op, oh, v, st, fe, fp, fh, ft, lo⟩ = c := ⟨_, rfl⟩
  have HCC : Hid (chkB ⟨mo, ba, l, op, oh, v, st, fe, fp, fh, ft, lo⟩ = c) := hc
  obtain ⟨ok, hok⟩ : ∃ ok, (c == 0) = ok := ⟨_, rfl⟩
  have HOK : Hid (decide (v ≤ mostB 3) = ok) := by show _ = _; rw [← HC.out, HS.out, hc, hok]
  clear h hb hv hck hc HC
  go_enter Tryz.func171, Tryz.ntmps171
  have X0 := (Box.newAt (w := w) (n := w.heap.size) rfl 31 #[J mo, J ba, .slice ca ck cc, J op, J oh, J v, .bool st, J fe, J fp, J fh, J ft, .bool lo]).past (.cells #[J 0, J 0, .slice none 0 0, J 0, J 0, J 0, .bool false, J 0, J 0, J 0, J 0, .bool false] 31)
  have X1 := Box.newAt (w := w.alloc (.cells #[J mo, J ba, .slice ca ck cc, J op, J oh, J v, .bool st, J fe, J fp, J fh, J ft, .bool lo] 31)) (n := w.heap.size + 1) (by simp) 31 #[J 0, J 0, .slice none 0 0, J 0, J 0, J 0, .bool false, J 0, J 0, J 0, J 0, .bool false]
  have B0 : Hid (Below w.heap.size w _) := bel_alloc (bel_alloc (Below.refl w.heap.size w) (.cells #[J mo, J ba, .slice ca ck cc, J op, J oh, J v, .bool st, J fe, J fp, J fh, J ft, .bool lo] 31)) (.cells #[J 0, J 0, .slice none 0 0, J 0, J 0, J 0, .bool false, J 0, J 0, J 0, J 0, .bool false] 31)
  go_upto_region 18 with fail
  generalize ((w.alloc (.cells #[J mo, J ba, .slice ca ck cc, J op, J oh, J v, .bool st, J fe, J fp, J fh, J ft, .bool lo] 31)).alloc (.cells #[J 0, J 0, .slice none 0 0, J 0, J 0, J 0, .bool false, J 0, J 0, J 0, J 0, .bool false] 31)) = W at *
  have n0 : w.heap.size < w.heap.size + 1 := by omega
  have nW : w.heap.size + 1 ≤ W.heap.size := by have := X1.lt; omega
  have nV : w.heap.size ≤ w.heap.size + 1 := by omega
  obtain ⟨⟨d0, d1, d2, d3, d4, d5, d6, d7, d8, d9, d10, d11⟩, s0⟩ := X0.twelve
  go_region_held3 (fun w' => (w'.cell? ⟨w.heap.size, 0, none⟩ = some (J mo) ∧ w'.cell? ⟨w.heap.size, 1, none⟩ = some (J ba) ∧ w'.cell? ⟨w.heap.size, 2, none⟩ = some (.slice ca ck cc) ∧ w'.cell? ⟨w.heap.size, 3, none⟩ = some (J op) ∧ w'.cell? ⟨w.heap.size, 4, none⟩ = some (J oh) ∧ w'.cell? ⟨w.heap.size, 5, none⟩ = some (J v) ∧ w'.cell? ⟨w.heap.size, 6, none⟩ = some (.bool st) ∧ w'.cell? ⟨w.heap.size, 7, none⟩ = some (J fe) ∧ w'.cell? ⟨w.heap.size, 8, none⟩ = some (J fp) ∧ w'.cell? ⟨w.heap.size, 9, none⟩ = some (J fh) ∧ w'.cell? ⟨w.heap.size, 10, none⟩ = some (J ft) ∧ w'.cell? ⟨w.heap.size, 11, none⟩ = some (.bool lo)) ∧ Below (w.heap.size + 1) W w')
    (with_reducible refine box12N X0 n0 ?_; (repeat (first | with_reducible assumption | (with_reducible (refine limb2 (?_ : _ ∧ _); assumption)) | with_reducible exact Below.refl _ _ | with_reducible refine Below.drew ?_ | with_reducible refine below_drewN ?_ _ | (with_reducible refine belN_alloc nW ?_ _) | (with_reducible refine belN_set ?_ ?_ _; (focus (first | with_reducible exact Nat.le_refl _ | with_reducible exact Nat.le_succ _))) | (with_reducible refine belN_trans (by assumption) nW ?_))))
    (first
      | (go_at_call 43; refine (bCheck_any mo ba op oh v fe fp fh ft st lo _ l _ ?_).mono ?_; (focus (refine HL.out.keep (B0.out.trans (Below.mono ?_ nV)); (repeat (first | with_reducible assumption | (with_reducible (refine limb2 (?_ : _ ∧ _); assumption)) | with_reducible exact Below.refl _ _ | with_reducible refine Below.drew ?_ | with_reducible refine below_drewN ?_ _ | (with_reducible refine belN_alloc nW ?_ _) | (with_reducible refine belN_set ?_ ?_ _; (focus (first | with_reducible exact Nat.le_refl _ | with_reducible exact Nat.le_succ _))) | (with_reducible refine belN_trans (by assumption) nW ?_))))); rintro e w5 ⟨rfl, b5⟩; rw [HCC.out]; obtain ⟨⟨u0, u1, u2, u3, u4, u5, u6, u7, u8, u9, u10, u11⟩, s5⟩ := (X1.drew.keep b5).twelve; have f5 := (X1.drew.keep b5).marksAll))
  rename_i hH
  have hB := limb2 hH
  clear hH
  have HB : Hid (Below w.heap.size w _) := B0.out.trans (hB.mono nV)
  clear hB
  go_wp2
  refine bodyPost_ret (v := .tuple #[.agg #[J mo, J ba, .slice ca ck cc, J op, J oh, J v, .bool st, J fe, J fp, J fh, J ft, .bool lo], .bool ok]) (by simp [results, Tryz.results171, go_sem, *]) rfl ⟨_, _, _, _, _, _, _, _, _, _, _, _, _, _, by rw [HOK.out], fun _ => ⟨rfl, HS.out⟩, HB.out⟩
set_option maxRecDepth 10000 in
set_option maxHeartbeats 4000000 in
theorem set_5 (mo ba op oh ot fe fp fh ft : Int) (st lo : Bool) (vc : Value) (l : List Ln) (v : Int) (w : World) (h : Ls w vc l) (hb : chkB ⟨mo, ba, l, op, oh, ot, st, fe, fp, fh, ft, lo⟩ = 0) (hv : 0 ≤ v) :
    Calls Tryz.prog 171 #[.agg #[J mo, J ba, vc, J op, J oh, J ot, .bool st, J fe, J fp, J fh, J ft, .bool lo], J 5, J v] w fun e w' => SetOut mo ba op oh ot fe fp fh ft st lo vc l 5 v w e w' := by
  have HL : Hid (Ls w vc l) := h
  obtain ⟨ca, cc, rfl, -⟩ := h.shape
  obtain ⟨ck, hck⟩ : ∃ ck, ck = l.length := ⟨_, rfl⟩
  rw [← hck] at HL ⊢
  have HC : Hid ((chkB (setB ⟨mo, ba, l, op, oh, ot, st, fe, fp, fh, ft, lo⟩ 5 v) == 0) = decide (v ≤ mostB 5)) := setB_iff hb hv (by simp)
  have HS : Hid (setB ⟨mo, ba, l, op, oh, ot, st, fe, fp, fh, ft, lo⟩ 5 v = ⟨mo, ba, l, op, oh, ot, st, fe, v, fh, ft, lo⟩) := rfl
  obtain ⟨c, hc⟩ : ∃ c, chkB ⟨mo, ba, l, op, oh, ot, st, fe, v, fh, ft, lo⟩ = c := ⟨_, rfl⟩
  have HCC : Hid (chkB ⟨mo, ba, l, op, oh, ot, st, fe, v, fh, ft, lo⟩ = c) := hc
  obtain ⟨ok, hok⟩ : ∃ ok, (c == 0) = ok := ⟨_, rfl⟩
  have HOK : Hid (decide (v ≤ mostB 5) = ok) := by show _ = _; rw [← HC.out, HS.out, hc, hok]
  clear h hb hv hck hc HC
  go_enter Tryz.func171, Tryz.ntmps171
  have X0 := (Box.newAt (w := w) (n := w.heap.size) rfl 31 #[J mo, J ba, .slice ca ck cc, J op, J oh, J ot, .bool st, J fe, J v, J fh, J ft, .bool lo]).past (.cells #[J 0, J 0, .slice none 0 0, J 0, J 0, J 0, .bool false, J 0, J 0, J 0, J 0, .bool false] 31)
  have X1 := Box.newAt (w := w.alloc (.cells #[J mo, J ba, .slice ca ck cc, J op, J oh, J ot, .bool st, J fe, J v, J fh, J ft, .bool lo] 31)) (n := w.heap.size + 1) (by simp) 31 #[J 0, J 0, .slice none 0 0, J 0, J 0, J 0, .bool false, J 0, J 0, J 0, J 0, .bool false]
  have B0 : Hid (Below w.heap.size w _) := bel_alloc (bel_alloc (Below.refl w.heap.size w) (.cells #[J mo, J ba, .slice ca ck cc, J op, J oh, J ot, .bool st, J fe, J v, J fh, J ft, .bool lo] 31)) (.cells #[J 0, J 0, .slice none 0 0, J 0, J 0, J 0, .bool false, J 0, J 0, J 0, J 0, .bool false] 31)
  go_upto_region 18 with fail
  generalize ((w.alloc (.cells #[J mo, J ba, .slice ca ck cc, J op, J oh, J ot, .bool st, J fe, J v, J fh, J ft, .bool lo] 31)).alloc (.cells #[J 0, J 0, .slice none 0 0, J 0, J 0, J 0, .bool false, J 0, J 0, J 0, J 0, .bool false] 31)) = W at *
  have n0 : w.heap.size < w.heap.size + 1 := by omega
  have nW : w.heap.size + 1 ≤ W.heap.size := by have := X1.lt; omega
  have nV : w.heap.size ≤ w.heap.size + 1 := by omega
  obtain ⟨⟨d0, d1, d2, d3, d4, d5, d6, d7, d8, d9, d10, d11⟩, s0⟩ := X0.twelve
  go_region_held3 (fun w' => (w'.cell? ⟨w.heap.size, 0, none⟩ = some (J mo) ∧ w'.cell? ⟨w.heap.size, 1, none⟩ = some (J ba) ∧ w'.cell? ⟨w.heap.size, 2, none⟩ = some (.slice ca ck cc) ∧ w'.cell? ⟨w.heap.size, 3, none⟩ = some (J op) ∧ w'.cell? ⟨w.heap.size, 4, none⟩ = some (J oh) ∧ w'.cell? ⟨w.heap.size, 5, none⟩ = some (J ot) ∧ w'.cell? ⟨w.heap.size, 6, none⟩ = some (.bool st) ∧ w'.cell? ⟨w.heap.size, 7, none⟩ = some (J fe) ∧ w'.cell? ⟨w.heap.size, 8, none⟩ = some (J v) ∧ w'.cell? ⟨w.heap.size, 9, none⟩ = some (J fh) ∧ w'.cell? ⟨w.heap.size, 10, none⟩ = some (J ft) ∧ w'.cell? ⟨w.heap.size, 11, none⟩ = some (.bool lo)) ∧ Below (w.heap.size + 1) W w')
    (with_reducible refine box12N X0 n0 ?_; (repeat (first | with_reducible assumption | (with_reducible (refine limb2 (?_ : _ ∧ _); assumption)) | with_reducible exact Below.refl _ _ | with_reducible refine Below.drew ?_ | with_reducible refine below_drewN ?_ _ | (with_reducible refine belN_alloc nW ?_ _) | (with_reducible refine belN_set ?_ ?_ _; (focus (first | with_reducible exact Nat.le_refl _ | with_reducible exact Nat.le_succ _))) | (with_reducible refine belN_trans (by assumption) nW ?_))))
    (first
      | (go_at_call 43; refine (bCheck_any mo ba op oh ot fe v fh ft st lo _ l _ ?_).mono ?_; (focus (refine HL.out.keep (B0.out.trans (Below.mono ?_ nV)); (repeat (first | with_reducible assumption | (with_reducible (refine limb2 (?_ : _ ∧ _); assumption)) | with_reducible exact Below.refl _ _ | with_reducible refine Below.drew ?_ | with_reducible refine below_drewN ?_ _ | (with_reducible refine belN_alloc nW ?_ _) | (with_reducible refine belN_set ?_ ?_ _; (focus (first | with_reducible exact Nat.le_refl _ | with_reducible exact Nat.le_succ _))) | (with_reducible refine belN_trans (by assumption) nW ?_))))); rintro e w5 ⟨rfl, b5⟩; rw [HCC.out]; obtain ⟨⟨u0, u1, u2, u3, u4, u5, u6, u7, u8, u9, u10, u11⟩, s5⟩ := (X1.drew.keep b5).twelve; have f5 := (X1.drew.keep b5).marksAll))
  rename_i hH
  have hB := limb2 hH
  clear hH
  have HB : Hid (Below w.heap.size w _) := B0.out.trans (hB.mono nV)
  clear hB
  go_wp2
  refine bodyPost_ret (v := .tuple #[.agg #[J mo, J ba, .slice ca ck cc, J op, J oh, J ot, .bool st, J fe, J v, J fh, J ft, .bool lo], .bool ok]) (by simp [results, Tryz.results171, go_sem, *]) rfl ⟨_, _, _, _, _, _, _, _, _, _, _, _, _, _, by rw [HOK.out], fun _ => ⟨rfl, HS.out⟩, HB.out⟩
set_option maxRecDepth 10000 in
set_option maxHeartbeats 4000000 in
theorem set_6 (mo ba op oh ot fe fp fh ft : Int) (st lo : Bool) (vc : Value) (l : List Ln) (v : Int) (w : World) (h : Ls w vc l) (hb : chkB ⟨mo, ba, l, op, oh, ot, st, fe, fp, fh, ft, lo⟩ = 0) (hv : 0 ≤ v) :
    Calls Tryz.prog 171 #[.agg #[J mo, J ba, vc, J op, J oh, J ot, .bool st, J fe, J fp, J fh, J ft, .bool lo], J 6, J v] w fun e w' => SetOut mo ba op oh ot fe fp fh ft st lo vc l 6 v w e w' := by
  have HL : Hid (Ls w vc l) := h
  obtain ⟨ca, cc, rfl, -⟩ := h.shape
  obtain ⟨ck, hck⟩ : ∃ ck, ck = l.length := ⟨_, rfl⟩
  rw [← hck] at HL ⊢
  have HC : Hid ((chkB (setB ⟨mo, ba, l, op, oh, ot, st, fe, fp, fh, ft, lo⟩ 6 v) == 0) = decide (v ≤ mostB 6)) := setB_iff hb hv (by simp)
  have HS : Hid (setB ⟨mo, ba, l, op, oh, ot, st, fe, fp, fh, ft, lo⟩ 6 v = ⟨mo, ba, l, op, oh, ot, st, fe, fp, v, ft, lo⟩) := rfl
  obtain ⟨c, hc⟩ : ∃ c, chkB ⟨mo, ba, l, op, oh, ot, st, fe, fp, v, ft, lo⟩ = c := ⟨_, rfl⟩
  have HCC : Hid (chkB ⟨mo, ba, l, op, oh, ot, st, fe, fp, v, ft, lo⟩ = c) := hc
  obtain ⟨ok, hok⟩ : ∃ ok, (c == 0) = ok := ⟨_, rfl⟩
  have HOK : Hid (decide (v ≤ mostB 6) = ok) := by show _ = _; rw [← HC.out, HS.out, hc, hok]
  clear h hb hv hck hc HC
  go_enter Tryz.func171, Tryz.ntmps171
  have X0 := (Box.newAt (w := w) (n := w.heap.size) rfl 31 #[J mo, J ba, .slice ca ck cc, J op, J oh, J ot, .bool st, J fe, J fp, J v, J ft, .bool lo]).past (.cells #[J 0, J 0, .slice none 0 0, J 0, J 0, J 0, .bool false, J 0, J 0, J 0, J 0, .bool false] 31)
  have X1 := Box.newAt (w := w.alloc (.cells #[J mo, J ba, .slice ca ck cc, J op, J oh, J ot, .bool st, J fe, J fp, J v, J ft, .bool lo] 31)) (n := w.heap.size + 1) (by simp) 31 #[J 0, J 0, .slice none 0 0, J 0, J 0, J 0, .bool false, J 0, J 0, J 0, J 0, .bool false]
  have B0 : Hid (Below w.heap.size w _) := bel_alloc (bel_alloc (Below.refl w.heap.size w) (.cells #[J mo, J ba, .slice ca ck cc, J op, J oh, J ot, .bool st, J fe, J fp, J v, J ft, .bool lo] 31)) (.cells #[J 0, J 0, .slice none 0 0, J 0, J 0, J 0, .bool false, J 0, J 0, J 0, J 0, .bool false] 31)
  go_upto_region 18 with fail
  generalize ((w.alloc (.cells #[J mo, J ba, .slice ca ck cc, J op, J oh, J ot, .bool st, J fe, J fp, J v, J ft, .bool lo] 31)).alloc (.cells #[J 0, J 0, .slice none 0 0, J 0, J 0, J 0, .bool false, J 0, J 0, J 0, J 0, .bool false] 31)) = W at *
  have n0 : w.heap.size < w.heap.size + 1 := by omega
  have nW : w.heap.size + 1 ≤ W.heap.size := by have := X1.lt; omega
  have nV : w.heap.size ≤ w.heap.size + 1 := by omega
  obtain ⟨⟨d0, d1, d2, d3, d4, d5, d6, d7, d8, d9, d10, d11⟩, s0⟩ := X0.twelve
  go_region_held3 (fun w' => (w'.cell? ⟨w.heap.size, 0, none⟩ = some (J mo) ∧ w'.cell? ⟨w.heap.size, 1, none⟩ = some (J ba) ∧ w'.cell? ⟨w.heap.size, 2, none⟩ = some (.slice ca ck cc) ∧ w'.cell? ⟨w.heap.size, 3, none⟩ = some (J op) ∧ w'.cell? ⟨w.heap.size, 4, none⟩ = some (J oh) ∧ w'.cell? ⟨w.heap.size, 5, none⟩ = some (J ot) ∧ w'.cell? ⟨w.heap.size, 6, none⟩ = some (.bool st) ∧ w'.cell? ⟨w.heap.size, 7, none⟩ = some (J fe) ∧ w'.cell? ⟨w.heap.size, 8, none⟩ = some (J fp) ∧ w'.cell? ⟨w.heap.size, 9, none⟩ = some (J v) ∧ w'.cell? ⟨w.heap.size, 10, none⟩ = some (J ft) ∧ w'.cell? ⟨w.heap.size, 11, none⟩ = some (.bool lo)) ∧ Below (w.heap.size + 1) W w')
    (with_reducible refine box12N X0 n0 ?_; (repeat (first | with_reducible assumption | (with_reducible (refine limb2 (?_ : _ ∧ _); assumption)) | with_reducible exact Below.refl _ _ | with_reducible refine Below.drew ?_ | with_reducible refine below_drewN ?_ _ | (with_reducible refine belN_alloc nW ?_ _) | (with_reducible refine belN_set ?_ ?_ _; (focus (first | with_reducible exact Nat.le_refl _ | with_reducible exact Nat.le_succ _))) | (with_reducible refine belN_trans (by assumption) nW ?_))))
    (first
      | (go_at_call 43; refine (bCheck_any mo ba op oh ot fe fp v ft st lo _ l _ ?_).mono ?_; (focus (refine HL.out.keep (B0.out.trans (Below.mono ?_ nV)); (repeat (first | with_reducible assumption | (with_reducible (refine limb2 (?_ : _ ∧ _); assumption)) | with_reducible exact Below.refl _ _ | with_reducible refine Below.drew ?_ | with_reducible refine below_drewN ?_ _ | (with_reducible refine belN_alloc nW ?_ _) | (with_reducible refine belN_set ?_ ?_ _; (focus (first | with_reducible exact Nat.le_refl _ | with_reducible exact Nat.le_succ _))) | (with_reducible refine belN_trans (by assumption) nW ?_))))); rintro e w5 ⟨rfl, b5⟩; rw [HCC.out]; obtain ⟨⟨u0, u1, u2, u3, u4, u5, u6, u7, u8, u9, u10, u11⟩, s5⟩ := (X1.drew.keep b5).twelve; have f5 := (X1.drew.keep b5).marksAll))
  rename_i hH
  have hB := limb2 hH
  clear hH
  have HB : Hid (Below w.heap.size w _) := B0.out.trans (hB.mono nV)
  clear hB
  go_wp2
  refine bodyPost_ret (v := .tuple #[.agg #[J mo, J ba, .slice ca ck cc, J op, J oh, J ot, .bool st, J fe, J fp, J v, J ft, .bool lo], .bool ok]) (by simp [results, Tryz.results171, go_sem, *]) rfl ⟨_, _, _, _, _, _, _, _, _, _, _, _, _, _, by rw [HOK.out], fun _ => ⟨rfl, HS.out⟩, HB.out⟩
end Go.Proofs.YthlhocneggcekaaGreat
