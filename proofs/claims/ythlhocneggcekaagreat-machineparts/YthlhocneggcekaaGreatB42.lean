/-
  Laid together: MRun, Tables.
-/
import Derived.Test.YthlhocneggcekaaGreatB1
import Derived.Test.YthlhocneggcekaaGreatB2
import Derived.Test.YthlhocneggcekaaGreatB3
import Derived.Test.YthlhocneggcekaaGreatB4
import Derived.Test.YthlhocneggcekaaGreatB5
import Derived.Test.YthlhocneggcekaaGreatB6
import Derived.Test.YthlhocneggcekaaGreatB7
import Derived.Test.YthlhocneggcekaaGreatB8
import Derived.Test.YthlhocneggcekaaGreatB9
import Derived.Test.YthlhocneggcekaaGreatB10
import Derived.Test.YthlhocneggcekaaGreatB11
import Derived.Test.YthlhocneggcekaaGreatB12
import Derived.Test.YthlhocneggcekaaGreatB13
import Derived.Test.YthlhocneggcekaaGreatB14
import Derived.Test.YthlhocneggcekaaGreatB15
import Derived.Test.YthlhocneggcekaaGreatB16
import Derived.Test.YthlhocneggcekaaGreatB17
import Derived.Test.YthlhocneggcekaaGreatB18
import Derived.Test.YthlhocneggcekaaGreatB19
import Derived.Test.YthlhocneggcekaaGreatB20
import Derived.Test.YthlhocneggcekaaGreatB21
import Derived.Test.YthlhocneggcekaaGreatB22
import Derived.Test.YthlhocneggcekaaGreatB23
import Derived.Test.YthlhocneggcekaaGreatB24
import Derived.Test.YthlhocneggcekaaGreatB25
import Derived.Test.YthlhocneggcekaaGreatB26
import Derived.Test.YthlhocneggcekaaGreatB27
import Derived.Test.YthlhocneggcekaaGreatB28
import Derived.Test.YthlhocneggcekaaGreatB29
import Derived.Test.YthlhocneggcekaaGreatB30
import Derived.Test.YthlhocneggcekaaGreatB31
import Derived.Test.YthlhocneggcekaaGreatB32
import Derived.Test.YthlhocneggcekaaGreatB33
import Derived.Test.YthlhocneggcekaaGreatB34
import Derived.Test.YthlhocneggcekaaGreatB35
import Derived.Test.YthlhocneggcekaaGreatB36
import Derived.Test.YthlhocneggcekaaGreatB37
import Derived.Test.YthlhocneggcekaaGreatB38
import Derived.Test.YthlhocneggcekaaGreatB39
import Derived.Test.YthlhocneggcekaaGreatB40
import Derived.Test.YthlhocneggcekaaGreatB41
import Derived.Deep.RegionLaw
import Derived.Deep.DrawnRows
import Derived.Deep.AppendLies
import Derived.Deep.RegionHeld3
import Derived.Deep.RegionHeld
import Derived.Deep.CutRange
import Derived.Laws.CopyOwn
import Derived.Maps.OwnOps
import Derived.Maps.OwnSet
import Derived.Deep.RegionWith
import Derived.Lib.AppendZerosOnto
import Derived.Lib.SliceRun
import Derived.LoopN
import Derived.Test.YthlhocneggcekaaGreatRows
import Derived.WalkKit
import Derived.WalkSpells
import Derived.WalkLawsBesides
import Derived.Below
import Derived.WalkSmall
import Derived.Deep.QuietTactic
import Derived.BigQuiet
import Derived.Deep.Draws
namespace Go.Proofs.YthlhocneggcekaaGreat
open Go.RowKit
def Tos (w : World) (base : Nat) (v : Value) (ts : List To) : Prop := ∃ qs, Qs w v qs ∧ Means w base qs ts
abbrev RunC (m : Mc) (l : List Hp) (w : World) (e : Ending) (w' : World) : Prop :=
  ∃ cs1 a1 c1 a2 c2, e = .returned (.tuple #[.agg cs1, .slice a1 (rnX m l).2.1.length c1, .slice a2 (rnX m l).2.2.length c2, J (rnE m l)]) ∧ IsM w' (rnX m l).1 cs1 ∧ Tos w' w.heap.size (.slice a1 (rnX m l).2.1.length c1) (rnX m l).2.1 ∧ Sl w' (.slice a2 (rnX m l).2.2.length c2) (rnX m l).2.2 ∧
    OffRow (fun q => q < w.heap.size) cs1 ∧ Fresh w.heap.size (.slice a1 (rnX m l).2.1.length c1) ∧ Fresh w.heap.size (.slice a2 (rnX m l).2.2.length c2) ∧ Below w.heap.size w w'
theorem rnX_bad {m : Mc} {l : List Hp} (h : ¬ rnE m l = 0) : rnX m l = (M0, [], []) := by rw [rnX, if_neg h]
theorem rnX_ok {m : Mc} {l : List Hp} (h : rnE m l = 0) : rnX m l = rnM m l := by rw [rnX, if_pos h]
theorem rnE_ok {m : Mc} {l : List Hp} (h : chkM m = 0) (k : l.length ≤ 120) : rnE m l = 0 := by rw [rnE, if_pos h, if_pos k]
theorem ret_run {m : Mc} {l : List Hp} {a : Value} {x : Int} (h : x = rnE m l) (k : ¬ rnE m l = 0) : Ending.returned (.tuple #[a, .slice none 0 0, .slice none 0 0, J x]) = .returned (.tuple #[a, .slice none (rnX m l).2.1.length 0, .slice none (rnX m l).2.2.length 0, J (rnE m l)]) := by rw [rnX_bad k, h]; rfl
theorem infoErrno : ∃ i, Tryz.prog.info? 41 = some i ∧ i.zero = some (J 0) ∧ i.size = 1 ∧ i.bytes = 8 := by
  have h : (Tryz.prog.info? 41).map (fun i => (i.zero, i.size, i.bytes)) = some (some (J 0), 1, 8) := by kernel_rfl
  cases hi : Tryz.prog.info? 41 with
  | none => rw [hi] at h; simp at h
  | some i => rw [hi] at h; simp at h; exact ⟨i, rfl, h.1, h.2.1, h.2.2⟩
theorem makeTold (n : Nat) (hn : n ≤ 120) (w : World) : (Instr.makeSlice 57 (J n) (J n)).run Tryz.prog w = .ok (.slice (some ⟨w.heap.size, 0, none⟩) n n) (w.alloc (.cells (told4 (List.replicate n q0)) 40)) := by
  obtain ⟨i, hi, hz, hs, hb⟩ := infoTold
  have h := run_make (P := Tryz.prog) w 57 40 i _ Tryz.underlying57 hi hz .i64 .i64 n n (by omega) (by omega) (by rw [hb]; omega) (by omega)
  rw [hs] at h
  simp only [Int.toNat_natCast] at h
  rw [← told4_zero]
  exact h
theorem makeSaid (n : Nat) (hn : n ≤ 120) (w : World) : (Instr.makeSlice 58 (J n) (J n)).run Tryz.prog w = .ok (.slice (some ⟨w.heap.size, 0, none⟩) n n) (w.alloc (.cells (said1 (List.replicate n 0)) 41)) := by
  obtain ⟨i, hi, hz, hs, hb⟩ := infoErrno
  have h := run_make (P := Tryz.prog) w 58 41 i _ Tryz.underlying58 hi hz .i64 .i64 n n (by omega) (by omega) (by rw [hb]; omega) (by omega)
  rw [hs] at h
  simp only [Int.toNat_natCast] at h
  rw [← said1_zero]
  exact h
def RunA (n : Nat) (W : World) (a b : Value) (wx : World) : Prop :=
  ∃ n10 n11, a = .slice (some ⟨n10, 0, none⟩) n n ∧ b = .slice (some ⟨n11, 0, none⟩) n n ∧ Box wx n10 40 (told4 (List.replicate n q0)) ∧ Box wx n11 41 (said1 (List.replicate n 0)) ∧ ¬ n10 = n11 ∧ W.heap.size ≤ n10 ∧ W.heap.size ≤ n11 ∧ Below W.heap.size W wx
set_option maxRecDepth 10000 in
set_option maxHeartbeats 4000000 in
theorem mRun_bad {m : Mc} {l : List Hp} {cs : Array Value} {v : Value} {w : World} (hm : IsM w m cs) (hl : Hps w v l) (hE : ¬ chkM m = 0) :
    Calls Tryz.prog 23 #[.agg cs, v] w fun e w' => RunC m l w e w' := by
  have HZ : Hid (rnE m l = chkM m) := if_neg hE
  have HE : Hid (¬ rnE m l = 0) := by show ¬ _; rw [HZ.out]; exact hE
  have HM : Hid (IsM w m cs) := hm
  have HL : Hid (Hps w v l) := hl
  obtain ⟨va, vk, rfl⟩ := hl.shape
  have hc16 : cs.size = 16 := hm.size.1
  have HI : (Tryz.prog.info? 33).map (·.size) = some cs.size := by rw [infoM, hc16]
  have X0 := (Box.newAt (w := w) (n := w.heap.size) rfl 33 cs).past (.cells #[.slice none 0 0, J 0, .slice none 0 0, .bool false, J 0, J 0, .slice none 0 0, J 0, J 0, J 0, .bool false, J 0, J 0, J 0, J 0, .bool false] 33)
  have X1 : Box ((w.alloc (.cells cs 33)).alloc (.cells #[.slice none 0 0, J 0, .slice none 0 0, .bool false, J 0, J 0, .slice none 0 0, J 0, J 0, J 0, .bool false, J 0, J 0, J 0, J 0, .bool false] 33)) (w.heap.size + 1) 33 zeroM := Box.newAt (w := w.alloc (.cells cs 33)) (n := w.heap.size + 1) (by simp) 33 _
  have BW : Hid (Below w.heap.size w ((w.alloc (.cells cs 33)).alloc (.cells #[.slice none 0 0, J 0, .slice none 0 0, .bool false, J 0, J 0, .slice none 0 0, J 0, J 0, J 0, .bool false, J 0, J 0, J 0, J 0, .bool false] 33))) := bel_alloc (bel_alloc (Below.refl w.heap.size w) _) _
  have hsz : ((w.alloc (.cells cs 33)).alloc (.cells #[.slice none 0 0, J 0, .slice none 0 0, .bool false, J 0, J 0, .slice none 0 0, J 0, J 0, J 0, .bool false, J 0, J 0, J 0, J 0, .bool false] 33)).heap.size = w.heap.size + 1 + 1 := by simp
  clear hm hl
  go_enter Tryz.func23, Tryz.ntmps23
  go_upto_region 1 with fail
  (try simp only [Value.cells])
  generalize ((w.alloc (.cells cs 33)).alloc (.cells #[.slice none 0 0, J 0, .slice none 0 0, .bool false, J 0, J 0, .slice none 0 0, J 0, J 0, J 0, .bool false, J 0, J 0, J 0, J 0, .bool false] 33)) = W at *
  go_wp2_with (first
    | fail
    | (refine wpList_load_row rfl 33 (.tmp 2) rfl w.heap.size rfl _ _ _ _ X0 Tryz.underlying33 rfl HI ?_))
  refine (mCheck_row (HM.out.keep BW.out)).mono ?_
  rintro e w1 ⟨rfl, b1⟩
  have X0 := X0.keep b1
  have X1 := X1.keep b1
  have B1 : Hid (Below w.heap.size w w1) := bel_trans BW.out b1
  have z1 : w.heap.size + 1 + 1 ≤ w1.heap.size := by rw [← hsz]; exact b1.size
  clear b1 BW hsz
  obtain ⟨z, hz⟩ : ∃ z, chkM m = z := ⟨_, rfl⟩
  rw [hz] at HZ hE ⊢
  clear hz
  have q : (z != 0) = true := by simpa using hE
  clear hE
  go_wp2_with (first
    | fail
    | (refine wpList_store_row rfl 33 (.tmp 4) (.tmp 21) rfl (w.heap.size + 1) zeroM rfl rfl _ _ X1 (by rw [infoM]; rfl) rfl (by simp [zeroM, Value.oneCell']) ?_))
  have l1 := Box.loadM (X1.setRow zeroM) rfl
  refine bodyPost_ret (v := .tuple #[.agg zeroM, .slice none 0 0, .slice none 0 0, J z]) (by simp [results, Tryz.results23, asAddr, l1]) rfl ⟨zeroM, none, 0, none, 0, ret_run HZ.out.symm HE.out, by rw [rnX_bad HE.out]; exact isM_zero _, by rw [rnX_bad HE.out]; exact ⟨[], Qs.nothing _, Means.nil _ _⟩, by rw [rnX_bad HE.out]; exact Sl.nil _ none 0, off_zeroM _, Fresh.none _ _ _, Fresh.none _ _ _, bel_setRow (by omega) B1.out _⟩
set_option maxRecDepth 10000 in
set_option maxHeartbeats 4000000 in
theorem mRun_many {m : Mc} {l : List Hp} {cs : Array Value} {v : Value} {w : World} (hm : IsM w m cs) (hl : Hps w v l) (hE : chkM m = 0) (hn : ¬ l.length ≤ 120) :
    Calls Tryz.prog 23 #[.agg cs, v] w fun e w' => RunC m l w e w' := by
  have HZ : Hid (rnE m l = 1) := by show _ = _; rw [rnE, if_pos hE, if_neg hn]
  have HE : Hid (¬ rnE m l = 0) := by show ¬ _; rw [HZ.out]; decide
  have HM : Hid (IsM w m cs) := hm
  have HL : Hid (Hps w v l) := hl
  obtain ⟨va, vk, rfl⟩ := hl.shape
  have hc16 : cs.size = 16 := hm.size.1
  have HI : (Tryz.prog.info? 33).map (·.size) = some cs.size := by rw [infoM, hc16]
  have X0 := (Box.newAt (w := w) (n := w.heap.size) rfl 33 cs).past (.cells #[.slice none 0 0, J 0, .slice none 0 0, .bool false, J 0, J 0, .slice none 0 0, J 0, J 0, J 0, .bool false, J 0, J 0, J 0, J 0, .bool false] 33)
  have X1 : Box ((w.alloc (.cells cs 33)).alloc (.cells #[.slice none 0 0, J 0, .slice none 0 0, .bool false, J 0, J 0, .slice none 0 0, J 0, J 0, J 0, .bool false, J 0, J 0, J 0, J 0, .bool false] 33)) (w.heap.size + 1) 33 zeroM := Box.newAt (w := w.alloc (.cells cs 33)) (n := w.heap.size + 1) (by simp) 33 _
  have BW : Hid (Below w.heap.size w ((w.alloc (.cells cs 33)).alloc (.cells #[.slice none 0 0, J 0, .slice none 0 0, .bool false, J 0, J 0, .slice none 0 0, J 0, J 0, J 0, .bool false, J 0, J 0, J 0, J 0, .bool false] 33))) := bel_alloc (bel_alloc (Below.refl w.heap.size w) _) _
  have hsz : ((w.alloc (.cells cs 33)).alloc (.cells #[.slice none 0 0, J 0, .slice none 0 0, .bool false, J 0, J 0, .slice none 0 0, J 0, J 0, J 0, .bool false, J 0, J 0, J 0, J 0, .bool false] 33)).heap.size = w.heap.size + 1 + 1 := by simp
  clear hm hl
  go_enter Tryz.func23, Tryz.ntmps23
  go_upto_region 1 with fail
  (try simp only [Value.cells])
  generalize ((w.alloc (.cells cs 33)).alloc (.cells #[.slice none 0 0, J 0, .slice none 0 0, .bool false, J 0, J 0, .slice none 0 0, J 0, J 0, J 0, .bool false, J 0, J 0, J 0, J 0, .bool false] 33)) = W at *
  go_wp2_with (first
    | fail
    | (refine wpList_load_row rfl 33 (.tmp 2) rfl w.heap.size rfl _ _ _ _ X0 Tryz.underlying33 rfl HI ?_))
  refine (mCheck_row (HM.out.keep BW.out)).mono ?_
  rintro e w1 ⟨rfl, b1⟩
  have X0 := X0.keep b1
  have X1 := X1.keep b1
  have B1 : Hid (Below w.heap.size w w1) := bel_trans BW.out b1
  have z1 : w.heap.size + 1 + 1 ≤ w1.heap.size := by rw [← hsz]; exact b1.size
  clear b1 BW hsz
  rw [hE]
  clear hE
  have q : ((0 : Int) != 0) = false := rfl
  have q1 : (l.length : Int) > 120 := by omega
  go_wp2_with (first
    | fail
    | (refine wpList_store_row rfl 33 (.tmp 4) (.tmp 26) rfl (w.heap.size + 1) zeroM rfl rfl _ _ X1 (by rw [infoM]; rfl) rfl (by simp [zeroM, Value.oneCell']) ?_))
  have l1 := Box.loadM (X1.setRow zeroM) rfl
  refine bodyPost_ret (v := .tuple #[.agg zeroM, .slice none 0 0, .slice none 0 0, J 1]) (by simp [results, Tryz.results23, asAddr, l1]) rfl ⟨zeroM, none, 0, none, 0, ret_run HZ.out.symm HE.out, by rw [rnX_bad HE.out]; exact isM_zero _, by rw [rnX_bad HE.out]; exact ⟨[], Qs.nothing _, Means.nil _ _⟩, by rw [rnX_bad HE.out]; exact Sl.nil _ none 0, off_zeroM _, Fresh.none _ _ _, Fresh.none _ _ _, bel_setRow (by omega) B1.out _⟩
set_option maxRecDepth 10000 in
set_option maxHeartbeats 4000000 in
theorem mRun_ok {m : Mc} {l : List Hp} {cs : Array Value} {v : Value} {w : World} (hm : IsM w m cs) (hl : Hps w v l) (hE : chkM m = 0) (hn : l.length ≤ 120) :
    Calls Tryz.prog 23 #[.agg cs, v] w fun e w' => RunC m l w e w' := by
  have HZ : Hid (rnE m l = 0) := rnE_ok hE hn
  have HE : Hid (chkM m = 0) := hE
  have HM : Hid (IsM w m cs) := hm
  have HL : Hid (Hps w v l) := hl
  obtain ⟨va, vk, rfl⟩ := hl.shape
  have hc16 : cs.size = 16 := hm.size.1
  have HI : (Tryz.prog.info? 33).map (·.size) = some cs.size := by rw [infoM, hc16]
  have X0 := (Box.newAt (w := w) (n := w.heap.size) rfl 33 cs).past (.cells #[.slice none 0 0, J 0, .slice none 0 0, .bool false, J 0, J 0, .slice none 0 0, J 0, J 0, J 0, .bool false, J 0, J 0, J 0, J 0, .bool false] 33)
  have X1 : Box ((w.alloc (.cells cs 33)).alloc (.cells #[.slice none 0 0, J 0, .slice none 0 0, .bool false, J 0, J 0, .slice none 0 0, J 0, J 0, J 0, .bool false, J 0, J 0, J 0, J 0, .bool false] 33)) (w.heap.size + 1) 33 zeroM := Box.newAt (w := w.alloc (.cells cs 33)) (n := w.heap.size + 1) (by simp) 33 _
  have BW : Hid (Below w.heap.size w ((w.alloc (.cells cs 33)).alloc (.cells #[.slice none 0 0, J 0, .slice none 0 0, .bool false, J 0, J 0, .slice none 0 0, J 0, J 0, J 0, .bool false, J 0, J 0, J 0, J 0, .bool false] 33))) := bel_alloc (bel_alloc (Below.refl w.heap.size w) _) _
  have hsz : ((w.alloc (.cells cs 33)).alloc (.cells #[.slice none 0 0, J 0, .slice none 0 0, .bool false, J 0, J 0, .slice none 0 0, J 0, J 0, J 0, .bool false, J 0, J 0, J 0, J 0, .bool false] 33)).heap.size = w.heap.size + 1 + 1 := by simp
  clear hm hl
  go_enter Tryz.func23, Tryz.ntmps23
  go_upto_region 1 with fail
  (try simp only [Value.cells])
  generalize ((w.alloc (.cells cs 33)).alloc (.cells #[.slice none 0 0, J 0, .slice none 0 0, .bool false, J 0, J 0, .slice none 0 0, J 0, J 0, J 0, .bool false, J 0, J 0, J 0, J 0, .bool false] 33)) = W at *
  go_wp2_with (first
    | fail
    | (refine wpList_load_row rfl 33 (.tmp 2) rfl w.heap.size rfl _ _ _ _ X0 Tryz.underlying33 rfl HI ?_))
  refine (mCheck_row (HM.out.keep BW.out)).mono ?_
  rintro e w1 ⟨rfl, b1⟩
  have X0 := X0.keep b1
  have X1 := X1.keep b1
  have B1 : Hid (Below w.heap.size w w1) := bel_trans BW.out b1
  have z1 : w.heap.size + 1 + 1 ≤ w1.heap.size := by rw [← hsz]; exact b1.size
  clear b1 BW hsz
  rw [hE]
  clear hE
  have q : ((0 : Int) != 0) = false := rfl
  have q1 : ¬ (l.length : Int) > 120 := by omega
  go_wp2_with (first
    | fail
    | (refine wpList_load_row rfl 33 (.tmp 2) rfl w.heap.size rfl _ _ _ _ X0 Tryz.underlying33 rfl HI ?_))
  refine (mCopy_row (HM.out.keep B1.out) HE.out).mono ?_
  rintro e w2 ⟨cc, rfl, CS, OC, b2⟩
  have X1 := X1.keep b2
  have B2 : Hid (Below w.heap.size w w2) := bel_trans B1.out b2
  have z2 : w1.heap.size ≤ w2.heap.size := b2.size
  obtain ⟨hk16, hka⟩ := CS.size
  clear b2 X0 HI
  obtain ⟨n9, hn9⟩ : ∃ n, n = w2.heap.size := ⟨_, rfl⟩
  have X9 : Box (w2.alloc (.cells #[.slice none 0 0, J 0, .slice none 0 0, .bool false, J 0, J 0, .slice none 0 0, J 0, J 0, J 0, .bool false, J 0, J 0, J 0, J 0, .bool false] 33)) n9 33 zeroM := Box.newAt hn9 _ _
  have e9 : w2.heap.size = n9 := hn9.symm
  have HN9 : Hid (n9 = w2.heap.size) := hn9
  clear hn9
  go_upto_region 7 with (first
    | fail
    | (refine wpList_store_row rfl 33 (.tmp 9) (.tmp 28) rfl n9 cc rfl rfl _ _ X9 (by rw [infoM, hk16]) (by rw [hk16]; rfl) hka ?_))
  have hn9 := HN9.out
  clear e9
  have X9 := X9.setRow cc
  have X1 := (X1.past (.cells #[.slice none 0 0, J 0, .slice none 0 0, .bool false, J 0, J 0, .slice none 0 0, J 0, J 0, J 0, .bool false, J 0, J 0, J 0, J 0, .bool false] 33)).otherRow (show w.heap.size + 1 ≠ n9 by omega) cc
  have CS := (CS.keep (bel_alloc (Below.refl _ _) (.cells #[.slice none 0 0, J 0, .slice none 0 0, .bool false, J 0, J 0, .slice none 0 0, J 0, J 0, J 0, .bool false, J 0, J 0, J 0, J 0, .bool false] 33))).kept ((KeptB.refl (fun q => q = n9) _).setRow (n := n9) (.inl rfl) cc) OC (fun q hq => by omega)
  have B3 : Hid (Below w.heap.size w ((w2.alloc (.cells #[.slice none 0 0, J 0, .slice none 0 0, .bool false, J 0, J 0, .slice none 0 0, J 0, J 0, J 0, .bool false, J 0, J 0, J 0, J 0, .bool false] 33)).setRow n9 cc)) := bel_setRow (by omega) (bel_alloc B2.out _) _
  have z9 : w2.heap.size ≤ n9 := by omega
  clear hn9
  have z3 : n9 < ((w2.alloc (.cells #[.slice none 0 0, J 0, .slice none 0 0, .bool false, J 0, J 0, .slice none 0 0, J 0, J 0, J 0, .bool false, J 0, J 0, J 0, J 0, .bool false] 33)).setRow n9 cc).heap.size := X9.lt
  clear B1 B2 q q1 hc16
  generalize ((w2.alloc (.cells #[.slice none 0 0, J 0, .slice none 0 0, .bool false, J 0, J 0, .slice none 0 0, J 0, J 0, J 0, .bool false, J 0, J 0, J 0, J 0, .bool false] 33)).setRow n9 cc) = w3 at *
  have hm := makeTold l.length hn
  have hm8 := makeSaid l.length hn
  simp only [Act.put]
  go_cut [10, 11] from 29 to 34 (fun a b wx => RunA l.length w3 a b wx)
  case first =>
    go_region
    all_goals
      go_wp2
      go_meet
      first
        | exact ⟨_, _, rfl, rfl, Box.past (Box.newAt rfl _ _) _, Box.newAt (by simp) _ _, by omega, by omega, by omega, bel_alloc (bel_alloc (Below.drew (Below.refl _ _)) _) _⟩
        | exact ⟨_, _, rfl, rfl, Box.newAt (by simp) _ _, Box.past (Box.newAt rfl _ _) _, by omega, by omega, by omega, bel_alloc (bel_alloc (Below.drew (Below.refl _ _)) _) _⟩
  case rest =>
    obtain ⟨n10, n11, rfl, rfl, X10, X11, hd, l10, l11, b4⟩ := hcut
    have X1 := X1.keep b4
    have X9 := X9.keep b4
    have CS := CS.keep b4
    have hI : RunI m l w (w.heap.size + 1 + 1) n9 n10 n11 wc.heap.size 0 wc := ⟨⟨cc, X9, CS, OC.less (fun q hq => by unfold RunBad at hq; omega)⟩, ⟨_, X10, by simp, fun j hj => absurd hj (Nat.not_lt_zero _)⟩, ⟨_, X11, by simp, fun j hj => absurd hj (Nat.not_lt_zero _)⟩, bel_trans B3.out b4, Nat.le_refl _, Nat.zero_le _⟩
    have t9 := X9.lt
    have t10 := X10.lt
    have t11 := X11.lt
    have X1L : Hid (Box wc (w.heap.size + 1) 33 zeroM) := X1
    have HI0 : Hid (RunI m l w (w.heap.size + 1 + 1) n9 n10 n11 wc.heap.size 0 wc) := hI
    have g9 : w.heap.size + 1 + 1 ≤ n9 := by omega
    have g10 : n9 < n10 := by omega
    have g11 : n9 < n11 := by omega
    clear hI b4 CS OC X1 X9 X10 X11 hm hm8 B3 hk16 hka
    obtain ⟨NB, hNB⟩ : ∃ n, n = wc.heap.size := ⟨_, rfl⟩
    rw [← hNB] at HI0 t9 t10 t11
    go_wp2
    go_loopw [12, 13, 14, 15, 16, 37] (fun _ _ _ _ _ s wx => ∃ i : Nat, s = J i ∧ RunI m l w (w.heap.size + 1 + 1) n9 n10 n11 NB i wx ∧ KeptB (fun q => q = n9 ∨ q = n10 ∨ q = n11) wc wx) (fun _ _ _ _ _ s _ => l.length - (intOf s).toNat)
    case atStart => exact ⟨0, rfl, HI0.out, KeptB.refl _ _⟩
    case round =>
      obtain ⟨i, rfl, hR, hK⟩ := hrel
      have HR : Hid (RunI m l w (w.heap.size + 1 + 1) n9 n10 n11 NB i wr) := hR
      have HK : Hid (KeptB (fun q => q = n9 ∨ q = n10 ∨ q = n11) wc wr) := hK
      have hil := hR.i
      clear hR hK
      by_cases hlt : i < l.length
      · obtain ⟨cs0, X9, M9, O9⟩ := HR.out.now
        obtain ⟨qs, X10, L10, -⟩ := HR.out.told
        obtain ⟨es, X11, L11, -⟩ := HR.out.said
        have HB : Hid (Below w.heap.size w wr) := HR.out.bel
        have hNB2 : NB ≤ wr.heap.size := HR.out.lo
        obtain ⟨hs0, ha0⟩ := M9.size
        obtain ⟨b, o, hva, hbl, hA⟩ : ∃ b o, va = some ⟨b, o, none⟩ ∧ b < w.heap.size ∧ AtHp w b (o + i * 7) (hpth l i) := by
          obtain ⟨a', c', e', -, -, q⟩ := HL.out
          simp only [Value.slice.injEq] at e'
          rcases q with q | ⟨b', o', q, q2, q3⟩
          · rw [q] at hlt; simp at hlt
          · exact ⟨b', o', by rw [e'.1, q], q2, q3 i hlt⟩
        subst hva
        obtain ⟨X, hX⟩ : ∃ X, hpth l i = X := ⟨_, rfl⟩
        have HX : Hid (hpth l i = X) := hX
        rw [hX] at hA
        clear hX
        obtain ⟨u, q0, q1, q2, q3, q4, q5, q6, hS⟩ := hA.keep HB.out hbl
        have HSd : Hid (Sl wr u X.ds) := hS.1
        obtain ⟨da, dn, dc, rfl⟩ : ∃ a k c, u = .slice a k c := let ⟨a, c, e, _⟩ := hS.1; ⟨a, _, c, e⟩
        have hlt1 : (i : Int) < (l.length : Int) := by omega
        have sb : b < wr.heap.size := Nat.lt_of_lt_of_le hbl HB.out.size
        obtain ⟨now, hnow⟩ : ∃ now, (rnM m (l.take i)).1 = now := ⟨_, rfl⟩
        have HNOW : Hid ((rnM m (l.take i)).1 = now) := hnow
        rw [hnow] at M9
        clear hnow hA hS
        have X9a := X9.past (.cells #[J X.kind, J X.num, J X.d, J X.a, J X.n, .bool X.wr, .slice da dn dc] 37)
        go_wp2_with (first
          | fail
          | (refine wpList_load_row rfl 33 (.tmp 9) rfl n9 rfl _ _ _ _ X9a Tryz.underlying33 rfl (by rw [infoM, hs0]) ?_))
        have BX : Hid (Below wr.heap.size wr (wr.alloc (.cells #[J X.kind, J X.num, J X.d, J X.a, J X.n, .bool X.wr, .slice da dn dc] 37))) := bel_alloc (Below.refl _ _) _
        refine (mDo_row (m := now) (x := X) (M9.keep BX.out) ⟨_, _, _, rfl, HSd.out.keep BX.out⟩).mono ?_
        rintro e w4 ⟨cs1, cs2, rfl, hM, hT, o1, o2, b4⟩
        have B4 : Hid (Below wr.heap.size wr w4) := bel_trans BX.out b4
        obtain ⟨hs1, ha1⟩ := hM.size
        obtain ⟨⟨Y, T⟩, hYT⟩ : ∃ R, hpR now X = R := ⟨_, rfl⟩
        have HYT : Hid (hpR now X = (Y, T)) := hYT
        rw [hYT] at hM hT
        obtain ⟨a4, n4, c4, a5, n5, c5, rfl, hd4, ht5⟩ := hT
        dsimp only at hM hd4 ht5
        obtain ⟨E, hE⟩ : ∃ E, hpE now X = E := ⟨_, rfl⟩
        have HEE : Hid (hpE now X = E) := hE
        rw [hE]
        clear hE hYT b4 X9a q0 q1 q2 q3 q4 q5 q6
        have z4 : wr.heap.size ≤ w4.heap.size := B4.out.size
        obtain ⟨n14, hn14⟩ : ∃ n, w4.heap.size = n := ⟨_, rfl⟩
        obtain ⟨n15, hn15⟩ : ∃ n, n14 + 1 = n := ⟨_, rfl⟩
        have X14 : Box ((w4.alloc (.cells #[.slice none 0 0, J 0, .slice none 0 0, .bool false, J 0, J 0, .slice none 0 0, J 0, J 0, J 0, .bool false, J 0, J 0, J 0, J 0, .bool false] 33)).alloc (.cells #[.bool false, .slice none 0 0, J 0, .slice none 0 0] 40)) n14 33 zeroM := (Box.newAt hn14.symm _ _).past _
        have X15 : Box ((w4.alloc (.cells #[.slice none 0 0, J 0, .slice none 0 0, .bool false, J 0, J 0, .slice none 0 0, J 0, J 0, J 0, .bool false, J 0, J 0, J 0, J 0, .bool false] 33)).alloc (.cells #[.bool false, .slice none 0 0, J 0, .slice none 0 0] 40)) n15 40 zeroT := Box.newAt (by simp; omega) _ _
        have h45 : n14 ≠ n15 := by omega
        have X9 := ((((X9.keep B4.out).past (.cells #[.slice none 0 0, J 0, .slice none 0 0, .bool false, J 0, J 0, .slice none 0 0, J 0, J 0, J 0, .bool false, J 0, J 0, J 0, J 0, .bool false] 33)).past (.cells #[.bool false, .slice none 0 0, J 0, .slice none 0 0] 40)).otherRow (show n9 ≠ n14 by omega) cs1).otherRow (show n9 ≠ n15 by omega) #[.bool T.done, .slice a4 n4 c4, J T.f, .slice a5 n5 c5]
        have X10 := ((((X10.keep B4.out).past (.cells #[.slice none 0 0, J 0, .slice none 0 0, .bool false, J 0, J 0, .slice none 0 0, J 0, J 0, J 0, .bool false, J 0, J 0, J 0, J 0, .bool false] 33)).past (.cells #[.bool false, .slice none 0 0, J 0, .slice none 0 0] 40)).otherRow (show n10 ≠ n14 by omega) cs1).otherRow (show n10 ≠ n15 by omega) #[.bool T.done, .slice a4 n4 c4, J T.f, .slice a5 n5 c5]
        have X11 := ((((X11.keep B4.out).past (.cells #[.slice none 0 0, J 0, .slice none 0 0, .bool false, J 0, J 0, .slice none 0 0, J 0, J 0, J 0, .bool false, J 0, J 0, J 0, J 0, .bool false] 33)).past (.cells #[.bool false, .slice none 0 0, J 0, .slice none 0 0] 40)).otherRow (show n11 ≠ n14 by omega) cs1).otherRow (show n11 ≠ n15 by omega) #[.bool T.done, .slice a4 n4 c4, J T.f, .slice a5 n5 c5]
        have B5 : Hid (Below wr.heap.size wr ((((w4.alloc (.cells #[.slice none 0 0, J 0, .slice none 0 0, .bool false, J 0, J 0, .slice none 0 0, J 0, J 0, J 0, .bool false, J 0, J 0, J 0, J 0, .bool false] 33)).alloc (.cells #[.bool false, .slice none 0 0, J 0, .slice none 0 0] 40)).setRow n14 cs1).setRow n15 #[.bool T.done, .slice a4 n4 c4, J T.f, .slice a5 n5 c5])) := bel_setRow (by omega) (bel_setRow (by omega) (bel_alloc (bel_alloc B4.out _) _) _) _
        have K5 : KeptB (fun q => q = n14 ∨ q = n15) w4 ((((w4.alloc (.cells #[.slice none 0 0, J 0, .slice none 0 0, .bool false, J 0, J 0, .slice none 0 0, J 0, J 0, J 0, .bool false, J 0, J 0, J 0, J 0, .bool false] 33)).alloc (.cells #[.bool false, .slice none 0 0, J 0, .slice none 0 0] 40)).setRow n14 cs1).setRow n15 #[.bool T.done, .slice a4 n4 c4, J T.f, .slice a5 n5 c5]) := (((KeptB.refl _ _).alloc _).alloc _ |>.setRow (n := n14) (.inl (.inl rfl)) _).setRow (n := n15) (.inl (.inr rfl)) _
        have K5B : Below w4.heap.size w4 ((((w4.alloc (.cells #[.slice none 0 0, J 0, .slice none 0 0, .bool false, J 0, J 0, .slice none 0 0, J 0, J 0, J 0, .bool false, J 0, J 0, J 0, J 0, .bool false] 33)).alloc (.cells #[.bool false, .slice none 0 0, J 0, .slice none 0 0] 40)).setRow n14 cs1).setRow n15 #[.bool T.done, .slice a4 n4 c4, J T.f, .slice a5 n5 c5]) := bel_setRow (by omega) (bel_setRow (by omega) (bel_alloc (bel_alloc (Below.refl _ _) _) _) _) _
        have hM := hM.keep K5B
        have hd4 := hd4.keep K5B
        have ht5 := ht5.keep K5B
        have Z14 := X14
        have Z15 := X15.otherRow h45.symm cs1
        have X14 := (X14.setRow cs1).otherRow h45 #[.bool T.done, .slice a4 n4 c4, J T.f, .slice a5 n5 c5]
        have X15 := Z15.setRow #[.bool T.done, .slice a4 n4 c4, J T.f, .slice a5 n5 c5]
        clear K5 K5B
        go_upto_region 12 with (first
          | fail
          | (refine wpList_store_row rfl 33 (.tmp 14) (.tmp 46) rfl n14 cs1 rfl rfl _ _ Z14 (by rw [infoM, hs1]) (by rw [hs1]; rfl) ha1 ?_)
          | (refine wpList_store_row rfl 40 (.tmp 15) (.tmp 47) rfl n15 _ rfl rfl _ _ Z15 infoTo rfl (by simp [Value.oneCell']) ?_))
        have h159 : n15 ≠ n9 := by omega
        clear Z14 Z15 hn14 hn15
        generalize ((((w4.alloc (.cells #[.slice none 0 0, J 0, .slice none 0 0, .bool false, J 0, J 0, .slice none 0 0, J 0, J 0, J 0, .bool false, J 0, J 0, J 0, J 0, .bool false] 33)).alloc (.cells #[.bool false, .slice none 0 0, J 0, .slice none 0 0] 40)).setRow n14 cs1).setRow n15 #[.bool T.done, .slice a4 n4 c4, J T.f, .slice a5 n5 c5]) = w5 at *
        have HST : Hid (∀ b : Bool, b = decide (E = 0) → RunI m l w (w.heap.size + 1 + 1) n9 n10 n11 NB (i + 1) ((((((RunW b w5 n9 cs1).setCell ⟨n10, i * 4, none⟩ (.bool T.done)).setCell ⟨n10, i * 4 + 1, none⟩ (.slice a4 n4 c4)).setCell ⟨n10, i * 4 + 2, none⟩ (J T.f)).setCell ⟨n10, i * 4 + 3, none⟩ (.slice a5 n5 c5)).setCell ⟨n11, i, none⟩ (J E))) := fun b hb =>
          RunI.step (x := ⟨T.done, a4, n4, c4, T.f, a5, n5, c5⟩) (t := T) HR.out hlt B5.out (fun now' y T' e1 e2 => by
            have e3 : now' = now := e1.trans HNOW.out
            rw [e3, HX.out, HYT.out] at e2
            simp only [Prod.mk.injEq] at e2
            obtain ⟨rfl, rfl⟩ := e2
            rw [e3, HX.out]
            exact ⟨HEE.out.symm, rfl, fun _ => hM⟩)
            (o1.less (fun q hq => by simp; omega)) ⟨rfl, rfl, hd4, ht5, (Off.fresh (o2 1 _ rfl)).mono (by simp), (Off.fresh (o2 3 _ rfl)).mono (by simp)⟩ ⟨by omega, by omega, by omega⟩ ⟨by omega, by omega, by omega, by omega⟩ ⟨by omega, by omega, hd⟩ hb
        have HKT : Hid (∀ w', KeptB (fun q => q = n9 ∨ q = n10 ∨ q = n11) w5 w' → KeptB (fun q => q = n9 ∨ q = n10 ∨ q = n11) wc w') := fun w' hk => (HK.out.below B5.out).trans hk (fun _ _ h => h)
        clear hM hd4 ht5 o1 o2 M9 O9 ha0
        by_cases h0 : E = 0
        · subst h0
          have q : ((0 : Int) == 0) = true := rfl
          have X10 := X10.otherRow (show n10 ≠ n9 by omega) cs1
          have X11 := X11.otherRow (show n11 ≠ n9 by omega) cs1
          have X15 := X15.otherRow h159 cs1
          go_upto_region 14 with (first
            | fail
            | (refine wpList_load_row rfl 33 (.tmp 14) rfl n14 rfl _ _ _ _ X14 Tryz.underlying33 rfl (by rw [infoM, hs1]) ?_)
            | (refine wpList_store_row rfl 33 (.tmp 9) (.tmp 51) rfl n9 cs1 rfl rfl _ _ X9 (by rw [infoM, hs1]) (by rw [hs1]; exact hs0) ha1 ?_))
          have HS : Hid (RunI m l w (w.heap.size + 1 + 1) n9 n10 n11 NB (i + 1) _ ∧ KeptB (fun q => q = n9 ∨ q = n10 ∨ q = n11) wc _) := ⟨HST.out true rfl, HKT.out _ ((((((KeptB.refl _ w5).setRow (n := n9) (.inl (.inl rfl)) cs1).setCell (p := ⟨n10, i * 4, none⟩) (.inl (.inr (.inl rfl))) (.bool T.done)).setCell (p := ⟨n10, i * 4 + 1, none⟩) (.inl (.inr (.inl rfl))) (.slice a4 n4 c4)).setCell (p := ⟨n10, i * 4 + 2, none⟩) (.inl (.inr (.inl rfl))) (J T.f)).setCell (p := ⟨n10, i * 4 + 3, none⟩) (.inl (.inr (.inl rfl))) (.slice a5 n5 c5) |>.setCell (p := ⟨n11, i, none⟩) (.inl (.inr (.inr rfl))) (J 0))⟩
          clear HST HKT X9 X14 q
          obtain ⟨y0, y1, y2, y3⟩ := X10.atQ (i := i) (by omega)
          have y4 := X11.atE (i := i) (by omega)
          have mk10 := X10.marksOf
          have mk11 := X11.marksOf
          have s10 := X10.lt
          have s11 := X11.lt
          have u0 : ¬ n10 = n11 := hd
          have u1 : ¬ n11 = n10 := fun e => hd e.symm
          obtain ⟨zz0, zz1, zz2, zz3, -, -, -, -, zz4⟩ := X15.four
          clear X10 X11 X15
          go_wp2_with fail
          exact ⟨⟨i + 1, by go_num, HS.out.1, HS.out.2⟩, by simp [intOf]; omega⟩
        · have q : (E == 0) = false := by simpa using h0
          have HS : Hid (RunI m l w (w.heap.size + 1 + 1) n9 n10 n11 NB (i + 1) _ ∧ KeptB (fun q => q = n9 ∨ q = n10 ∨ q = n11) wc _) := ⟨HST.out false (by simpa using h0), HKT.out _ (((((KeptB.refl _ w5).setCell (p := ⟨n10, i * 4, none⟩) (.inl (.inr (.inl rfl))) (.bool T.done)).setCell (p := ⟨n10, i * 4 + 1, none⟩) (.inl (.inr (.inl rfl))) (.slice a4 n4 c4)).setCell (p := ⟨n10, i * 4 + 2, none⟩) (.inl (.inr (.inl rfl))) (J T.f)).setCell (p := ⟨n10, i * 4 + 3, none⟩) (.inl (.inr (.inl rfl))) (.slice a5 n5 c5) |>.setCell (p := ⟨n11, i, none⟩) (.inl (.inr (.inr rfl))) (J E))⟩
          clear HST HKT X9 X14 h0
          go_upto_region 14 with fail
          obtain ⟨y0, y1, y2, y3⟩ := X10.atQ (i := i) (by omega)
          have y4 := X11.atE (i := i) (by omega)
          have mk10 := X10.marksOf
          have mk11 := X11.marksOf
          have s10 := X10.lt
          have s11 := X11.lt
          have u0 : ¬ n10 = n11 := hd
          have u1 : ¬ n11 = n10 := fun e => hd e.symm
          obtain ⟨zz0, zz1, zz2, zz3, -, -, -, -, zz4⟩ := X15.four
          clear X10 X11 X15
          go_wp2_with fail
          exact ⟨⟨i + 1, by go_num, HS.out.1, HS.out.2⟩, by simp [intOf]; omega⟩
      · obtain rfl : i = l.length := by omega
        have X1 := X1L.out.kept HK.out (by omega)
        obtain ⟨⟨cs1, X9, M9, O9⟩, ⟨qs, X10, L10, F10⟩, ⟨es, X11, L11, F11⟩, hbel, hlo, -⟩ := HR.out
        obtain ⟨hs1, ha1⟩ := M9.size
        go_wp2_with (first
          | fail
          | (refine wpList_load_row rfl 33 (.tmp 9) rfl n9 rfl _ _ _ _ X9 Tryz.underlying33 rfl (by rw [infoM, hs1]) ?_)
          | (refine wpList_store_row rfl 33 (.tmp 4) (.tmp 61) rfl (w.heap.size + 1) cs1 rfl rfl _ _ X1 (by rw [infoM, hs1]) (by rw [hs1]; rfl) ha1 ?_))
        have l1 := Box.loadM (X1.setRow cs1) hs1
        have K9 : KeptB (fun q => q = w.heap.size + 1) wr (wr.setRow (w.heap.size + 1) cs1) := (KeptB.refl (fun q => q = w.heap.size + 1) wr).setRow (n := w.heap.size + 1) (.inl rfl) _
        rw [List.take_length] at M9 F10 F11
        have hX := rnX_ok HZ.out
        obtain ⟨k1, k2⟩ := rnM_len l m
        have hes : es = (rnM m l).2.2 := list_ext_getD (by omega) (fun j hj => F11 j (by omega))
        have hq1 : (rnX m l).2.1.length = l.length := by rw [hX]; exact k1
        have hq2 : (rnX m l).2.2.length = l.length := by rw [hX]; exact k2
        refine bodyPost_ret (v := .tuple #[.agg cs1, .slice (some ⟨n10, 0, none⟩) l.length l.length, .slice (some ⟨n11, 0, none⟩) l.length l.length, J 0]) (by simp [results, Tryz.results23, asAddr, l1]) rfl ⟨cs1, some ⟨n10, 0, none⟩, l.length, some ⟨n11, 0, none⟩, l.length, by rw [hq1, hq2, HZ.out], ?_, ?_, ?_, ?_, ?_, ?_, ?_⟩
        · rw [hX]; exact M9.kept K9 O9 (fun q hq => by unfold RunBad; omega)
        · have Y10 := X10.kept K9 (by omega)
          have Q := Y10.qs (by unfold maxLen; omega)
          rw [L10] at Q
          rw [hq1, hX]
          refine ⟨qs, Q, ⟨by omega, fun j hj => ?_⟩⟩
          exact ((F10 j (by omega)).kept K9 (fun q hq => by omega)).mono (by omega)
        · have Y11 := X11.kept K9 (by omega)
          have Q := Y11.sl (by unfold maxLen; omega)
          rw [L11] at Q
          rw [hq2, hX, ← hes]
          exact Q
        · exact O9.less (fun q hq => by unfold RunBad; omega)
        · exact fresh_at (by omega) _ _ _
        · exact fresh_at (by omega) _ _ _
        · exact bel_setRow (by omega) hbel _
theorem mRun_row {m : Mc} {l : List Hp} {cs : Array Value} {v : Value} {w : World} (hm : IsM w m cs) (hl : Hps w v l) : Calls Tryz.prog 23 #[.agg cs, v] w fun e w' => RunC m l w e w' := by
  by_cases h : chkM m = 0
  · by_cases hn : l.length ≤ 120
    · exact mRun_ok hm hl h hn
    · exact mRun_many hm hl h hn
  · exact mRun_bad hm hl h
def tab : List Int := wth [9, 33, 10, 3, 16, 49, 24, 159, 25, 139] 5
theorem tab_len : tab.length = 512 := wth_len _ _
set_option maxHeartbeats 4000000 in
theorem tables_own (w : World) : Calls Tryz.prog 40 #[] w fun e w' =>
    ∃ g, e = .returned (.tuple #[.agg #[.slice (some ⟨g, 0, none⟩) 512 512], .agg #[J 2, J 1, .slice none 0 0, J 40, J 0, J 0, .bool false, J 0, J 41, J 0, J 0, .bool false]]) ∧ w'.heap[g]? = some (.cells (intCells tab) 3 (0, 0)) ∧ w.heap.size ≤ g ∧ Below w.heap.size w w' := by
  go_enter Tryz.func40, Tryz.ntmps40
  go_wp2_with fail
  refine (with_own _ 0 10 [9, 33, 10, 3, 16, 49, 24, 159, 25, 139] 5 _ ?_ rfl (by decide) (by decide)).mono ?_
  · exact sl_block (heap_at (by simp)) rfl rfl (by simp [maxLen])
  rintro e w1 ⟨g, rfl, hS, b1, hg, cs, hgc, hcs⟩
  have X0 := (((Box.newAt (n := w.heap.size) rfl 24 #[.slice none 0 0]).past _).past _).keep b1
  have X1 := ((Box.newAt (n := w.heap.size + 1) (by simp) 31 #[J 0, J 0, .slice none 0 0, J 0, J 0, J 0, .bool false, J 0, J 0, J 0, J 0, .bool false]).past _).keep b1
  have B1 : Hid (Below w.heap.size w w1) := bel_trans (bel_alloc (bel_alloc (bel_alloc (Below.refl _ _) _) _) _) b1
  have hg' : w.heap.size + 1 + 1 + 1 ≤ g := by simpa using hg
  have hcc : cs = intCells tab := by
    apply Array.ext'
    rw [hcs, intCells_list]; rfl
  have HG : Hid (w1.heap[g]? = some (.cells (intCells tab) 3 (0, 0))) := by show _ = _; rw [hgc, hcc]
  clear b1 hS hg hgc hcs hcc
  obtain ⟨r0, r1, s0⟩ := X0.one
  obtain ⟨⟨u0, u1, u2, u3, u4, u5, u6, u7, u8, u9, u10, u11⟩, s1⟩ := X1.twelve
  obtain ⟨y0, y1, y2, y3, y4, y5, y6, y7, y8, y9, y10, y11⟩ := X1.marks
  go_wp2
  refine bodyPost_ret (v := .tuple #[.agg #[.slice (some ⟨g, 0, none⟩) 512 512], .agg #[J 2, J 1, .slice none 0 0, J 40, J 0, J 0, .bool false, J 0, J 41, J 0, J 0, .bool false]]) (by simp [results, Tryz.results40, go_sem, *]) rfl ⟨g, rfl, ?_, by omega, ?_⟩
  · exact (Box.other (p := ⟨w.heap.size, 0, none⟩) HG.out (by dsimp only; omega) _).other12 (by omega) _ _ _ _ _ _ _ _ _ _ _ _
  · exact bel_set12 (by omega) (bel_set (p := ⟨w.heap.size, 0, none⟩) (Nat.le_refl _) B1.out _) _ _ _ _ _ _ _ _ _ _ _ _
theorem sl_tab {w : World} {g : Nat} {zs : List Int} (h : w.heap[g]? = some (.cells (intCells zs) 3 (0, 0))) (hl : zs.length = 512) : Sl w (.slice (some ⟨g, 0, none⟩) 512 512) zs :=
  sl_block h (intCells_list _) hl.symm (by rw [hl]; simp [maxLen])
end Go.Proofs.YthlhocneggcekaaGreat
