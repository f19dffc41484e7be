/-
  Laid together: ConcatQ, AppendEr, ConcatE, AtN.
-/
import Derived.Test.YthlhocneggcekaaGreatB1
import Derived.Test.YthlhocneggcekaaGreatB2
import Derived.Test.YthlhocneggcekaaGreatB3
import Derived.Test.YthlhocneggcekaaGreatB4
import Derived.Test.YthlhocneggcekaaGreatB5
import Derived.Test.YthlhocneggcekaaGreatB6
import Derived.Test.YthlhocneggcekaaGreatB7
import Derived.Test.YthlhocneggcekaaGreatB8
import Derived.Test.YthlhocneggcekaaGreatB9
import Derived.Test.YthlhocneggcekaaGreatB10
import Derived.Test.YthlhocneggcekaaGreatB11
import Derived.Test.YthlhocneggcekaaGreatB12
import Derived.Test.YthlhocneggcekaaGreatB13
import Derived.Test.YthlhocneggcekaaGreatB14
import Derived.Test.YthlhocneggcekaaGreatB15
import Derived.Test.YthlhocneggcekaaGreatB16
import Derived.Test.YthlhocneggcekaaGreatB17
import Derived.Test.YthlhocneggcekaaGreatB18
import Derived.Test.YthlhocneggcekaaGreatB19
import Derived.Test.YthlhocneggcekaaGreatB20
import Derived.Test.YthlhocneggcekaaGreatB21
import Derived.Test.YthlhocneggcekaaGreatB22
import Derived.Test.YthlhocneggcekaaGreatB23
import Derived.Test.YthlhocneggcekaaGreatB24
import Derived.Test.YthlhocneggcekaaGreatB25
import Derived.Test.YthlhocneggcekaaGreatB26
import Derived.Test.YthlhocneggcekaaGreatB27
import Derived.Test.YthlhocneggcekaaGreatB28
import Derived.Test.YthlhocneggcekaaGreatB29
import Derived.Test.YthlhocneggcekaaGreatB30
import Derived.Test.YthlhocneggcekaaGreatB31
import Derived.Test.YthlhocneggcekaaGreatB32
import Derived.Test.YthlhocneggcekaaGreatB33
import Derived.Test.YthlhocneggcekaaGreatB34
import Derived.Test.YthlhocneggcekaaGreatB35
import Derived.Test.YthlhocneggcekaaGreatB36
import Derived.Test.YthlhocneggcekaaGreatB37
import Derived.Test.YthlhocneggcekaaGreatB38
import Derived.Test.YthlhocneggcekaaGreatB39
import Derived.Test.YthlhocneggcekaaGreatB40
import Derived.Test.YthlhocneggcekaaGreatB41
import Derived.Test.YthlhocneggcekaaGreatB42
import Derived.Test.YthlhocneggcekaaGreatB43
import Derived.Test.YthlhocneggcekaaGreatB44
import Derived.Test.YthlhocneggcekaaGreatP1
import Derived.Lib.AppendZerosOnto
import Derived.Lib.SliceRun
namespace Go.Proofs.YthlhocneggcekaaGreat
open Go.RowKit
theorem Qs.shape {w : World} {v : Value} {l : List Tq} (h : Qs w v l) : ∃ a cap, v = .slice a l.length cap ∧ Qs w (.slice a l.length cap) l := by
  obtain ⟨a, cap, rfl, r⟩ := h
  exact ⟨a, cap, rfl, a, cap, rfl, r⟩
theorem bel_grownQ {a w w' : World} {v : Value} {l : List Tq} (h : Below a.heap.size a w) (hown : OwnQ w a.heap.size v l) (hg : w.grownBy w' v.ownBlock) : Below a.heap.size a w' :=
  h.grown hg h.size hown.base
theorem grow_Q0 (w : World) : Calls Tryz.prog 56 #[.slice none 0 0, J 0] w fun e w' => e = .returned (.slice none 0 0) ∧ w' = w := by
  go_enter Tryz.func56, Tryz.ntmps56
  go_wp2
  go_ret
  exact ⟨rfl, rfl⟩
set_option maxHeartbeats 4000000 in
theorem grow_Q (n : Nat) (h0 : 0 < n) (hn : n ≤ 1000) (w : World) :
    Calls Tryz.prog 56 #[.slice none 0 0, J n] w fun e w' => ∃ g c, e = .returned (.slice (some ⟨g, 0, none⟩) 0 c) ∧ OwnQ w' w.heap.size (.slice (some ⟨g, 0, none⟩) 0 c) [] ∧ Below w.heap.size w w' := by
  obtain ⟨i, hi, hz, hsz, hby⟩ := infoTold
  obtain ⟨z, hz'⟩ : ∃ z, z = Value.agg #[.bool false, .slice none 0 0, J 0, .slice none 0 0] := ⟨_, rfl⟩
  rw [← hz'] at hz
  have hzc : z.cells.size = 4 := by subst hz'; rfl
  clear hz'
  have hold : (Builtin.firstCells i.size 0 (.slice none 0 0)).run Tryz.prog w.drew = .ok (List.toArray []) w.drew := run_firstCells_none w.drew i.size 0 0 0
  have hr : ∀ ty, (Builtin.append_ #[57, 3] ty #[.slice none 0 0, J n]).run Tryz.prog w = _ := fun ty =>
    Lib.run_append_grow_zeros w 57 3 ty 40 i z .i64 .i64 Tryz.underlying57 Tryz.underlying3 hi hz none 0 0 [] hold n h0 (by omega) (by omega) (by omega) (by rw [hby]; omega) (growslice_fits (by omega) (by rw [hby]; omega))
  simp only [Nat.zero_add] at hr
  obtain ⟨G, hG⟩ : ∃ G, grownCap w n 0 40 = G := ⟨_, rfl⟩
  rw [hG] at hr
  have hGn : n ≤ G := by rw [← hG]; exact grownCap_ge w _ _ _
  have hGm : G ≤ maxLen := by rw [← hG]; exact grownCap_le_maxLen w n 0 _ (by unfold maxLen; omega)
  obtain ⟨cs, hcs⟩ : ∃ cs, (List.toArray [] ++ Builtin.zeroCells z.cells n ++ Builtin.zeroCells z.cells (G - n)) = cs := ⟨_, rfl⟩
  rw [hcs] at hr
  have hcz : cs.size = G * 4 := by
    rw [← hcs]
    simp only [Array.size_append, size_zeroCells, hzc]
    simp
    omega
  have hG63 : G ≤ 9223372036854775807 := by unfold maxLen at hGm; omega
  have h1 : ¬ ((n : Int) < 0) := by omega
  have h4 : (n : Int) > 0 := by omega
  have HB : Hid (Below w.heap.size w (w.drew.alloc (.cells cs 40))) := bel_alloc (Below.drew (Below.refl _ _)) _
  have HO : Hid (OwnQ (w.drew.alloc (.cells cs 40)) w.heap.size (.slice (some ⟨w.heap.size, 0, none⟩) 0 G) []) := by
    refine ⟨by simp, .inr ⟨w.heap.size, G, cs, rfl, Nat.le_refl _, ?_, Nat.zero_le _, hGm, hcz, by simp⟩⟩
    exact heap_alloc_new w.drew _
  clear hi hz hsz hby hold hG hcs hcz hzc hGm
  go_enter Tryz.func56, Tryz.ntmps56
  go_wp2_with (at_builtin; refine Lib.wpList_append_run _ rfl _ _ _ _ rfl _ _ rfl rfl _ _ (hr _) ?_)
  all_goals (go_ret; exact ⟨_, _, rfl, HO.out, HB.out⟩)
theorem run_append_Q0 (w : World) (ty : TypeId) (a : Option Addr) (c : Nat) : (Builtin.append_ #[57, 57] ty #[.slice none 0 0, .slice a 0 c]).run Tryz.prog w = .ok (.slice none 0 0) w := by
  obtain ⟨i, hi, hz, hsz, hby⟩ := infoTold
  cases a <;> simp [Builtin.append_, run_underlying Tryz.underlying57, sizeOf, typeInfo, hi, Builtin.lenOf, Builtin.firstCells, loadCells, loadCellsFrom]
def CatQa (w : World) (a b : Nat) (s3 s11 : Value) (wx : World) : Prop := w = wx ∧ ((s11 = J 0 ∧ s3 = J 0) ∨ (s11 = J 1 ∧ s3 = J a) ∨ (s11 = J 2 ∧ s3 = J (a + b : Nat)))
def CatQb (w W : World) (l1 l2 : List Tq) (s6 s27 : Value) (wx : World) : Prop :=
  Below w.heap.size w wx ∧ W.heap.size ≤ wx.heap.size ∧ ∃ g c, (s27 = J 0 ∧ s6 = .slice (some ⟨g, 0, none⟩) 0 c ∧ OwnQ wx w.heap.size (.slice (some ⟨g, 0, none⟩) 0 c) []) ∨ (s27 = J 1 ∧ s6 = .slice (some ⟨g, 0, none⟩) l1.length c ∧ OwnQ wx w.heap.size (.slice (some ⟨g, 0, none⟩) l1.length c) l1) ∨ (s27 = J 2 ∧ s6 = .slice (some ⟨g, 0, none⟩) (l1 ++ l2).length c ∧ OwnQ wx w.heap.size (.slice (some ⟨g, 0, none⟩) (l1 ++ l2).length c) (l1 ++ l2))
def CatQn (w : World) (s6 s27 : Value) (wx : World) : Prop := w = wx ∧ s6 = .slice none 0 0 ∧ (s27 = J 0 ∨ s27 = J 1 ∨ s27 = J 2)
set_option maxRecDepth 10000 in
set_option maxHeartbeats 4000000 in
theorem concat_Q (v1 v2 : Value) (l1 l2 : List Tq) (n : Nat) (t : TypeId) (w : World) (hX : Box w n t #[v1, v2]) (h1 : Qs w v1 l1) (h2 : Qs w v2 l2) (hn : l1.length + l2.length ≤ 1000) :
    Calls Tryz.prog 28 #[.slice (some ⟨n, 0, none⟩) 2 2] w fun e w' => ∃ a c, e = .returned (.slice a (l1 ++ l2).length c) ∧ OwnQ w' w.heap.size (.slice a (l1 ++ l2).length c) (l1 ++ l2) ∧ Below w.heap.size w w' := by
  obtain ⟨a1, c1, rfl, -⟩ := h1.shape
  obtain ⟨a2, c2, rfl, -⟩ := h2.shape
  have H1 : Hid (Qs w (.slice a1 l1.length c1) l1) := h1
  have H2 : Hid (Qs w (.slice a2 l2.length c2) l2) := h2
  have x0 : w.cell? ⟨n, 0, none⟩ = some (.slice a1 l1.length c1) := hX.cell 0
  have x1 : w.cell? ⟨n, 1, none⟩ = some (.slice a2 l2.length c2) := hX.cell 1
  clear h1 h2
  go_enter Tryz.func28, Tryz.ntmps28
  go_wp2
  go_loopw [3, 5, 11] (fun s3 _ s11 wx => CatQa w l1.length l2.length s3 s11 wx) (fun _ _ s11 _ => 2 - (intOf s11).toNat)
  case atStart => exact ⟨rfl, .inl ⟨rfl, rfl⟩⟩
  case round =>
    obtain ⟨rfl, hrel⟩ := hrel
    rcases hrel with ⟨rfl, rfl⟩ | ⟨rfl, rfl⟩ | ⟨rfl, rfl⟩
    · have q1 : ¬ (l1.length : Int) < 0 := by omega
      go_wp2
      exact ⟨⟨rfl, .inr (.inl ⟨rfl, rfl⟩)⟩, by simp [intOf]⟩
    · have q1 : ¬ (l1.length : Int) + (l2.length : Int) < 0 := by omega
      have q2 : wrap64 ((l1.length : Int) + (l2.length : Int)) = (l1.length : Int) + (l2.length : Int) := by unfold wrap64; omega
      go_wp2
      exact ⟨⟨rfl, .inr (.inr ⟨rfl, by go_num⟩)⟩, by simp [intOf]⟩
    · by_cases h0 : l1.length + l2.length = 0
      · rw [h0]
        have e1 : l1 = [] := List.length_eq_zero_iff.1 (by omega)
        have e2 : l2 = [] := List.length_eq_zero_iff.1 (by omega)
        subst e1 e2
        simp only [List.length_nil] at x0 x1 H1 H2
        go_wp2_with fail
        refine (grow_Q0 _).mono ?_
        rintro e w1 ⟨rfl, hw⟩
        replace hw := hw.symm
        subst hw
        go_wp2
        go_loopw [6, 8, 27] (fun s6 _ s27 wx => CatQn w s6 s27 wx) (fun _ _ s27 _ => 2 - (intOf s27).toNat)
        case atStart => exact ⟨rfl, rfl, .inl rfl⟩
        case round =>
          obtain ⟨rfl, rfl, hrel⟩ := hrel
          rcases hrel with rfl | rfl | rfl
          · go_wp2_with (at_builtin; refine Lib.wpList_append_run _ rfl _ _ _ _ rfl _ _ rfl rfl _ _ (run_append_Q0 _ _ _ _) ?_)
            exact ⟨⟨rfl, rfl, .inr (.inl rfl)⟩, by simp [intOf]⟩
          · go_wp2_with (at_builtin; refine Lib.wpList_append_run _ rfl _ _ _ _ rfl _ _ rfl rfl _ _ (run_append_Q0 _ _ _ _) ?_)
            exact ⟨⟨rfl, rfl, .inr (.inr rfl)⟩, by simp [intOf]⟩
          · go_wp2
            go_ret
            exact ⟨none, 0, rfl, OwnQ.nothing _ _, Below.refl _ _⟩
      · go_wp2_with fail
        refine (grow_Q (l1.length + l2.length) (by omega) hn _).mono ?_
        rintro e w1 ⟨g, c, rfl, hO, hB⟩
        have HB1 : Hid (Below w.heap.size w w1) := hB
        have HO : Hid (OwnQ w1 w.heap.size (.slice (some ⟨g, 0, none⟩) 0 c) []) := hO
        have s1 := hX.lt
        clear hO hB
        go_wp2
        go_loopw [6, 8, 27] (fun s6 _ s27 wx => CatQb w w1 l1 l2 s6 s27 wx) (fun _ _ s27 _ => 2 - (intOf s27).toNat)
        case atStart => exact ⟨HB1.out, Nat.le_refl _, g, c, .inl ⟨rfl, rfl, HO.out⟩⟩
        case round =>
          obtain ⟨hB, hsz, g, c, hrel⟩ := hrel
          have HB : Hid (Below w.heap.size w wr) := hB
          have hw : w.heap.size ≤ wr.heap.size := hB.size
          have x0 := ((bcell hB).1 n 0 s1).trans x0
          have x1 := ((bcell hB).1 n 1 s1).trans x1
          have HL1 : Hid (Qs wr (.slice a1 l1.length c1) l1) := H1.out.keep hB
          have HL2 : Hid (Qs wr (.slice a2 l2.length c2) l2) := H2.out.keep hB
          have s2 : n < wr.heap.size := by omega
          clear hB
          rcases hrel with ⟨rfl, rfl, hO⟩ | ⟨rfl, rfl, hO⟩ | ⟨rfl, rfl, hO⟩
          · have HO2 : Hid (OwnQ wr w.heap.size (.slice (some ⟨g, 0, none⟩) 0 c) []) := hO
            clear hO
            go_wp2_with (at_builtin; refine wpList_append_Q rfl (.tmp 31) (.tmp 32) rfl w.heap.size _ _ [] l1 rfl rfl HO2.out HL1.out (by simp; omega) (by omega) (.inl ⟨_, _, _, rfl⟩) ?_)
            intro g2 c2' w2 hO2 hgr hb hat
            have HO3 : Hid (OwnQ w2 w.heap.size (.slice (some ⟨g2, 0, none⟩) l1.length c2') l1) := hO2
            have B3 : Hid (Below w.heap.size w w2) := bel_grownQ HB.out HO2.out hgr
            have z3 : wr.heap.size ≤ w2.heap.size := hgr.size
            clear hO2 hgr hb hat
            go_wp2
            exact ⟨⟨B3.out, by omega, g2, c2', .inr (.inl ⟨rfl, rfl, HO3.out⟩)⟩, by simp [intOf]⟩
          · have HO2 : Hid (OwnQ wr w.heap.size (.slice (some ⟨g, 0, none⟩) l1.length c) l1) := hO
            clear hO
            go_wp2_with (at_builtin; refine wpList_append_Q rfl (.tmp 31) (.tmp 32) rfl w.heap.size _ _ l1 l2 rfl rfl HO2.out HL2.out hn (by omega) (.inl ⟨_, _, _, rfl⟩) ?_)
            intro g2 c2' w2 hO2 hgr hb hat
            have HO3 : Hid (OwnQ w2 w.heap.size (.slice (some ⟨g2, 0, none⟩) (l1 ++ l2).length c2') (l1 ++ l2)) := by show OwnQ _ _ _ _; simpa using hO2
            have B3 : Hid (Below w.heap.size w w2) := bel_grownQ HB.out HO2.out hgr
            have z3 : wr.heap.size ≤ w2.heap.size := hgr.size
            clear hO2 hgr hb hat
            go_wp2
            exact ⟨⟨B3.out, by omega, g2, c2', .inr (.inr ⟨rfl, by simp, HO3.out⟩)⟩, by simp [intOf]⟩
          · have HO2 : Hid (OwnQ wr w.heap.size (.slice (some ⟨g, 0, none⟩) (l1 ++ l2).length c) (l1 ++ l2)) := hO
            clear hO
            go_wp2
            go_ret
            exact ⟨_, _, rfl, HO2.out, HB.out⟩
theorem concat_Qat {v1 v2 : Value} {l1 l2 : List Tq} {n : Nat} {t : TypeId} {w : World} {L : List Tq} (hX : Box w n t #[v1, v2]) (h1 : Qs w v1 l1) (h2 : Qs w v2 l2) (hn : l1.length + l2.length ≤ 1000) (hL : l1 ++ l2 = L) :
    Calls Tryz.prog 28 #[.slice (some ⟨n, 0, none⟩) 2 2] w fun e w' => ∃ a c, e = .returned (.slice a L.length c) ∧ OwnQ w' w.heap.size (.slice a L.length c) L ∧ Below w.heap.size w w' := by
  subst hL
  exact concat_Q v1 v2 l1 l2 n t w hX h1 h2 hn
def OwnE (w : World) (base : Nat) (v : Value) (l : List Int) : Prop := w.ownsRow base 41 1 v l.length (l.map (fun z => J z))
theorem OwnE.nothing (w : World) (base : Nat) : OwnE w base (.slice none 0 0) [] := World.ownsRow_nil w base _ _
theorem OwnE.base {w : World} {base : Nat} {v : Value} {l : List Int} (h : OwnE w base v l) : ∀ k, v.ownBlock = some k → base ≤ k := fun k hk => (World.ownsRow.lt h k hk).1
theorem OwnE.sl {w : World} {base : Nat} {v : Value} {l : List Int} (h : OwnE w base v l) (hm : l.length ≤ maxLen) : Sl w v l := by
  have h' := h
  rcases h.2 with ⟨rfl, h0⟩ | ⟨g, cap, cur, rfl, hb, hg, hnc, hcm, hcs, htake⟩
  · obtain rfl : l = [] := List.eq_nil_of_length_eq_zero h0
    exact Sl.nil w _ _
  · refine ⟨_, cap, rfl, hm, .inr ⟨g, 0, rfl, (World.ownsRow.lt h' g rfl).2, fun i hi => ?_⟩⟩
    rw [Nat.zero_add, World.ownsRow.cellAt h' i (by omega), List.getElem?_map, List.getElem?_eq_getElem hi]
    simp [nth, hi]
theorem run_append_Er (w : World) (ty : TypeId) (base : Nat) (v x : Value) (l1 l2 : List Int) (hown : OwnE w base v l1) (hx : Sl w x l2) (hn : l1.length + l2.length ≤ 1000) (hbase : base ≤ w.heap.size) (hne : (∃ c m n, v = .slice (some c) m n) ∨ l2 ≠ []) :
    ∃ g cap w', (Builtin.append_ #[58, 58] ty #[v, x]).run Tryz.prog w = .ok (.slice (some ⟨g, 0, none⟩) (l1 ++ l2).length cap) w' ∧ OwnE w' base (.slice (some ⟨g, 0, none⟩) (l1 ++ l2).length cap) (l1 ++ l2) ∧ w.grownBy w' v.ownBlock ∧ (v.ownBlock = some g ∨ g = w.heap.size) := by
  obtain ⟨i, hi, hz, hsz, hby⟩ := infoErrno
  obtain ⟨a, cap, rfl, hl, h⟩ := hx
  by_cases h0 : l2 = []
  · subst h0
    rcases hown.2 with ⟨rfl, h0⟩ | ⟨g, c, cur, rfl, hbg, hg, hnc, hcm, hcs, htake⟩
    · rcases hne with ⟨_, _, _, hne⟩ | hne
      · simp at hne
      · exact absurd rfl hne
    · refine ⟨g, c, w, ?_, ?_, ⟨rfl, rfl, rfl, Nat.le_refl _, fun _ _ _ => rfl⟩, .inl rfl⟩
      · cases a <;>
        simp [Builtin.append_, run_underlying Tryz.underlying58, sizeOf, typeInfo, hi, Builtin.lenOf, Builtin.firstCells, loadCells, loadCellsFrom, hnc, storeCells]
      · simpa using hown
  · have hne := h0
    rcases h with rfl | ⟨b, o, rfl, hb, hc⟩
    · exact absurd rfl hne
    · have hpos : 0 < l2.length := List.length_pos_iff.2 hne
      obtain ⟨g, c, w', hr, ho, hgr, hat, _⟩ := run_append_lies (P := Tryz.prog) w 58 ty base 41 i _ 1 8 Tryz.underlying58 hi hz hsz hby rfl (by omega) v l1.length (l1.map (fun z => J z)) hown ⟨b, o, none⟩ l2.length cap (l2.map (fun z => J z)) (by simp)
        (fun j u hu => by
          rw [List.getElem?_map] at hu
          by_cases hj : j < l2.length
          · rw [List.getElem?_eq_getElem hj] at hu
            simp only [Option.map_some, Option.some.injEq] at hu
            have ha : Addr.add ⟨b, o, none⟩ j = ⟨b, o + j, none⟩ := by unfold Addr.add; split <;> simp_all
            rw [ha, hc j hj, ← hu]
            simp [nth, hj]
          · rw [List.getElem?_eq_none (by omega)] at hu
            simp at hu)
        (fun u hu => by
          obtain ⟨z, _, rfl⟩ := List.mem_map.1 hu
          rfl) hpos (by unfold maxLen; omega) (by omega) hbase w.heap.size rfl
      refine ⟨g, c, w', ?_, ?_, hgr, hat⟩
      · rw [List.length_append]; exact hr
      · unfold OwnE; rw [List.length_append, List.map_append]; exact ho
theorem wp_append_Er {w : World} {o : Oper} {a : Act} {K : Act → World → Prop} {Q : Exit → Act → World → Prop} (s x : Operand)
    (ho : o.op = .call { callee := .builtin .append, args := #[s, x], argTypes := #[58, 58] })
    (base : Nat) (v u : Value) (l1 l2 : List Int) (hs : a.eval s = v) (hu : a.eval x = u) (hown : OwnE w base v l1) (hx : Sl w u l2) (hn : l1.length + l2.length ≤ 1000) (hbase : base ≤ w.heap.size) (hne : (∃ c m n, v = .slice (some c) m n) ∨ l2 ≠ [])
    (h : ∀ g cap w', OwnE w' base (.slice (some ⟨g, 0, none⟩) (l1 ++ l2).length cap) (l1 ++ l2) → w.grownBy w' v.ownBlock → Below base w w' → (v.ownBlock = some g ∨ g = w.heap.size) → K (a.put o.dst (.slice (some ⟨g, 0, none⟩) (l1 ++ l2).length cap)) w') : o.wp Tryz.prog a w K Q := by
  obtain ⟨g, cap, w', hr, h2, h3, h4⟩ := run_append_Er w o.type base v u l1 l2 hown hx hn hbase hne
  unfold Oper.wp execOp
  simp only [ho, resolve, invoke, builtin, Sem.run_bind, Sem.run_pure, Result.andThen_ok, List.map_toArray, List.map_cons, List.map_nil, hs, hu, hr]
  exact h g cap w' h2 h3 ((Below.refl base w).grown h3 hbase hown.base) h4
theorem wpList_append_Er {w : World} {ops : Array Oper} {rest : List Oper} {o : Oper} {a : Act} {Q : Exit → Act → World → Prop} (hgd : o.guard = none) (s x : Operand)
    (ho : o.op = .call { callee := .builtin .append, args := #[s, x], argTypes := #[58, 58] })
    (base : Nat) (v u : Value) (l1 l2 : List Int) (hs : a.eval s = v) (hu : a.eval x = u) (hown : OwnE w base v l1) (hx : Sl w u l2) (hn : l1.length + l2.length ≤ 1000) (hbase : base ≤ w.heap.size) (hne : (∃ c m n, v = .slice (some c) m n) ∨ l2 ≠ [])
    (h : ∀ g cap w', OwnE w' base (.slice (some ⟨g, 0, none⟩) (l1 ++ l2).length cap) (l1 ++ l2) → w.grownBy w' v.ownBlock → Below base w w' → (v.ownBlock = some g ∨ g = w.heap.size) → wpList Tryz.prog ops Q rest (a.put o.dst (.slice (some ⟨g, 0, none⟩) (l1 ++ l2).length cap)) w') :
    wpList Tryz.prog ops Q (o :: rest) a w :=
  wpList_plain hgd fun _ hK => wp_append_Er s x ho base v u l1 l2 hs hu hown hx hn hbase hne fun g cap w' h2 h3 hb h4 => hK _ _ (h g cap w' h2 h3 hb h4)
theorem bel_grownEr {a w w' : World} {v : Value} {l : List Int} (h : Below a.heap.size a w) (hown : OwnE w a.heap.size v l) (hg : w.grownBy w' v.ownBlock) : Below a.heap.size a w' :=
  h.grown hg h.size hown.base
theorem grow_Er0 (w : World) : Calls Tryz.prog 55 #[.slice none 0 0, J 0] w fun e w' => e = .returned (.slice none 0 0) ∧ w' = w := by
  go_enter Tryz.func55, Tryz.ntmps55
  go_wp2
  go_ret
  exact ⟨rfl, rfl⟩
set_option maxHeartbeats 4000000 in
theorem grow_Er (n : Nat) (h0 : 0 < n) (hn : n ≤ 1000) (w : World) :
    Calls Tryz.prog 55 #[.slice none 0 0, J n] w fun e w' => ∃ g c, e = .returned (.slice (some ⟨g, 0, none⟩) 0 c) ∧ OwnE w' w.heap.size (.slice (some ⟨g, 0, none⟩) 0 c) [] ∧ Below w.heap.size w w' := by
  obtain ⟨i, hi, hz, hsz, hby⟩ := infoErrno
  obtain ⟨z, hz'⟩ : ∃ z, z = J 0 := ⟨_, rfl⟩
  rw [← hz'] at hz
  have hzc : z.cells.size = 1 := by subst hz'; rfl
  clear hz'
  have hold : (Builtin.firstCells i.size 0 (.slice none 0 0)).run Tryz.prog w.drew = .ok (List.toArray []) w.drew := run_firstCells_none w.drew i.size 0 0 0
  have hr : ∀ ty, (Builtin.append_ #[58, 3] ty #[.slice none 0 0, J n]).run Tryz.prog w = _ := fun ty =>
    Lib.run_append_grow_zeros w 58 3 ty 41 i z .i64 .i64 Tryz.underlying58 Tryz.underlying3 hi hz none 0 0 [] hold n h0 (by omega) (by omega) (by omega) (by rw [hby]; omega) (growslice_fits (by omega) (by rw [hby]; omega))
  simp only [Nat.zero_add] at hr
  obtain ⟨G, hG⟩ : ∃ G, grownCap w n 0 41 = G := ⟨_, rfl⟩
  rw [hG] at hr
  have hGn : n ≤ G := by rw [← hG]; exact grownCap_ge w _ _ _
  have hGm : G ≤ maxLen := by rw [← hG]; exact grownCap_le_maxLen w n 0 _ (by unfold maxLen; omega)
  obtain ⟨cs, hcs⟩ : ∃ cs, (List.toArray [] ++ Builtin.zeroCells z.cells n ++ Builtin.zeroCells z.cells (G - n)) = cs := ⟨_, rfl⟩
  rw [hcs] at hr
  have hcz : cs.size = G * 1 := by
    rw [← hcs]
    simp only [Array.size_append, size_zeroCells, hzc]
    simp
    omega
  have hG63 : G ≤ 9223372036854775807 := by unfold maxLen at hGm; omega
  have h1 : ¬ ((n : Int) < 0) := by omega
  have h4 : (n : Int) > 0 := by omega
  have HB : Hid (Below w.heap.size w (w.drew.alloc (.cells cs 41))) := bel_alloc (Below.drew (Below.refl _ _)) _
  have HO : Hid (OwnE (w.drew.alloc (.cells cs 41)) w.heap.size (.slice (some ⟨w.heap.size, 0, none⟩) 0 G) []) := by
    refine ⟨by simp, .inr ⟨w.heap.size, G, cs, rfl, Nat.le_refl _, ?_, Nat.zero_le _, hGm, hcz, by simp⟩⟩
    exact heap_alloc_new w.drew _
  clear hi hz hsz hby hold hG hcs hcz hzc hGm
  go_enter Tryz.func55, Tryz.ntmps55
  go_wp2_with (at_builtin; refine Lib.wpList_append_run _ rfl _ _ _ _ rfl _ _ rfl rfl _ _ (hr _) ?_)
  all_goals (go_ret; exact ⟨_, _, rfl, HO.out, HB.out⟩)
theorem run_append_Er0 (w : World) (ty : TypeId) (a : Option Addr) (c : Nat) : (Builtin.append_ #[58, 58] ty #[.slice none 0 0, .slice a 0 c]).run Tryz.prog w = .ok (.slice none 0 0) w := by
  obtain ⟨i, hi, hz, hsz, hby⟩ := infoErrno
  cases a <;> simp [Builtin.append_, run_underlying Tryz.underlying58, sizeOf, typeInfo, hi, Builtin.lenOf, Builtin.firstCells, loadCells, loadCellsFrom]
def CatEra (w : World) (a b : Nat) (s3 s11 : Value) (wx : World) : Prop := w = wx ∧ ((s11 = J 0 ∧ s3 = J 0) ∨ (s11 = J 1 ∧ s3 = J a) ∨ (s11 = J 2 ∧ s3 = J (a + b : Nat)))
def CatErb (w W : World) (l1 l2 : List Int) (s6 s27 : Value) (wx : World) : Prop :=
  Below w.heap.size w wx ∧ W.heap.size ≤ wx.heap.size ∧ ∃ g c, (s27 = J 0 ∧ s6 = .slice (some ⟨g, 0, none⟩) 0 c ∧ OwnE wx w.heap.size (.slice (some ⟨g, 0, none⟩) 0 c) []) ∨ (s27 = J 1 ∧ s6 = .slice (some ⟨g, 0, none⟩) l1.length c ∧ OwnE wx w.heap.size (.slice (some ⟨g, 0, none⟩) l1.length c) l1) ∨ (s27 = J 2 ∧ s6 = .slice (some ⟨g, 0, none⟩) (l1 ++ l2).length c ∧ OwnE wx w.heap.size (.slice (some ⟨g, 0, none⟩) (l1 ++ l2).length c) (l1 ++ l2))
def CatErn (w : World) (s6 s27 : Value) (wx : World) : Prop := w = wx ∧ s6 = .slice none 0 0 ∧ (s27 = J 0 ∨ s27 = J 1 ∨ s27 = J 2)
set_option maxRecDepth 10000 in
set_option maxHeartbeats 4000000 in
theorem concat_Er (v1 v2 : Value) (l1 l2 : List Int) (n : Nat) (t : TypeId) (w : World) (hX : Box w n t #[v1, v2]) (h1 : Sl w v1 l1) (h2 : Sl w v2 l2) (hn : l1.length + l2.length ≤ 1000) :
    Calls Tryz.prog 27 #[.slice (some ⟨n, 0, none⟩) 2 2] w fun e w' => ∃ a c, e = .returned (.slice a (l1 ++ l2).length c) ∧ OwnE w' w.heap.size (.slice a (l1 ++ l2).length c) (l1 ++ l2) ∧ Below w.heap.size w w' := by
  obtain ⟨a1, c1, rfl⟩ : ∃ a c, v1 = .slice a l1.length c := let ⟨a, c, e, _⟩ := h1; ⟨a, c, e⟩
  obtain ⟨a2, c2, rfl⟩ : ∃ a c, v2 = .slice a l2.length c := let ⟨a, c, e, _⟩ := h2; ⟨a, c, e⟩
  have H1 : Hid (Sl w (.slice a1 l1.length c1) l1) := h1
  have H2 : Hid (Sl w (.slice a2 l2.length c2) l2) := h2
  have x0 : w.cell? ⟨n, 0, none⟩ = some (.slice a1 l1.length c1) := hX.cell 0
  have x1 : w.cell? ⟨n, 1, none⟩ = some (.slice a2 l2.length c2) := hX.cell 1
  clear h1 h2
  go_enter Tryz.func27, Tryz.ntmps27
  go_wp2
  go_loopw [3, 5, 11] (fun s3 _ s11 wx => CatEra w l1.length l2.length s3 s11 wx) (fun _ _ s11 _ => 2 - (intOf s11).toNat)
  case atStart => exact ⟨rfl, .inl ⟨rfl, rfl⟩⟩
  case round =>
    obtain ⟨rfl, hrel⟩ := hrel
    rcases hrel with ⟨rfl, rfl⟩ | ⟨rfl, rfl⟩ | ⟨rfl, rfl⟩
    · have q1 : ¬ (l1.length : Int) < 0 := by omega
      go_wp2
      exact ⟨⟨rfl, .inr (.inl ⟨rfl, rfl⟩)⟩, by simp [intOf]⟩
    · have q1 : ¬ (l1.length : Int) + (l2.length : Int) < 0 := by omega
      have q2 : wrap64 ((l1.length : Int) + (l2.length : Int)) = (l1.length : Int) + (l2.length : Int) := by unfold wrap64; omega
      go_wp2
      exact ⟨⟨rfl, .inr (.inr ⟨rfl, by go_num⟩)⟩, by simp [intOf]⟩
    · by_cases h0 : l1.length + l2.length = 0
      · rw [h0]
        have e1 : l1 = [] := List.length_eq_zero_iff.1 (by omega)
        have e2 : l2 = [] := List.length_eq_zero_iff.1 (by omega)
        subst e1 e2
        simp only [List.length_nil] at x0 x1 H1 H2
        go_wp2_with fail
        refine (grow_Er0 _).mono ?_
        rintro e w1 ⟨rfl, hw⟩
        replace hw := hw.symm
        subst hw
        go_wp2
        go_loopw [6, 8, 27] (fun s6 _ s27 wx => CatErn w s6 s27 wx) (fun _ _ s27 _ => 2 - (intOf s27).toNat)
        case atStart => exact ⟨rfl, rfl, .inl rfl⟩
        case round =>
          obtain ⟨rfl, rfl, hrel⟩ := hrel
          rcases hrel with rfl | rfl | rfl
          · go_wp2_with (at_builtin; refine Lib.wpList_append_run _ rfl _ _ _ _ rfl _ _ rfl rfl _ _ (run_append_Er0 _ _ _ _) ?_)
            exact ⟨⟨rfl, rfl, .inr (.inl rfl)⟩, by simp [intOf]⟩
          · go_wp2_with (at_builtin; refine Lib.wpList_append_run _ rfl _ _ _ _ rfl _ _ rfl rfl _ _ (run_append_Er0 _ _ _ _) ?_)
            exact ⟨⟨rfl, rfl, .inr (.inr rfl)⟩, by simp [intOf]⟩
          · go_wp2
            go_ret
            exact ⟨none, 0, rfl, OwnE.nothing _ _, Below.refl _ _⟩
      · go_wp2_with fail
        refine (grow_Er (l1.length + l2.length) (by omega) hn _).mono ?_
        rintro e w1 ⟨g, c, rfl, hO, hB⟩
        have HB1 : Hid (Below w.heap.size w w1) := hB
        have HO : Hid (OwnE w1 w.heap.size (.slice (some ⟨g, 0, none⟩) 0 c) []) := hO
        have s1 := hX.lt
        clear hO hB
        go_wp2
        go_loopw [6, 8, 27] (fun s6 _ s27 wx => CatErb w w1 l1 l2 s6 s27 wx) (fun _ _ s27 _ => 2 - (intOf s27).toNat)
        case atStart => exact ⟨HB1.out, Nat.le_refl _, g, c, .inl ⟨rfl, rfl, HO.out⟩⟩
        case round =>
          obtain ⟨hB, hsz, g, c, hrel⟩ := hrel
          have HB : Hid (Below w.heap.size w wr) := hB
          have hw : w.heap.size ≤ wr.heap.size := hB.size
          have x0 := ((bcell hB).1 n 0 s1).trans x0
          have x1 := ((bcell hB).1 n 1 s1).trans x1
          have HL1 : Hid (Sl wr (.slice a1 l1.length c1) l1) := H1.out.keep hB
          have HL2 : Hid (Sl wr (.slice a2 l2.length c2) l2) := H2.out.keep hB
          have s2 : n < wr.heap.size := by omega
          clear hB
          rcases hrel with ⟨rfl, rfl, hO⟩ | ⟨rfl, rfl, hO⟩ | ⟨rfl, rfl, hO⟩
          · have HO2 : Hid (OwnE wr w.heap.size (.slice (some ⟨g, 0, none⟩) 0 c) []) := hO
            clear hO
            go_wp2_with (at_builtin; refine wpList_append_Er rfl (.tmp 31) (.tmp 32) rfl w.heap.size _ _ [] l1 rfl rfl HO2.out HL1.out (by simp; omega) (by omega) (.inl ⟨_, _, _, rfl⟩) ?_)
            intro g2 c2' w2 hO2 hgr hb hat
            have HO3 : Hid (OwnE w2 w.heap.size (.slice (some ⟨g2, 0, none⟩) l1.length c2') l1) := hO2
            have B3 : Hid (Below w.heap.size w w2) := bel_grownEr HB.out HO2.out hgr
            have z3 : wr.heap.size ≤ w2.heap.size := hgr.size
            clear hO2 hgr hb hat
            go_wp2
            exact ⟨⟨B3.out, by omega, g2, c2', .inr (.inl ⟨rfl, rfl, HO3.out⟩)⟩, by simp [intOf]⟩
          · have HO2 : Hid (OwnE wr w.heap.size (.slice (some ⟨g, 0, none⟩) l1.length c) l1) := hO
            clear hO
            go_wp2_with (at_builtin; refine wpList_append_Er rfl (.tmp 31) (.tmp 32) rfl w.heap.size _ _ l1 l2 rfl rfl HO2.out HL2.out hn (by omega) (.inl ⟨_, _, _, rfl⟩) ?_)
            intro g2 c2' w2 hO2 hgr hb hat
            have HO3 : Hid (OwnE w2 w.heap.size (.slice (some ⟨g2, 0, none⟩) (l1 ++ l2).length c2') (l1 ++ l2)) := by show OwnE _ _ _ _; simpa using hO2
            have B3 : Hid (Below w.heap.size w w2) := bel_grownEr HB.out HO2.out hgr
            have z3 : wr.heap.size ≤ w2.heap.size := hgr.size
            clear hO2 hgr hb hat
            go_wp2
            exact ⟨⟨B3.out, by omega, g2, c2', .inr (.inr ⟨rfl, by simp, HO3.out⟩)⟩, by simp [intOf]⟩
          · have HO2 : Hid (OwnE wr w.heap.size (.slice (some ⟨g, 0, none⟩) (l1 ++ l2).length c) (l1 ++ l2)) := hO
            clear hO
            go_wp2
            go_ret
            exact ⟨_, _, rfl, HO2.out, HB.out⟩
theorem concat_Erat {v1 v2 : Value} {l1 l2 : List Int} {n : Nat} {t : TypeId} {w : World} {L : List Int} (hX : Box w n t #[v1, v2]) (h1 : Sl w v1 l1) (h2 : Sl w v2 l2) (hn : l1.length + l2.length ≤ 1000) (hL : l1 ++ l2 = L) :
    Calls Tryz.prog 27 #[.slice (some ⟨n, 0, none⟩) 2 2] w fun e w' => ∃ a c, e = .returned (.slice a L.length c) ∧ OwnE w' w.heap.size (.slice a L.length c) L ∧ Below w.heap.size w w' := by
  subst hL
  exact concat_Er v1 v2 l1 l2 n t w hX h1 h2 hn
theorem rem_at {k : Int} {n : Nat} (hn : 0 < n) : ∃ j : Nat, j < n ∧ (if k.tmod n < 0 then k.tmod n + n else k.tmod n) = j := by
  have hn' : (0 : Int) < n := by omega
  have h1 : k.tmod n < n := Int.tmod_lt_of_pos k hn'
  have h2 : -(n : Int) < k.tmod n := by
    have := Int.tmod_lt_of_pos (-k) hn'
    rw [Int.neg_tmod] at this
    omega
  split
  · exact ⟨(k.tmod n + n).toNat, by omega, by omega⟩
  · exact ⟨(k.tmod n).toNat, by omega, by omega⟩
set_option maxHeartbeats 1000000 in
theorem atN_any (k : Int) {n : Nat} (hn : 0 < n) (hm : n ≤ 1000) (w : World) : Calls Tryz.prog 26 #[J k, J n] w fun e w' => ∃ j : Nat, j < n ∧ e = .returned (J j) ∧ w' = w := by
  obtain ⟨j, hj, he⟩ := rem_at (k := k) hn
  have HJ : Hid (j < n) := hj
  have hn' : (0 : Int) < n := by omega
  have hm' : (n : Int) ≤ 1000 := by omega
  have hz : ¬ (n : Int) = 0 := by omega
  have h1 : k.tmod n < n := Int.tmod_lt_of_pos k hn'
  have h2 : -(n : Int) < k.tmod n := by
    have := Int.tmod_lt_of_pos (-k) hn'
    rw [Int.neg_tmod] at this
    omega
  by_cases hs : k.tmod n < 0
  · rw [if_pos hs] at he
    have HE : Hid (k.tmod n + n = j) := he
    clear he hj
    go_enter Tryz.func26, Tryz.ntmps26
    go_wp2
    go_ret
    exact ⟨j, HJ.out, ret_int HE.out, rfl⟩
  · rw [if_neg hs] at he
    have HE : Hid (k.tmod n = j) := he
    clear he hj
    go_enter Tryz.func26, Tryz.ntmps26
    go_wp2
    go_ret
    exact ⟨j, HJ.out, ret_int HE.out, rfl⟩
end Go.Proofs.YthlhocneggcekaaGreat
