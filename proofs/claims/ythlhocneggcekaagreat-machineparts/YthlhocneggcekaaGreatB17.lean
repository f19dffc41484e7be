/-
  Laid together: HStateOf.
-/
import Derived.Test.YthlhocneggcekaaGreatB1
import Derived.Test.YthlhocneggcekaaGreatB2
import Derived.Test.YthlhocneggcekaaGreatB3
import Derived.Test.YthlhocneggcekaaGreatB4
import Derived.Test.YthlhocneggcekaaGreatB5
import Derived.Test.YthlhocneggcekaaGreatB6
import Derived.Test.YthlhocneggcekaaGreatB7
import Derived.Test.YthlhocneggcekaaGreatB9
import Derived.Test.YthlhocneggcekaaGreatB10
import Derived.Test.YthlhocneggcekaaGreatB11
import Derived.Test.YthlhocneggcekaaGreatB13
import Derived.Test.YthlhocneggcekaaGreatB14
import Derived.Test.YthlhocneggcekaaGreatB15
import Derived.Test.YthlhocneggcekaaGreatB16
import Derived.Maps.OwnOps
import Derived.Maps.OwnSet
import Derived.Deep.AppendLies
import Derived.Deep.RegionWith
import Derived.LoopN
import Derived.Deep.CutRange
import Derived.Deep.RegionHeld3
import Derived.Test.YthlhocneggcekaaGreatRows
import Derived.WalkKit
import Derived.WalkSpells
import Derived.WalkLawsBesides
import Derived.Below
import Derived.WalkSmall
import Derived.Deep.QuietTactic
import Derived.BigQuiet
import Derived.Deep.Draws
import Derived.Deep.RegionHeld
import Derived.Deep.DrawnRows
import Derived.Laws.CopyOwn
namespace Go.Proofs.YthlhocneggcekaaGreat
open Go.RowKit
theorem copy8 (w : World) (N b o cap : Nat) (vm vc : Value) (pc : Int) (rs rs0 : List Int) (mo ba op oh ot fe fp fh ft : Int) (st lo : Bool) (h8 : rs.length = 8) (hN : Box w N 154 #[vm, J pc, J (nth rs0 0), J (nth rs0 1), J (nth rs0 2), J (nth rs0 3), J (nth rs0 4), J (nth rs0 5), J (nth rs0 6), J (nth rs0 7), J mo, J ba, vc, J op, J oh, J ot, .bool st, J fe, J fp, J fh, J ft, .bool lo])
    (hc : ∀ i, i < 8 → w.cell? ⟨b, o + i, none⟩ = some (J (nth rs i))) :
    ∃ w3, (Builtin.copy_ #[22, 22] 3 #[.slice (some ⟨N, 2, none⟩) 8 8, .slice (some ⟨b, o, none⟩) 8 cap]).run Tryz.prog w = .ok (J 8) w3 ∧ Box w3 N 154 #[vm, J pc, J (nth rs 0), J (nth rs 1), J (nth rs 2), J (nth rs 3), J (nth rs 4), J (nth rs 5), J (nth rs 6), J (nth rs 7), J mo, J ba, vc, J op, J oh, J ot, .bool st, J fe, J fp, J fh, J ft, .bool lo] ∧
      (∀ k, k ≠ N → w3.heap[k]? = w.heap[k]?) ∧ w3.heap.size = w.heap.size ∧ Below N w w3 := by
  have hl : (rs.map (fun z => J z)).length = 8 := by simp [h8]
  have h := run_copy_row (P := Tryz.prog) w 22 22 3 3 N 2 8 8 ⟨b, o, none⟩ 8 cap _ 154 (rs.map (fun z => J z)) Tryz.underlying22 (by kernel_rfl) hN (by rw [hl]; rfl)
    (fun j v hv => by
      rw [List.getElem?_map] at hv
      by_cases hj : j < 8
      · rw [List.getElem?_eq_getElem (by omega)] at hv
        simp only [Option.map_some, Option.some.injEq] at hv
        have := hc j hj
        rw [← hv]
        have ha : Addr.add ⟨b, o, none⟩ j = ⟨b, o + j, none⟩ := by unfold Addr.add; split <;> simp_all
        rw [ha, this]
        simp [nth, h8, hj]
      · rw [List.getElem?_eq_none (by omega)] at hv
        simp at hv) (by rw [hl]; simp) (by
      intro v hv
      obtain ⟨z, _, rfl⟩ := List.mem_map.1 hv
      rfl)
  have hm : rs.map (fun z => J z) = [J (nth rs 0), J (nth rs 1), J (nth rs 2), J (nth rs 3), J (nth rs 4), J (nth rs 5), J (nth rs 6), J (nth rs 7)] := by
    match rs, h8 with
    | [_, _, _, _, _, _, _, _], _ => rfl
  rw [hl, hm] at h
  exact ⟨_, h, setRow_heap w N _ _ _ _ hN, fun k hk => setRow_other w N k _ hk, by simp [World.setRow], ⟨rfl, rfl, rfl, by simp [World.setRow], fun k hk => setRow_other w N k _ (by omega)⟩⟩
set_option maxRecDepth 10000 in
set_option maxHeartbeats 4000000 in
theorem stateOf_any (v : Value) (zs : List Int) (p : Int) (u : Value) (r : List Int) (d : Bool) (mo ba op oh ot fe fp fh ft : Int) (st lo : Bool) (vc : Value) (l : List Ln) (w : World) (hs : Sl w v zs) (hr : Sl w u r) (h : Ls w vc l) (hz : zs.length = 512) (h8 : r.length = 8) (h6 : l.length ≤ 6) :
    Calls Tryz.prog 101 #[.agg #[v], .agg #[J p, u, .bool d], .agg #[J mo, J ba, vc, J op, J oh, J ot, .bool st, J fe, J fp, J fh, J ft, .bool lo]] w fun e w' => ∃ g k, e = .returned (.agg #[.slice (some ⟨g, 0, none⟩) 512 512, J p, J (nth r 0), J (nth r 1), J (nth r 2), J (nth r 3), J (nth r 4), J (nth r 5), J (nth r 6), J (nth r 7), J mo, J ba, .slice (some ⟨k, 0, none⟩) l.length l.length, J op, J oh, J ot, .bool st, J fe, J fp, J fh, J ft, .bool lo]) ∧
      Sl w' (.slice (some ⟨g, 0, none⟩) 512 512) zs ∧ Ls w' (.slice (some ⟨k, 0, none⟩) l.length l.length) l ∧ w.heap.size ≤ g ∧ w.heap.size ≤ k ∧ Below w.heap.size w w' := by
  have HL : Hid (Ls w vc l) := h
  obtain ⟨ca, cc, rfl, -⟩ := h.shape
  obtain ⟨b, o, cap, rfl, hbb, hcs⟩ := hs.open512 hz
  have HCS : Hid (∀ i, i < 512 → w.cell? ⟨b, o + i, none⟩ = some (J (nth zs i))) := hcs
  obtain ⟨ra, rc, rfl, hrl, hrr⟩ := hr
  rcases hrr with e | ⟨rb, ro, rfl, hrb, hrc⟩
  · exact absurd h8 (by rw [e]; simp)
  rw [h8] at hrc ⊢
  have HRC : Hid (∀ i, i < 8 → w.cell? ⟨rb, ro + i, none⟩ = some (J (nth r i))) := hrc
  have HZ : Hid (zs.length = 512) := hz
  have H8 : Hid (r.length = 8) := h8
  have H6 : Hid (l.length ≤ 6) := h6
  obtain ⟨ck, hck⟩ : ∃ ck, ck = l.length := ⟨_, rfl⟩
  have HCK : Hid (ck = l.length) := hck
  rw [← hck] at HL ⊢
  clear h hs hcs hrc hrl hz h8 h6 hck
  have X0 := (((Box.newAt (w := w) (n := w.heap.size) rfl 24 #[.slice (some ⟨b, o, none⟩) 512 cap]).past (.cells #[J p, .slice (some ⟨rb, ro, none⟩) 8 rc, .bool d] 26)).past (.cells #[J mo, J ba, .slice ca ck cc, J op, J oh, J ot, .bool st, J fe, J fp, J fh, J ft, .bool lo] 31)).past (.cells #[.slice none 0 0, J 0, J 0, J 0, J 0, J 0, J 0, J 0, J 0, J 0, J 0, J 0, .slice none 0 0, J 0, J 0, J 0, .bool false, J 0, J 0, J 0, J 0, .bool false] 154)
  have X1 := ((Box.newAt (w := w.alloc (.cells #[.slice (some ⟨b, o, none⟩) 512 cap] 24)) (n := w.heap.size + 1) (by simp) 26 #[J p, .slice (some ⟨rb, ro, none⟩) 8 rc, .bool d]).past (.cells #[J mo, J ba, .slice ca ck cc, J op, J oh, J ot, .bool st, J fe, J fp, J fh, J ft, .bool lo] 31)).past (.cells #[.slice none 0 0, J 0, J 0, J 0, J 0, J 0, J 0, J 0, J 0, J 0, J 0, J 0, .slice none 0 0, J 0, J 0, J 0, .bool false, J 0, J 0, J 0, J 0, .bool false] 154)
  have X2 := (Box.newAt (w := (w.alloc (.cells #[.slice (some ⟨b, o, none⟩) 512 cap] 24)).alloc (.cells #[J p, .slice (some ⟨rb, ro, none⟩) 8 rc, .bool d] 26)) (n := w.heap.size + 1 + 1) (by simp) 31 #[J mo, J ba, .slice ca ck cc, J op, J oh, J ot, .bool st, J fe, J fp, J fh, J ft, .bool lo]).past (.cells #[.slice none 0 0, J 0, J 0, J 0, J 0, J 0, J 0, J 0, J 0, J 0, J 0, J 0, .slice none 0 0, J 0, J 0, J 0, .bool false, J 0, J 0, J 0, J 0, .bool false] 154)
  have X3 := Box.newAt (w := ((w.alloc (.cells #[.slice (some ⟨b, o, none⟩) 512 cap] 24)).alloc (.cells #[J p, .slice (some ⟨rb, ro, none⟩) 8 rc, .bool d] 26)).alloc (.cells #[J mo, J ba, .slice ca ck cc, J op, J oh, J ot, .bool st, J fe, J fp, J fh, J ft, .bool lo] 31)) (n := w.heap.size + 1 + 1 + 1) (by simp) 154 #[.slice none 0 0, J 0, J 0, J 0, J 0, J 0, J 0, J 0, J 0, J 0, J 0, J 0, .slice none 0 0, J 0, J 0, J 0, .bool false, J 0, J 0, J 0, J 0, .bool false]
  have B0 : Hid (Below w.heap.size w _) := bel_alloc (bel_alloc (bel_alloc (bel_alloc (Below.refl w.heap.size w) (.cells #[.slice (some ⟨b, o, none⟩) 512 cap] 24)) (.cells #[J p, .slice (some ⟨rb, ro, none⟩) 8 rc, .bool d] 26)) (.cells #[J mo, J ba, .slice ca ck cc, J op, J oh, J ot, .bool st, J fe, J fp, J fh, J ft, .bool lo] 31)) (.cells #[.slice none 0 0, J 0, J 0, J 0, J 0, J 0, J 0, J 0, J 0, J 0, J 0, J 0, .slice none 0 0, J 0, J 0, J 0, .bool false, J 0, J 0, J 0, J 0, .bool false] 154)
  have WS : Hid (((((w.alloc (.cells #[.slice (some ⟨b, o, none⟩) 512 cap] 24)).alloc (.cells #[J p, .slice (some ⟨rb, ro, none⟩) 8 rc, .bool d] 26)).alloc (.cells #[J mo, J ba, .slice ca ck cc, J op, J oh, J ot, .bool st, J fe, J fp, J fh, J ft, .bool lo] 31)).alloc (.cells #[.slice none 0 0, J 0, J 0, J 0, J 0, J 0, J 0, J 0, J 0, J 0, J 0, J 0, .slice none 0 0, J 0, J 0, J 0, .bool false, J 0, J 0, J 0, J 0, .bool false] 154)).heap.size = w.heap.size + 1 + 1 + 1 + 1) := by show _ = _; simp
  go_enter Tryz.func101, Tryz.ntmps101
  go_upto_region 1 with fail
  generalize ((((w.alloc (.cells #[.slice (some ⟨b, o, none⟩) 512 cap] 24)).alloc (.cells #[J p, .slice (some ⟨rb, ro, none⟩) 8 rc, .bool d] 26)).alloc (.cells #[J mo, J ba, .slice ca ck cc, J op, J oh, J ot, .bool st, J fe, J fp, J fh, J ft, .bool lo] 31)).alloc (.cells #[.slice none 0 0, J 0, J 0, J 0, J 0, J 0, J 0, J 0, J 0, J 0, J 0, J 0, .slice none 0 0, J 0, J 0, J 0, .bool false, J 0, J 0, J 0, J 0, .bool false] 154)) = W at *
  refine wp_region_held_drew (S := fun w' => Below W.heap.size W w') (by kernel_rfl) (Below.drew (Below.refl _ _)) (fun hHeld => ?_)
  refine tkH 1 rfl (by kernel_rfl) (fun _ _ _ h => h) (by assumption) (by intro wz hSz; (try dsimp only at hSz); (obtain ⟨a0, a1, a2, -, -, -, s1⟩ := (X1.keep hSz).three); (obtain ⟨⟨d0, d1, d2, d3, d4, d5, d6, d7, d8, d9, d10, d11⟩, s2⟩ := (X2.keep hSz).twelve); go_simp; (try with_reducible rfl)) ?_
  simp only [nmz]
  refine tkH 2 rfl (by kernel_rfl) (fun _ _ _ h => h) (by assumption) (by intro wz hSz; (try dsimp only at hSz); (obtain ⟨a0, a1, a2, -, -, -, s1⟩ := (X1.keep hSz).three); (obtain ⟨⟨d0, d1, d2, d3, d4, d5, d6, d7, d8, d9, d10, d11⟩, s2⟩ := (X2.keep hSz).twelve); go_simp; (try with_reducible rfl)) ?_
  simp only [nmz]
  refine tkH 3 rfl (by kernel_rfl) (fun _ _ _ h => h) (by assumption) (by intro wz hSz; (try dsimp only at hSz); (obtain ⟨a0, a1, a2, -, -, -, s1⟩ := (X1.keep hSz).three); (obtain ⟨⟨d0, d1, d2, d3, d4, d5, d6, d7, d8, d9, d10, d11⟩, s2⟩ := (X2.keep hSz).twelve); go_simp; (try with_reducible rfl)) ?_
  simp only [nmz]
  refine wpHeld_twoL (i := 0) (j := 5) (by kernel_rfl) (by rfl) (by rfl) (fun K hK => ?_) (fun K hK => ?_)
  · go_simp
    refine (new_own _).mono ?_
    rintro e w5 ⟨g, rfl, hg5, hge, b5⟩
    go_wp2_with fail
    refine hK.out _ _ ?_ (fun hHeld2 => ?_)
    · exact bel_trans hHeld b5
    clear hK K hHeld
    have hHeld := hHeld2
    clear hHeld2
    refine tkH 4 rfl (by kernel_rfl) (fun _ _ _ h => h) (by assumption) (by intro wz hSz; (try dsimp only at hSz); go_simp; (try with_reducible rfl)) ?_
    simp only [nmz]
    refine wpHeld_oneL (i := 5) (by kernel_rfl) (by rfl) (fun K hK => ?_)
    go_simp
    refine hK.out _ _ ?_ (fun hHeld2 => ?_)
    · exact bel_alloc hHeld _
    clear hK K hHeld
    have hHeld := hHeld2
    clear hHeld2
    have XN := Box.newAt (w := w5) (n := w5.heap.size) rfl 154 #[.slice none 0 0, J 0, J 0, J 0, J 0, J 0, J 0, J 0, J 0, J 0, J 0, J 0, .slice none 0 0, J 0, J 0, J 0, .bool false, J 0, J 0, J 0, J 0, .bool false]
    have hgE : W.heap.size ≤ g := hge
    have hgl : g < w5.heap.size := (Array.getElem?_eq_some_iff.1 hg5).1
    have GB : Box (w5.alloc (.cells #[.slice none 0 0, J 0, J 0, J 0, J 0, J 0, J 0, J 0, J 0, J 0, J 0, J 0, .slice none 0 0, J 0, J 0, J 0, .bool false, J 0, J 0, J 0, J 0, .bool false] 154)) g 3 zeroCells := Box.past (t := 3) (cs := zeroCells) hg5 _
    have hNE : w5.heap.size ≠ g := by omega
    have hNW : W.heap.size ≤ w5.heap.size := by omega
    generalize (w5.alloc (.cells #[.slice none 0 0, J 0, J 0, J 0, J 0, J 0, J 0, J 0, J 0, J 0, J 0, J 0, .slice none 0 0, J 0, J 0, J 0, .bool false, J 0, J 0, J 0, J 0, .bool false] 154)) = W5 at *
    generalize w5.heap.size = N at *
    refine wpHeld_oneL (i := 6) (by kernel_rfl) (by rfl) (fun K hK => ?_)
    rw [if_pos (by rfl)]
    refine wp_store_row 154 (.tmp 7) (.tmp 12) rfl N _ rfl rfl _ _ XN infoState rfl (stateOne _ _ _ _ _ _ _ _ _ _ _ _ _ _ _ _ _ _ _ _ _ _ _ _ _ _) ?_
    refine hK.out _ _ ?_ (fun hHeld2 => ?_)
    · exact bel_setRow hNW hHeld _
    clear hK K hHeld
    have hHeld := hHeld2
    clear hHeld2
    refine wpAnyH_done (by kernel_rfl) ?_ _
    have XN := XN.setRow #[.slice (some ⟨g, 0, none⟩) 512 512, J p, J 0, J 0, J 0, J 0, J 0, J 0, J 0, J 0, J mo, J ba, .slice ca ck cc, J op, J oh, J ot, .bool st, J fe, J fp, J fh, J ft, .bool lo]
    have GB := GB.otherRow (m := N) (by omega) #[.slice (some ⟨g, 0, none⟩) 512 512, J p, J 0, J 0, J 0, J 0, J 0, J 0, J 0, J 0, J mo, J ba, .slice ca ck cc, J op, J oh, J ot, .bool st, J fe, J fp, J fh, J ft, .bool lo]
    have X0 := X0.keep hHeld
    have X1 := X1.keep hHeld
    have X2 := X2.keep hHeld
    have X3 := X3.keep hHeld
    have B7 : Hid (Below w.heap.size w _) := bel_trans B0.out hHeld
    have ws := WS.out
    clear hHeld B0
    generalize (W5.setRow N #[.slice (some ⟨g, 0, none⟩) 512 512, J p, J 0, J 0, J 0, J 0, J 0, J 0, J 0, J 0, J mo, J ba, .slice ca ck cc, J op, J oh, J ot, .bool st, J fe, J fp, J fh, J ft, .bool lo]) = W7 at *
    obtain ⟨w3, hrun, hg3, ho3, hs3, hb3⟩ := copy_full W7 b o cap g zs zeroCells HZ.out GB (by simp [zeroCells, size_madeCells]) (fun i hi => by
      rw [B7.out.cell (p := ⟨b, o + i, none⟩) hbb]; exact HCS.out i hi)
    obtain ⟨m0, -, s0⟩ := X0.one
    obtain ⟨⟨c0, -⟩, -, sN⟩ := XN.state0
    go_upto_region 3 with fail
    have XN : Box w3 N 154 _ := (ho3 N hNE).trans XN
    have X1 : Box w3 (w.heap.size + 1) 26 _ := (ho3 _ (by omega)).trans X1
    have X2 : Box w3 (w.heap.size + 1 + 1) 31 _ := (ho3 _ (by omega)).trans X2
    have X3 : Box w3 (w.heap.size + 1 + 1 + 1) 154 _ := (ho3 _ (by omega)).trans X3
    have GB : Box w3 g 3 (intCells zs) := hg3
    have B3 : Hid (Below w.heap.size w w3) := B7.out.trans (hb3.mono (by omega))
    clear hrun hg3 ho3 hb3 B7 m0 s0 c0 sN X0 hs3
    have XN : Box w3 N 154 #[.slice (some ⟨g, 0, none⟩) 512 512, J p, J (nth (List.replicate 8 0) 0), J (nth (List.replicate 8 0) 1), J (nth (List.replicate 8 0) 2), J (nth (List.replicate 8 0) 3), J (nth (List.replicate 8 0) 4), J (nth (List.replicate 8 0) 5), J (nth (List.replicate 8 0) 6), J (nth (List.replicate 8 0) 7), J mo, J ba, .slice ca ck cc, J op, J oh, J ot, .bool st, J fe, J fp, J fh, J ft, .bool lo] := XN
    obtain ⟨w4, hrun, XN4, ho4, hs4, hb4⟩ := copy8 w3.drew N rb ro rc _ _ p r _ mo ba op oh ot fe fp fh ft st lo H8.out XN.drew (fun i hi => by
      show w3.cell? _ = _
      rw [B3.out.cell (p := ⟨rb, ro + i, none⟩) hrb]; exact HRC.out i hi)
    refine wp_region_late (by kernel_rfl) 4 (fun w' => Below w3.heap.size w3 w') (Below.drew (Below.refl _ _)) (fun hHeld => ?_)
    refine tkL 0 rfl (by kernel_rfl) (fun _ _ _ h => h) (by assumption) (by intro wz hSz; (try dsimp only at hSz); (obtain ⟨a0, a1, a2, -, -, -, s1⟩ := (X1.keep hSz).three); go_simp; (try with_reducible rfl)) ?_
    simp only [nmz]
    refine tkL 1 rfl (by kernel_rfl) (fun _ _ _ h => h) (by assumption) (by intro wz hSz; (try dsimp only at hSz); (obtain ⟨a0, a1, a2, -, -, -, s1⟩ := (X1.keep hSz).three); go_simp; (try with_reducible rfl)) ?_
    simp only [nmz]
    refine tkL 2 rfl (by kernel_rfl) (fun _ _ _ h => h) (by assumption) (by intro wz hSz; (try dsimp only at hSz); (obtain ⟨a0, a1, a2, -, -, -, s1⟩ := (X1.keep hSz).three); go_simp; (try with_reducible rfl)) ?_
    simp only [nmz]
    refine tkL 3 rfl (by kernel_rfl) (fun _ _ _ h => h) (by assumption) (by intro wz hSz; (try dsimp only at hSz); (obtain ⟨a0, a1, a2, -, -, -, s1⟩ := (X1.keep hSz).three); go_simp; (try with_reducible rfl)) ?_
    simp only [nmz]
    refine wpLate_oneL (i := 4) (by kernel_rfl) (by rfl) (fun K hK => ?_)
    go_simp
    refine hK.out _ _ (fun h => absurd h (by decide)) ?_
    clear hK K
    refine wpLate_done (by kernel_rfl) ?_ _
    have X2 : Box w4 (w.heap.size + 1 + 1) 31 _ := (ho4 _ (by omega)).trans X2
    have X3 : Box w4 (w.heap.size + 1 + 1 + 1) 154 _ := (ho4 _ (by omega)).trans X3
    have GB : Box w4 g 3 (intCells zs) := (ho4 _ (by omega)).trans GB
    have B4 : Hid (Below w.heap.size w w4) := (Below.drew B3.out).trans (hb4.mono (by omega))
    clear hrun ho4 hb4 hs4 B3 hHeld XN X1
    obtain ⟨cur, hmk, hcur⟩ := makeLines w4 ck (by rw [HCK.out]; exact H6.out)
    obtain ⟨⟨d0, d1, d2, -⟩, s2⟩ := X2.twelve
    have cN : w4.cell? ⟨N, 12, none⟩ = some (.slice ca ck cc) := XN4.cell 12
    have fN := XN4.marksAll
    have sN := XN4.lt
    have GB0 := GB.lt
    go_upto_region 5 with fail
    have YN : Box ((w4.setCell ⟨N, 12, none⟩ (.slice (some ⟨w4.heap.size, 0, none⟩) ck ck)).alloc (.cells cur 52)) N 154 #[.slice (some ⟨g, 0, none⟩) 512 512, J p, J (nth r 0), J (nth r 1), J (nth r 2), J (nth r 3), J (nth r 4), J (nth r 5), J (nth r 6), J (nth r 7), J mo, J ba, .slice (some ⟨w4.heap.size, 0, none⟩) ck ck, J op, J oh, J ot, .bool st, J fe, J fp, J fh, J ft, .bool lo] := Box.past (Box.set XN4 12 (.slice (some ⟨w4.heap.size, 0, none⟩) ck ck)) _
    have Y2 := (X2.other (p := ⟨N, 12, none⟩) (by show w.heap.size + 1 + 1 ≠ N; omega) (.slice (some ⟨w4.heap.size, 0, none⟩) ck ck)).past (.cells cur 52)
    have Y3 := (X3.other (p := ⟨N, 12, none⟩) (by show w.heap.size + 1 + 1 + 1 ≠ N; omega) (.slice (some ⟨w4.heap.size, 0, none⟩) ck ck)).past (.cells cur 52)
    have GB := (GB.other (p := ⟨N, 12, none⟩) (by show g ≠ N; omega) (.slice (some ⟨w4.heap.size, 0, none⟩) ck ck)).past (.cells cur 52)
    have LB : Box ((w4.setCell ⟨N, 12, none⟩ (.slice (some ⟨w4.heap.size, 0, none⟩) ck ck)).alloc (.cells cur 52)) w4.heap.size 52 cur := Box.newAt (by simp [World.setCell]) _ _
    have B5 : Hid (Below w.heap.size w ((w4.setCell ⟨N, 12, none⟩ (.slice (some ⟨w4.heap.size, 0, none⟩) ck ck)).alloc (.cells cur 52))) := bel_alloc (bel_set (by show w.heap.size ≤ N; omega) B4.out _) _
    have hgN : g < w4.heap.size := GB0
    clear cN fN d0 d1 d2 s2 hmk B4 XN4 X2 X3
    generalize ((w4.setCell ⟨N, 12, none⟩ (.slice (some ⟨w4.heap.size, 0, none⟩) ck ck)).alloc (.cells cur 52)) = w5x at *
    generalize w4.heap.size = kk at *
    obtain ⟨w6, hcp, hg6, ho6, hs6, hb6⟩ := copyLines w5x 3 (.slice ca ck cc) kk l cur LB (by rw [hcur, HCK.out]) (HL.out.keep B5.out)
    rw [← HCK.out] at hcp
    obtain ⟨⟨d0, d1, d2, -⟩, s2⟩ := Y2.twelve
    have cN : w5x.cell? ⟨N, 12, none⟩ = some (.slice (some ⟨kk, 0, none⟩) ck ck) := YN.cell 12
    have sM := YN.lt
    go_upto_region 6 with fail
    have YN : Box w6 N 154 _ := (ho6 N (by omega)).trans YN
    have Y3 : Box w6 (w.heap.size + 1 + 1 + 1) 154 _ := (ho6 _ (by omega)).trans Y3
    have GB : Box w6 g 3 (intCells zs) := (ho6 _ (by omega)).trans GB
    have LB : w6.heap[kk]? = some (.cells (l.flatMap cellsL).toArray 52 (0, 0)) := hg6
    have B6 : Hid (Below w.heap.size w w6) := B5.out.trans (hb6.mono (by omega))
    clear hcp ho6 hb6 hs6 B5 d0 d1 d2 s2 cN Y2 hg6
    go_wp2_with (first
      | (refine wpList_load_row rfl 154 (.tmp 7) rfl N rfl _ _ _ _ YN Tryz.underlying154 rfl infoState ?_)
      | (refine wpList_store_row rfl 154 (.tmp 6) (.tmp 36) rfl (w.heap.size + 1 + 1 + 1) _ rfl rfl _ _ Y3 infoState rfl (stateOne _ _ _ _ _ _ _ _ _ _ _ _ _ _ _ _ _ _ _ _ _ _ _ _ _ _) ?_))
    refine bodyPost_ret (v := .agg #[.slice (some ⟨g, 0, none⟩) 512 512, J p, J (nth r 0), J (nth r 1), J (nth r 2), J (nth r 3), J (nth r 4), J (nth r 5), J (nth r 6), J (nth r 7), J mo, J ba, .slice (some ⟨kk, 0, none⟩) ck ck, J op, J oh, J ot, .bool st, J fe, J fp, J fh, J ft, .bool lo]) (results_cell_row Tryz.results101 _ _ (w.heap.size + 1 + 1 + 1) _ _ _ _ rfl (Y3.setRow _) Tryz.underlying154 rfl infoState) rfl ⟨g, kk, rfl, ?_, ?_, by omega, by omega, bel_setRow (by omega) B6.out _⟩
    · exact sl_block (cs := intCells zs) (t := 3) (fr := (0, 0)) (GB.otherRow (by omega) _) (intCells_list _) HZ.out.symm (by rw [HZ.out]; simp [maxLen])
    · rw [HCK.out]
      exact ls_block (Box.otherRow (t := 52) (cs := (l.flatMap cellsL).toArray) LB (by omega) _) H6.out
  · go_simp
    refine hK.out _ _ ?_ (fun hHeld2 => ?_)
    · exact bel_alloc hHeld _
    clear hK K hHeld
    have hHeld := hHeld2
    clear hHeld2
    refine wpHeld_oneL (i := 0) (by kernel_rfl) (by rfl) (fun K hK => ?_)
    go_simp
    refine (new_own _).mono ?_
    rintro e w5 ⟨g, rfl, hg5, hge, b5⟩
    have XN := ((Box.newAt (w := W) (n := W.heap.size) rfl 154 #[.slice none 0 0, J 0, J 0, J 0, J 0, J 0, J 0, J 0, J 0, J 0, J 0, J 0, .slice none 0 0, J 0, J 0, J 0, .bool false, J 0, J 0, J 0, J 0, .bool false]).drew.keep b5)
    have hgE : W.heap.size + 1 ≤ g := by simpa using hge
    have GB : Box w5 g 3 zeroCells := hg5
    go_wp2_with fail
    refine hK.out _ _ ?_ (fun hHeld2 => ?_)
    · exact bel_trans hHeld b5
    clear hK K hHeld
    have hHeld := hHeld2
    clear hHeld2
    refine tkH 4 rfl (by kernel_rfl) (fun _ _ _ h => h) (by assumption) (by intro wz hSz; (try dsimp only at hSz); go_simp; (try with_reducible rfl)) ?_
    simp only [nmz]
    have hNE : W.heap.size ≠ g := by omega
    have hNW : W.heap.size ≤ W.heap.size := Nat.le_refl _
    refine wpHeld_oneL (i := 6) (by kernel_rfl) (by rfl) (fun K hK => ?_)
    rw [if_pos (by rfl)]
    refine wp_store_row 154 (.tmp 7) (.tmp 12) rfl W.heap.size _ rfl rfl _ _ XN infoState rfl (stateOne _ _ _ _ _ _ _ _ _ _ _ _ _ _ _ _ _ _ _ _ _ _ _ _ _ _) ?_
    refine hK.out _ _ ?_ (fun hHeld2 => ?_)
    · exact bel_setRow hNW hHeld _
    clear hK K hHeld
    have hHeld := hHeld2
    clear hHeld2
    refine wpAnyH_done (by kernel_rfl) ?_ _
    have XN := XN.setRow #[.slice (some ⟨g, 0, none⟩) 512 512, J p, J 0, J 0, J 0, J 0, J 0, J 0, J 0, J 0, J mo, J ba, .slice ca ck cc, J op, J oh, J ot, .bool st, J fe, J fp, J fh, J ft, .bool lo]
    have GB := GB.otherRow (m := W.heap.size) (by omega) #[.slice (some ⟨g, 0, none⟩) 512 512, J p, J 0, J 0, J 0, J 0, J 0, J 0, J 0, J 0, J mo, J ba, .slice ca ck cc, J op, J oh, J ot, .bool st, J fe, J fp, J fh, J ft, .bool lo]
    have X0 := X0.keep hHeld
    have X1 := X1.keep hHeld
    have X2 := X2.keep hHeld
    have X3 := X3.keep hHeld
    have B7 : Hid (Below w.heap.size w _) := bel_trans B0.out hHeld
    have ws := WS.out
    obtain ⟨N, hN⟩ : ∃ N, W.heap.size = N := ⟨_, rfl⟩
    rw [hN] at XN GB X0 X1 X2 X3 hNE hgE B7 ⊢
    have hNW : W.heap.size ≤ N := by omega
    have hgE : W.heap.size ≤ g := by omega
    clear hN
    obtain ⟨W5, hW5⟩ : ∃ W5, w5 = W5 := ⟨_, rfl⟩
    rw [hW5] at XN GB X0 X1 X2 X3 B7 ⊢
    clear hW5
    clear hHeld B0
    generalize (W5.setRow N #[.slice (some ⟨g, 0, none⟩) 512 512, J p, J 0, J 0, J 0, J 0, J 0, J 0, J 0, J 0, J mo, J ba, .slice ca ck cc, J op, J oh, J ot, .bool st, J fe, J fp, J fh, J ft, .bool lo]) = W7 at *
    obtain ⟨w3, hrun, hg3, ho3, hs3, hb3⟩ := copy_full W7 b o cap g zs zeroCells HZ.out GB (by simp [zeroCells, size_madeCells]) (fun i hi => by
      rw [B7.out.cell (p := ⟨b, o + i, none⟩) hbb]; exact HCS.out i hi)
    obtain ⟨m0, -, s0⟩ := X0.one
    obtain ⟨⟨c0, -⟩, -, sN⟩ := XN.state0
    go_upto_region 3 with fail
    have XN : Box w3 N 154 _ := (ho3 N hNE).trans XN
    have X1 : Box w3 (w.heap.size + 1) 26 _ := (ho3 _ (by omega)).trans X1
    have X2 : Box w3 (w.heap.size + 1 + 1) 31 _ := (ho3 _ (by omega)).trans X2
    have X3 : Box w3 (w.heap.size + 1 + 1 + 1) 154 _ := (ho3 _ (by omega)).trans X3
    have GB : Box w3 g 3 (intCells zs) := hg3
    have B3 : Hid (Below w.heap.size w w3) := B7.out.trans (hb3.mono (by omega))
    clear hrun hg3 ho3 hb3 B7 m0 s0 c0 sN X0 hs3
    have XN : Box w3 N 154 #[.slice (some ⟨g, 0, none⟩) 512 512, J p, J (nth (List.replicate 8 0) 0), J (nth (List.replicate 8 0) 1), J (nth (List.replicate 8 0) 2), J (nth (List.replicate 8 0) 3), J (nth (List.replicate 8 0) 4), J (nth (List.replicate 8 0) 5), J (nth (List.replicate 8 0) 6), J (nth (List.replicate 8 0) 7), J mo, J ba, .slice ca ck cc, J op, J oh, J ot, .bool st, J fe, J fp, J fh, J ft, .bool lo] := XN
    obtain ⟨w4, hrun, XN4, ho4, hs4, hb4⟩ := copy8 w3.drew N rb ro rc _ _ p r _ mo ba op oh ot fe fp fh ft st lo H8.out XN.drew (fun i hi => by
      show w3.cell? _ = _
      rw [B3.out.cell (p := ⟨rb, ro + i, none⟩) hrb]; exact HRC.out i hi)
    refine wp_region_late (by kernel_rfl) 4 (fun w' => Below w3.heap.size w3 w') (Below.drew (Below.refl _ _)) (fun hHeld => ?_)
    refine tkL 0 rfl (by kernel_rfl) (fun _ _ _ h => h) (by assumption) (by intro wz hSz; (try dsimp only at hSz); (obtain ⟨a0, a1, a2, -, -, -, s1⟩ := (X1.keep hSz).three); go_simp; (try with_reducible rfl)) ?_
    simp only [nmz]
    refine tkL 1 rfl (by kernel_rfl) (fun _ _ _ h => h) (by assumption) (by intro wz hSz; (try dsimp only at hSz); (obtain ⟨a0, a1, a2, -, -, -, s1⟩ := (X1.keep hSz).three); go_simp; (try with_reducible rfl)) ?_
    simp only [nmz]
    refine tkL 2 rfl (by kernel_rfl) (fun _ _ _ h => h) (by assumption) (by intro wz hSz; (try dsimp only at hSz); (obtain ⟨a0, a1, a2, -, -, -, s1⟩ := (X1.keep hSz).three); go_simp; (try with_reducible rfl)) ?_
    simp only [nmz]
    refine tkL 3 rfl (by kernel_rfl) (fun _ _ _ h => h) (by assumption) (by intro wz hSz; (try dsimp only at hSz); (obtain ⟨a0, a1, a2, -, -, -, s1⟩ := (X1.keep hSz).three); go_simp; (try with_reducible rfl)) ?_
    simp only [nmz]
    refine wpLate_oneL (i := 4) (by kernel_rfl) (by rfl) (fun K hK => ?_)
    go_simp
    refine hK.out _ _ (fun h => absurd h (by decide)) ?_
    clear hK K
    refine wpLate_done (by kernel_rfl) ?_ _
    have X2 : Box w4 (w.heap.size + 1 + 1) 31 _ := (ho4 _ (by omega)).trans X2
    have X3 : Box w4 (w.heap.size + 1 + 1 + 1) 154 _ := (ho4 _ (by omega)).trans X3
    have GB : Box w4 g 3 (intCells zs) := (ho4 _ (by omega)).trans GB
    have B4 : Hid (Below w.heap.size w w4) := (Below.drew B3.out).trans (hb4.mono (by omega))
    clear hrun ho4 hb4 hs4 B3 hHeld XN X1
    obtain ⟨cur, hmk, hcur⟩ := makeLines w4 ck (by rw [HCK.out]; exact H6.out)
    obtain ⟨⟨d0, d1, d2, -⟩, s2⟩ := X2.twelve
    have cN : w4.cell? ⟨N, 12, none⟩ = some (.slice ca ck cc) := XN4.cell 12
    have fN := XN4.marksAll
    have sN := XN4.lt
    have GB0 := GB.lt
    go_upto_region 5 with fail
    have YN : Box ((w4.setCell ⟨N, 12, none⟩ (.slice (some ⟨w4.heap.size, 0, none⟩) ck ck)).alloc (.cells cur 52)) N 154 #[.slice (some ⟨g, 0, none⟩) 512 512, J p, J (nth r 0), J (nth r 1), J (nth r 2), J (nth r 3), J (nth r 4), J (nth r 5), J (nth r 6), J (nth r 7), J mo, J ba, .slice (some ⟨w4.heap.size, 0, none⟩) ck ck, J op, J oh, J ot, .bool st, J fe, J fp, J fh, J ft, .bool lo] := Box.past (Box.set XN4 12 (.slice (some ⟨w4.heap.size, 0, none⟩) ck ck)) _
    have Y2 := (X2.other (p := ⟨N, 12, none⟩) (by show w.heap.size + 1 + 1 ≠ N; omega) (.slice (some ⟨w4.heap.size, 0, none⟩) ck ck)).past (.cells cur 52)
    have Y3 := (X3.other (p := ⟨N, 12, none⟩) (by show w.heap.size + 1 + 1 + 1 ≠ N; omega) (.slice (some ⟨w4.heap.size, 0, none⟩) ck ck)).past (.cells cur 52)
    have GB := (GB.other (p := ⟨N, 12, none⟩) (by show g ≠ N; omega) (.slice (some ⟨w4.heap.size, 0, none⟩) ck ck)).past (.cells cur 52)
    have LB : Box ((w4.setCell ⟨N, 12, none⟩ (.slice (some ⟨w4.heap.size, 0, none⟩) ck ck)).alloc (.cells cur 52)) w4.heap.size 52 cur := Box.newAt (by simp [World.setCell]) _ _
    have B5 : Hid (Below w.heap.size w ((w4.setCell ⟨N, 12, none⟩ (.slice (some ⟨w4.heap.size, 0, none⟩) ck ck)).alloc (.cells cur 52))) := bel_alloc (bel_set (by show w.heap.size ≤ N; omega) B4.out _) _
    have hgN : g < w4.heap.size := GB0
    clear cN fN d0 d1 d2 s2 hmk B4 XN4 X2 X3
    generalize ((w4.setCell ⟨N, 12, none⟩ (.slice (some ⟨w4.heap.size, 0, none⟩) ck ck)).alloc (.cells cur 52)) = w5x at *
    generalize w4.heap.size = kk at *
    obtain ⟨w6, hcp, hg6, ho6, hs6, hb6⟩ := copyLines w5x 3 (.slice ca ck cc) kk l cur LB (by rw [hcur, HCK.out]) (HL.out.keep B5.out)
    rw [← HCK.out] at hcp
    obtain ⟨⟨d0, d1, d2, -⟩, s2⟩ := Y2.twelve
    have cN : w5x.cell? ⟨N, 12, none⟩ = some (.slice (some ⟨kk, 0, none⟩) ck ck) := YN.cell 12
    have sM := YN.lt
    go_upto_region 6 with fail
    have YN : Box w6 N 154 _ := (ho6 N (by omega)).trans YN
    have Y3 : Box w6 (w.heap.size + 1 + 1 + 1) 154 _ := (ho6 _ (by omega)).trans Y3
    have GB : Box w6 g 3 (intCells zs) := (ho6 _ (by omega)).trans GB
    have LB : w6.heap[kk]? = some (.cells (l.flatMap cellsL).toArray 52 (0, 0)) := hg6
    have B6 : Hid (Below w.heap.size w w6) := B5.out.trans (hb6.mono (by omega))
    clear hcp ho6 hb6 hs6 B5 d0 d1 d2 s2 cN Y2 hg6
    go_wp2_with (first
      | (refine wpList_load_row rfl 154 (.tmp 7) rfl N rfl _ _ _ _ YN Tryz.underlying154 rfl infoState ?_)
      | (refine wpList_store_row rfl 154 (.tmp 6) (.tmp 36) rfl (w.heap.size + 1 + 1 + 1) _ rfl rfl _ _ Y3 infoState rfl (stateOne _ _ _ _ _ _ _ _ _ _ _ _ _ _ _ _ _ _ _ _ _ _ _ _ _ _) ?_))
    refine bodyPost_ret (v := .agg #[.slice (some ⟨g, 0, none⟩) 512 512, J p, J (nth r 0), J (nth r 1), J (nth r 2), J (nth r 3), J (nth r 4), J (nth r 5), J (nth r 6), J (nth r 7), J mo, J ba, .slice (some ⟨kk, 0, none⟩) ck ck, J op, J oh, J ot, .bool st, J fe, J fp, J fh, J ft, .bool lo]) (results_cell_row Tryz.results101 _ _ (w.heap.size + 1 + 1 + 1) _ _ _ _ rfl (Y3.setRow _) Tryz.underlying154 rfl infoState) rfl ⟨g, kk, rfl, ?_, ?_, by omega, by omega, bel_setRow (by omega) B6.out _⟩
    · exact sl_block (cs := intCells zs) (t := 3) (fr := (0, 0)) (GB.otherRow (by omega) _) (intCells_list _) HZ.out.symm (by rw [HZ.out]; simp [maxLen])
    · rw [HCK.out]
      exact ls_block (Box.otherRow (t := 52) (cs := (l.flatMap cellsL).toArray) LB (by omega) _) H6.out
end Go.Proofs.YthlhocneggcekaaGreat
