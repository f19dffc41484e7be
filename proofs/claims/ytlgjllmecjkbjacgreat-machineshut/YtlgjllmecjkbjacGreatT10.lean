/-
  Laid together: HStateOf, HLoad.
-/
import Derived.Test.YtlgjllmecjkbjacGreatT9
import Derived.Deep.RegionHeld3
/-
  Package hart: stateOf: a state that shares nothing with what it is made of; nothing that was there turns.
-/
namespace Go.Proofs.YtlgjllmecjkbjacGreat
open Go.RowKit
theorem copy8 (w : World) (N b o cap : Nat) (vm vc : Value) (pc : Int) (rs rs0 : List Int) (mo ba op oh ot fe fp fh ft : Int) (st lo : Bool) (h8 : rs.length = 8) (hN : Box w N 135 #[vm, .int .i64 pc, .int .i64 (nth rs0 0), .int .i64 (nth rs0 1), .int .i64 (nth rs0 2), .int .i64 (nth rs0 3), .int .i64 (nth rs0 4), .int .i64 (nth rs0 5), .int .i64 (nth rs0 6), .int .i64 (nth rs0 7), .int .i64 mo, .int .i64 ba, vc, .int .i64 op, .int .i64 oh, .int .i64 ot, .bool st, .int .i64 fe, .int .i64 fp, .int .i64 fh, .int .i64 ft, .bool lo])
    (hc : ∀ i, i < 8 → w.cell? ⟨b, o + i, none⟩ = some (.int .i64 (nth rs i))) :
    ∃ w3, (Builtin.copy_ #[22, 22] 3 #[.slice (some ⟨N, 2, none⟩) 8 8, .slice (some ⟨b, o, none⟩) 8 cap]).run Tryz.prog w = .ok (.int .i64 8) w3 ∧ Box w3 N 135 #[vm, .int .i64 pc, .int .i64 (nth rs 0), .int .i64 (nth rs 1), .int .i64 (nth rs 2), .int .i64 (nth rs 3), .int .i64 (nth rs 4), .int .i64 (nth rs 5), .int .i64 (nth rs 6), .int .i64 (nth rs 7), .int .i64 mo, .int .i64 ba, vc, .int .i64 op, .int .i64 oh, .int .i64 ot, .bool st, .int .i64 fe, .int .i64 fp, .int .i64 fh, .int .i64 ft, .bool lo] ∧
      (∀ k, k ≠ N → w3.heap[k]? = w.heap[k]?) ∧ w3.heap.size = w.heap.size ∧ Below N w w3 := by
  have hl : (rs.map (fun z => Value.int .i64 z)).length = 8 := by simp [h8]
  have h := run_copy_row (P := Tryz.prog) w 22 22 3 3 N 2 8 8 ⟨b, o, none⟩ 8 cap _ 135 (rs.map (fun z => Value.int .i64 z)) Tryz.underlying22 (by kernel_rfl) hN (by rw [hl]; rfl)
    (fun j v hv => by
      rw [List.getElem?_map] at hv
      by_cases hj : j < 8
      · rw [List.getElem?_eq_getElem (by omega)] at hv
        simp only [Option.map_some, Option.some.injEq] at hv
        have := hc j hj
        rw [← hv]
        have ha : Addr.add ⟨b, o, none⟩ j = ⟨b, o + j, none⟩ := by unfold Addr.add; split <;> simp_all
        rw [ha, this]
        simp [nth, h8, hj]
      · rw [List.getElem?_eq_none (by omega)] at hv
        simp at hv) (by rw [hl]; simp) (by
      intro v hv
      obtain ⟨z, _, rfl⟩ := List.mem_map.1 hv
      rfl)
  have hm : rs.map (fun z => Value.int .i64 z) = [.int .i64 (nth rs 0), .int .i64 (nth rs 1), .int .i64 (nth rs 2), .int .i64 (nth rs 3), .int .i64 (nth rs 4), .int .i64 (nth rs 5), .int .i64 (nth rs 6), .int .i64 (nth rs 7)] := by
    match rs, h8 with
    | [_, _, _, _, _, _, _, _], _ => rfl
  rw [hl, hm] at h
  exact ⟨_, h, setRow_heap w N _ _ _ _ hN, fun k hk => setRow_other w N k _ hk, by simp [World.setRow], ⟨rfl, rfl, rfl, by simp [World.setRow], fun k hk => setRow_other w N k _ (by omega)⟩⟩
set_option maxRecDepth 10000 in
set_option maxHeartbeats 4000000 in
theorem stateOf_any (v : Value) (zs : List Int) (p : Int) (u : Value) (r : List Int) (d : Bool) (mo ba op oh ot fe fp fh ft : Int) (st lo : Bool) (vc : Value) (l : List Ln) (w : World) (hs : Sl w v zs) (hr : Sl w u r) (h : Ls w vc l) (hz : zs.length = 512) (h8 : r.length = 8) (h6 : l.length ≤ 6) :
    Calls Tryz.prog 83 #[.agg #[v], .agg #[.int .i64 p, u, .bool d], .agg #[.int .i64 mo, .int .i64 ba, vc, .int .i64 op, .int .i64 oh, .int .i64 ot, .bool st, .int .i64 fe, .int .i64 fp, .int .i64 fh, .int .i64 ft, .bool lo]] w fun e w' => ∃ g k, e = .returned (.agg #[.slice (some ⟨g, 0, none⟩) 512 512, .int .i64 p, .int .i64 (nth r 0), .int .i64 (nth r 1), .int .i64 (nth r 2), .int .i64 (nth r 3), .int .i64 (nth r 4), .int .i64 (nth r 5), .int .i64 (nth r 6), .int .i64 (nth r 7), .int .i64 mo, .int .i64 ba, .slice (some ⟨k, 0, none⟩) l.length l.length, .int .i64 op, .int .i64 oh, .int .i64 ot, .bool st, .int .i64 fe, .int .i64 fp, .int .i64 fh, .int .i64 ft, .bool lo]) ∧
      Sl w' (.slice (some ⟨g, 0, none⟩) 512 512) zs ∧ Ls w' (.slice (some ⟨k, 0, none⟩) l.length l.length) l ∧ w.heap.size ≤ g ∧ w.heap.size ≤ k ∧ Below w.heap.size w w' := by
  have HL : Hid (Ls w vc l) := h
  obtain ⟨ca, cc, rfl, -⟩ := h.shape
  obtain ⟨b, o, cap, rfl, hbb, hcs⟩ := hs.open512 hz
  have HCS : Hid (∀ i, i < 512 → w.cell? ⟨b, o + i, none⟩ = some (.int .i64 (nth zs i))) := hcs
  obtain ⟨ra, rc, rfl, hrl, hrr⟩ := hr
  rcases hrr with e | ⟨rb, ro, rfl, hrb, hrc⟩
  · exact absurd h8 (by rw [e]; simp)
  rw [h8] at hrc ⊢
  have HRC : Hid (∀ i, i < 8 → w.cell? ⟨rb, ro + i, none⟩ = some (.int .i64 (nth r i))) := hrc
  have HZ : Hid (zs.length = 512) := hz
  have H8 : Hid (r.length = 8) := h8
  have H6 : Hid (l.length ≤ 6) := h6
  obtain ⟨ck, hck⟩ : ∃ ck, ck = l.length := ⟨_, rfl⟩
  have HCK : Hid (ck = l.length) := hck
  rw [← hck] at HL ⊢
  clear h hs hcs hrc hrl hz h8 h6 hck
  have X0 := (((Box.newAt (w := w) (n := w.heap.size) rfl 24 #[.slice (some ⟨b, o, none⟩) 512 cap]).past (.cells #[.int .i64 p, .slice (some ⟨rb, ro, none⟩) 8 rc, .bool d] 26)).past (.cells #[.int .i64 mo, .int .i64 ba, .slice ca ck cc, .int .i64 op, .int .i64 oh, .int .i64 ot, .bool st, .int .i64 fe, .int .i64 fp, .int .i64 fh, .int .i64 ft, .bool lo] 31)).past (.cells #[.slice none 0 0, .int .i64 0, .int .i64 0, .int .i64 0, .int .i64 0, .int .i64 0, .int .i64 0, .int .i64 0, .int .i64 0, .int .i64 0, .int .i64 0, .int .i64 0, .slice none 0 0, .int .i64 0, .int .i64 0, .int .i64 0, .bool false, .int .i64 0, .int .i64 0, .int .i64 0, .int .i64 0, .bool false] 135)
  have X1 := ((Box.newAt (w := w.alloc (.cells #[.slice (some ⟨b, o, none⟩) 512 cap] 24)) (n := w.heap.size + 1) (by simp) 26 #[.int .i64 p, .slice (some ⟨rb, ro, none⟩) 8 rc, .bool d]).past (.cells #[.int .i64 mo, .int .i64 ba, .slice ca ck cc, .int .i64 op, .int .i64 oh, .int .i64 ot, .bool st, .int .i64 fe, .int .i64 fp, .int .i64 fh, .int .i64 ft, .bool lo] 31)).past (.cells #[.slice none 0 0, .int .i64 0, .int .i64 0, .int .i64 0, .int .i64 0, .int .i64 0, .int .i64 0, .int .i64 0, .int .i64 0, .int .i64 0, .int .i64 0, .int .i64 0, .slice none 0 0, .int .i64 0, .int .i64 0, .int .i64 0, .bool false, .int .i64 0, .int .i64 0, .int .i64 0, .int .i64 0, .bool false] 135)
  have X2 := (Box.newAt (w := (w.alloc (.cells #[.slice (some ⟨b, o, none⟩) 512 cap] 24)).alloc (.cells #[.int .i64 p, .slice (some ⟨rb, ro, none⟩) 8 rc, .bool d] 26)) (n := w.heap.size + 1 + 1) (by simp) 31 #[.int .i64 mo, .int .i64 ba, .slice ca ck cc, .int .i64 op, .int .i64 oh, .int .i64 ot, .bool st, .int .i64 fe, .int .i64 fp, .int .i64 fh, .int .i64 ft, .bool lo]).past (.cells #[.slice none 0 0, .int .i64 0, .int .i64 0, .int .i64 0, .int .i64 0, .int .i64 0, .int .i64 0, .int .i64 0, .int .i64 0, .int .i64 0, .int .i64 0, .int .i64 0, .slice none 0 0, .int .i64 0, .int .i64 0, .int .i64 0, .bool false, .int .i64 0, .int .i64 0, .int .i64 0, .int .i64 0, .bool false] 135)
  have X3 := Box.newAt (w := ((w.alloc (.cells #[.slice (some ⟨b, o, none⟩) 512 cap] 24)).alloc (.cells #[.int .i64 p, .slice (some ⟨rb, ro, none⟩) 8 rc, .bool d] 26)).alloc (.cells #[.int .i64 mo, .int .i64 ba, .slice ca ck cc, .int .i64 op, .int .i64 oh, .int .i64 ot, .bool st, .int .i64 fe, .int .i64 fp, .int .i64 fh, .int .i64 ft, .bool lo] 31)) (n := w.heap.size + 1 + 1 + 1) (by simp) 135 #[.slice none 0 0, .int .i64 0, .int .i64 0, .int .i64 0, .int .i64 0, .int .i64 0, .int .i64 0, .int .i64 0, .int .i64 0, .int .i64 0, .int .i64 0, .int .i64 0, .slice none 0 0, .int .i64 0, .int .i64 0, .int .i64 0, .bool false, .int .i64 0, .int .i64 0, .int .i64 0, .int .i64 0, .bool false]
  have B0 : Hid (Below w.heap.size w _) := bel_alloc (bel_alloc (bel_alloc (bel_alloc (Below.refl w.heap.size w) (.cells #[.slice (some ⟨b, o, none⟩) 512 cap] 24)) (.cells #[.int .i64 p, .slice (some ⟨rb, ro, none⟩) 8 rc, .bool d] 26)) (.cells #[.int .i64 mo, .int .i64 ba, .slice ca ck cc, .int .i64 op, .int .i64 oh, .int .i64 ot, .bool st, .int .i64 fe, .int .i64 fp, .int .i64 fh, .int .i64 ft, .bool lo] 31)) (.cells #[.slice none 0 0, .int .i64 0, .int .i64 0, .int .i64 0, .int .i64 0, .int .i64 0, .int .i64 0, .int .i64 0, .int .i64 0, .int .i64 0, .int .i64 0, .int .i64 0, .slice none 0 0, .int .i64 0, .int .i64 0, .int .i64 0, .bool false, .int .i64 0, .int .i64 0, .int .i64 0, .int .i64 0, .bool false] 135)
  have WS : Hid (((((w.alloc (.cells #[.slice (some ⟨b, o, none⟩) 512 cap] 24)).alloc (.cells #[.int .i64 p, .slice (some ⟨rb, ro, none⟩) 8 rc, .bool d] 26)).alloc (.cells #[.int .i64 mo, .int .i64 ba, .slice ca ck cc, .int .i64 op, .int .i64 oh, .int .i64 ot, .bool st, .int .i64 fe, .int .i64 fp, .int .i64 fh, .int .i64 ft, .bool lo] 31)).alloc (.cells #[.slice none 0 0, .int .i64 0, .int .i64 0, .int .i64 0, .int .i64 0, .int .i64 0, .int .i64 0, .int .i64 0, .int .i64 0, .int .i64 0, .int .i64 0, .int .i64 0, .slice none 0 0, .int .i64 0, .int .i64 0, .int .i64 0, .bool false, .int .i64 0, .int .i64 0, .int .i64 0, .int .i64 0, .bool false] 135)).heap.size = w.heap.size + 1 + 1 + 1 + 1) := by show _ = _; simp
  go_enter Tryz.func83, Tryz.ntmps83
  go_upto_region 1 with fail
  generalize ((((w.alloc (.cells #[.slice (some ⟨b, o, none⟩) 512 cap] 24)).alloc (.cells #[.int .i64 p, .slice (some ⟨rb, ro, none⟩) 8 rc, .bool d] 26)).alloc (.cells #[.int .i64 mo, .int .i64 ba, .slice ca ck cc, .int .i64 op, .int .i64 oh, .int .i64 ot, .bool st, .int .i64 fe, .int .i64 fp, .int .i64 fh, .int .i64 ft, .bool lo] 31)).alloc (.cells #[.slice none 0 0, .int .i64 0, .int .i64 0, .int .i64 0, .int .i64 0, .int .i64 0, .int .i64 0, .int .i64 0, .int .i64 0, .int .i64 0, .int .i64 0, .int .i64 0, .slice none 0 0, .int .i64 0, .int .i64 0, .int .i64 0, .bool false, .int .i64 0, .int .i64 0, .int .i64 0, .int .i64 0, .bool false] 135)) = W at *
  refine wp_region_held_drew (S := fun w' => Below W.heap.size W w') (by kernel_rfl) (Below.drew (Below.refl _ _)) (fun hHeld => ?_)
  refine wpHeld_takeL (i := 1) (v := ?_) rfl (by kernel_rfl) (by kernel_rfl) (by kernel_rfl) (fun _ _ _ h => h) (Or.inl ⟨by kernel_rfl, ?_⟩) (by assumption) ?_
  rotate_left 1
  focus (intro wz hSz; (try dsimp only at hSz); (obtain ⟨a0, a1, a2, -, -, -, s1⟩ := (X1.keep hSz).three); (obtain ⟨⟨d0, d1, d2, d3, d4, d5, d6, d7, d8, d9, d10, d11⟩, s2⟩ := (X2.keep hSz).twelve); go_simp; (try with_reducible rfl))
  simp only [Act.put, List.setIfInBounds_toArray, List.set_cons_zero, List.set_cons_succ]
  refine wpHeld_takeL (i := 2) (v := ?_) rfl (by kernel_rfl) (by kernel_rfl) (by kernel_rfl) (fun _ _ _ h => h) (Or.inl ⟨by kernel_rfl, ?_⟩) (by assumption) ?_
  rotate_left 1
  focus (intro wz hSz; (try dsimp only at hSz); (obtain ⟨a0, a1, a2, -, -, -, s1⟩ := (X1.keep hSz).three); (obtain ⟨⟨d0, d1, d2, d3, d4, d5, d6, d7, d8, d9, d10, d11⟩, s2⟩ := (X2.keep hSz).twelve); go_simp; (try with_reducible rfl))
  simp only [Act.put, List.setIfInBounds_toArray, List.set_cons_zero, List.set_cons_succ]
  refine wpHeld_takeL (i := 3) (v := ?_) rfl (by kernel_rfl) (by kernel_rfl) (by kernel_rfl) (fun _ _ _ h => h) (Or.inl ⟨by kernel_rfl, ?_⟩) (by assumption) ?_
  rotate_left 1
  focus (intro wz hSz; (try dsimp only at hSz); (obtain ⟨a0, a1, a2, -, -, -, s1⟩ := (X1.keep hSz).three); (obtain ⟨⟨d0, d1, d2, d3, d4, d5, d6, d7, d8, d9, d10, d11⟩, s2⟩ := (X2.keep hSz).twelve); go_simp; (try with_reducible rfl))
  simp only [Act.put, List.setIfInBounds_toArray, List.set_cons_zero, List.set_cons_succ]
  refine wpHeld_twoL (i := 0) (j := 5) (by kernel_rfl) (by rfl) (by rfl) (fun K hK => ?_) (fun K hK => ?_)
  · go_simp
    refine (new_own _).mono ?_
    rintro e w5 ⟨g, rfl, hg5, hge, b5⟩
    go_wp2_with fail
    refine hK.out _ _ ?_ (fun hHeld2 => ?_)
    · exact bel_trans hHeld b5
    clear hK K hHeld
    have hHeld := hHeld2
    clear hHeld2
    refine wpHeld_takeL (i := 4) (v := ?_) rfl (by kernel_rfl) (by kernel_rfl) (by kernel_rfl) (fun _ _ _ h => h) (Or.inl ⟨by kernel_rfl, ?_⟩) (by assumption) ?_
    rotate_left 1
    focus (intro wz hSz; (try dsimp only at hSz);  go_simp; (try with_reducible rfl))
    simp only [Act.put, List.setIfInBounds_toArray, List.set_cons_zero, List.set_cons_succ]
    refine wpHeld_oneL (i := 5) (by kernel_rfl) (by rfl) (fun K hK => ?_)
    go_simp
    refine hK.out _ _ ?_ (fun hHeld2 => ?_)
    · exact bel_alloc hHeld _
    clear hK K hHeld
    have hHeld := hHeld2
    clear hHeld2
    have XN := Box.newAt (w := w5) (n := w5.heap.size) rfl 135 #[.slice none 0 0, .int .i64 0, .int .i64 0, .int .i64 0, .int .i64 0, .int .i64 0, .int .i64 0, .int .i64 0, .int .i64 0, .int .i64 0, .int .i64 0, .int .i64 0, .slice none 0 0, .int .i64 0, .int .i64 0, .int .i64 0, .bool false, .int .i64 0, .int .i64 0, .int .i64 0, .int .i64 0, .bool false]
    have hgE : W.heap.size ≤ g := hge
    have hgl : g < w5.heap.size := (Array.getElem?_eq_some_iff.1 hg5).1
    have GB : Box (w5.alloc (.cells #[.slice none 0 0, .int .i64 0, .int .i64 0, .int .i64 0, .int .i64 0, .int .i64 0, .int .i64 0, .int .i64 0, .int .i64 0, .int .i64 0, .int .i64 0, .int .i64 0, .slice none 0 0, .int .i64 0, .int .i64 0, .int .i64 0, .bool false, .int .i64 0, .int .i64 0, .int .i64 0, .int .i64 0, .bool false] 135)) g 3 zeroCells := Box.past (t := 3) (cs := zeroCells) hg5 _
    have hNE : w5.heap.size ≠ g := by omega
    have hNW : W.heap.size ≤ w5.heap.size := by omega
    generalize (w5.alloc (.cells #[.slice none 0 0, .int .i64 0, .int .i64 0, .int .i64 0, .int .i64 0, .int .i64 0, .int .i64 0, .int .i64 0, .int .i64 0, .int .i64 0, .int .i64 0, .int .i64 0, .slice none 0 0, .int .i64 0, .int .i64 0, .int .i64 0, .bool false, .int .i64 0, .int .i64 0, .int .i64 0, .int .i64 0, .bool false] 135)) = W5 at *
    generalize w5.heap.size = N at *
    refine wpHeld_oneL (i := 6) (by kernel_rfl) (by rfl) (fun K hK => ?_)
    rw [if_pos (by rfl)]
    refine wp_store_row 135 (.tmp 7) (.tmp 12) rfl N _ rfl rfl _ _ XN infoState rfl (stateOne _ _ _ _ _ _ _ _ _ _ _ _ _ _ _ _ _ _ _ _ _ _ _ _ _ _) ?_
    refine hK.out _ _ ?_ (fun hHeld2 => ?_)
    · exact bel_setRow hNW hHeld _
    clear hK K hHeld
    have hHeld := hHeld2
    clear hHeld2
    refine wpAnyH_done (by kernel_rfl) ?_ _
    have XN := XN.setRow #[.slice (some ⟨g, 0, none⟩) 512 512, .int .i64 p, .int .i64 0, .int .i64 0, .int .i64 0, .int .i64 0, .int .i64 0, .int .i64 0, .int .i64 0, .int .i64 0, .int .i64 mo, .int .i64 ba, .slice ca ck cc, .int .i64 op, .int .i64 oh, .int .i64 ot, .bool st, .int .i64 fe, .int .i64 fp, .int .i64 fh, .int .i64 ft, .bool lo]
    have GB := GB.otherRow (m := N) (by omega) #[.slice (some ⟨g, 0, none⟩) 512 512, .int .i64 p, .int .i64 0, .int .i64 0, .int .i64 0, .int .i64 0, .int .i64 0, .int .i64 0, .int .i64 0, .int .i64 0, .int .i64 mo, .int .i64 ba, .slice ca ck cc, .int .i64 op, .int .i64 oh, .int .i64 ot, .bool st, .int .i64 fe, .int .i64 fp, .int .i64 fh, .int .i64 ft, .bool lo]
    have X0 := X0.keep hHeld
    have X1 := X1.keep hHeld
    have X2 := X2.keep hHeld
    have X3 := X3.keep hHeld
    have B7 : Hid (Below w.heap.size w _) := bel_trans B0.out hHeld
    have ws := WS.out
    clear hHeld B0
    generalize (W5.setRow N #[.slice (some ⟨g, 0, none⟩) 512 512, .int .i64 p, .int .i64 0, .int .i64 0, .int .i64 0, .int .i64 0, .int .i64 0, .int .i64 0, .int .i64 0, .int .i64 0, .int .i64 mo, .int .i64 ba, .slice ca ck cc, .int .i64 op, .int .i64 oh, .int .i64 ot, .bool st, .int .i64 fe, .int .i64 fp, .int .i64 fh, .int .i64 ft, .bool lo]) = W7 at *
    obtain ⟨w3, hrun, hg3, ho3, hs3, hb3⟩ := copy_full W7 b o cap g zs zeroCells HZ.out GB (by simp [zeroCells, size_madeCells]) (fun i hi => by
      rw [B7.out.cell (p := ⟨b, o + i, none⟩) hbb]; exact HCS.out i hi)
    obtain ⟨m0, -, s0⟩ := X0.one
    obtain ⟨⟨c0, -⟩, -, sN⟩ := XN.state0
    go_upto_region 3 with fail
    have XN : Box w3 N 135 _ := (ho3 N hNE).trans XN
    have X1 : Box w3 (w.heap.size + 1) 26 _ := (ho3 _ (by omega)).trans X1
    have X2 : Box w3 (w.heap.size + 1 + 1) 31 _ := (ho3 _ (by omega)).trans X2
    have X3 : Box w3 (w.heap.size + 1 + 1 + 1) 135 _ := (ho3 _ (by omega)).trans X3
    have GB : Box w3 g 3 (intCells zs) := hg3
    have B3 : Hid (Below w.heap.size w w3) := B7.out.trans (hb3.mono (by omega))
    clear hrun hg3 ho3 hb3 B7 m0 s0 c0 sN X0 hs3
    have XN : Box w3 N 135 #[.slice (some ⟨g, 0, none⟩) 512 512, .int .i64 p, .int .i64 (nth (List.replicate 8 0) 0), .int .i64 (nth (List.replicate 8 0) 1), .int .i64 (nth (List.replicate 8 0) 2), .int .i64 (nth (List.replicate 8 0) 3), .int .i64 (nth (List.replicate 8 0) 4), .int .i64 (nth (List.replicate 8 0) 5), .int .i64 (nth (List.replicate 8 0) 6), .int .i64 (nth (List.replicate 8 0) 7), .int .i64 mo, .int .i64 ba, .slice ca ck cc, .int .i64 op, .int .i64 oh, .int .i64 ot, .bool st, .int .i64 fe, .int .i64 fp, .int .i64 fh, .int .i64 ft, .bool lo] := XN
    obtain ⟨w4, hrun, XN4, ho4, hs4, hb4⟩ := copy8 w3.drew N rb ro rc _ _ p r _ mo ba op oh ot fe fp fh ft st lo H8.out XN.drew (fun i hi => by
      show w3.cell? _ = _
      rw [B3.out.cell (p := ⟨rb, ro + i, none⟩) hrb]; exact HRC.out i hi)
    refine wp_region_late (by kernel_rfl) 4 (fun w' => Below w3.heap.size w3 w') (Below.drew (Below.refl _ _)) (fun hHeld => ?_)
    refine wpLate_takeL (i := 0) (v := ?_) rfl (by kernel_rfl) (by kernel_rfl) (by kernel_rfl) (by kernel_rfl) (by kernel_rfl) (fun _ _ _ h => h) (Or.inl ⟨by kernel_rfl, ?_⟩) (by assumption) ?_
    rotate_left 1
    focus (intro wz hSz; (try dsimp only at hSz); (obtain ⟨a0, a1, a2, -, -, -, s1⟩ := (X1.keep hSz).three); go_simp; (try with_reducible rfl))
    simp only [Act.put, List.setIfInBounds_toArray, List.set_cons_zero, List.set_cons_succ]
    refine wpLate_takeL (i := 1) (v := ?_) rfl (by kernel_rfl) (by kernel_rfl) (by kernel_rfl) (by kernel_rfl) (by kernel_rfl) (fun _ _ _ h => h) (Or.inl ⟨by kernel_rfl, ?_⟩) (by assumption) ?_
    rotate_left 1
    focus (intro wz hSz; (try dsimp only at hSz); (obtain ⟨a0, a1, a2, -, -, -, s1⟩ := (X1.keep hSz).three); go_simp; (try with_reducible rfl))
    simp only [Act.put, List.setIfInBounds_toArray, List.set_cons_zero, List.set_cons_succ]
    refine wpLate_takeL (i := 2) (v := ?_) rfl (by kernel_rfl) (by kernel_rfl) (by kernel_rfl) (by kernel_rfl) (by kernel_rfl) (fun _ _ _ h => h) (Or.inl ⟨by kernel_rfl, ?_⟩) (by assumption) ?_
    rotate_left 1
    focus (intro wz hSz; (try dsimp only at hSz); (obtain ⟨a0, a1, a2, -, -, -, s1⟩ := (X1.keep hSz).three); go_simp; (try with_reducible rfl))
    simp only [Act.put, List.setIfInBounds_toArray, List.set_cons_zero, List.set_cons_succ]
    refine wpLate_takeL (i := 3) (v := ?_) rfl (by kernel_rfl) (by kernel_rfl) (by kernel_rfl) (by kernel_rfl) (by kernel_rfl) (fun _ _ _ h => h) (Or.inl ⟨by kernel_rfl, ?_⟩) (by assumption) ?_
    rotate_left 1
    focus (intro wz hSz; (try dsimp only at hSz); (obtain ⟨a0, a1, a2, -, -, -, s1⟩ := (X1.keep hSz).three); go_simp; (try with_reducible rfl))
    simp only [Act.put, List.setIfInBounds_toArray, List.set_cons_zero, List.set_cons_succ]
    refine wpLate_oneL (i := 4) (by kernel_rfl) (by rfl) (fun K hK => ?_)
    go_simp
    refine hK.out _ _ (fun h => absurd h (by decide)) ?_
    clear hK K
    refine wpLate_done (by kernel_rfl) ?_ _
    have X2 : Box w4 (w.heap.size + 1 + 1) 31 _ := (ho4 _ (by omega)).trans X2
    have X3 : Box w4 (w.heap.size + 1 + 1 + 1) 135 _ := (ho4 _ (by omega)).trans X3
    have GB : Box w4 g 3 (intCells zs) := (ho4 _ (by omega)).trans GB
    have B4 : Hid (Below w.heap.size w w4) := (Below.drew B3.out).trans (hb4.mono (by omega))
    clear hrun ho4 hb4 hs4 B3 hHeld XN X1
    obtain ⟨cur, hmk, hcur⟩ := makeLines w4 ck (by rw [HCK.out]; exact H6.out)
    obtain ⟨⟨d0, d1, d2, -⟩, s2⟩ := X2.twelve
    have cN : w4.cell? ⟨N, 12, none⟩ = some (.slice ca ck cc) := XN4.cell 12
    have fN := XN4.marksAll
    have sN := XN4.lt
    have GB0 := GB.lt
    go_upto_region 5 with fail
    have YN : Box ((w4.setCell ⟨N, 12, none⟩ (.slice (some ⟨w4.heap.size, 0, none⟩) ck ck)).alloc (.cells cur 52)) N 135 #[.slice (some ⟨g, 0, none⟩) 512 512, .int .i64 p, .int .i64 (nth r 0), .int .i64 (nth r 1), .int .i64 (nth r 2), .int .i64 (nth r 3), .int .i64 (nth r 4), .int .i64 (nth r 5), .int .i64 (nth r 6), .int .i64 (nth r 7), .int .i64 mo, .int .i64 ba, .slice (some ⟨w4.heap.size, 0, none⟩) ck ck, .int .i64 op, .int .i64 oh, .int .i64 ot, .bool st, .int .i64 fe, .int .i64 fp, .int .i64 fh, .int .i64 ft, .bool lo] := Box.past (Box.set XN4 12 (.slice (some ⟨w4.heap.size, 0, none⟩) ck ck)) _
    have Y2 := (X2.other (p := ⟨N, 12, none⟩) (by show w.heap.size + 1 + 1 ≠ N; omega) (.slice (some ⟨w4.heap.size, 0, none⟩) ck ck)).past (.cells cur 52)
    have Y3 := (X3.other (p := ⟨N, 12, none⟩) (by show w.heap.size + 1 + 1 + 1 ≠ N; omega) (.slice (some ⟨w4.heap.size, 0, none⟩) ck ck)).past (.cells cur 52)
    have GB := (GB.other (p := ⟨N, 12, none⟩) (by show g ≠ N; omega) (.slice (some ⟨w4.heap.size, 0, none⟩) ck ck)).past (.cells cur 52)
    have LB : Box ((w4.setCell ⟨N, 12, none⟩ (.slice (some ⟨w4.heap.size, 0, none⟩) ck ck)).alloc (.cells cur 52)) w4.heap.size 52 cur := Box.newAt (by simp [World.setCell]) _ _
    have B5 : Hid (Below w.heap.size w ((w4.setCell ⟨N, 12, none⟩ (.slice (some ⟨w4.heap.size, 0, none⟩) ck ck)).alloc (.cells cur 52))) := bel_alloc (bel_set (by show w.heap.size ≤ N; omega) B4.out _) _
    have hgN : g < w4.heap.size := GB0
    clear cN fN d0 d1 d2 s2 hmk B4 XN4 X2 X3
    generalize ((w4.setCell ⟨N, 12, none⟩ (.slice (some ⟨w4.heap.size, 0, none⟩) ck ck)).alloc (.cells cur 52)) = w5x at *
    generalize w4.heap.size = kk at *
    obtain ⟨w6, hcp, hg6, ho6, hs6, hb6⟩ := copyLines w5x 3 (.slice ca ck cc) kk l cur LB (by rw [hcur, HCK.out]) (HL.out.keep B5.out)
    rw [← HCK.out] at hcp
    obtain ⟨⟨d0, d1, d2, -⟩, s2⟩ := Y2.twelve
    have cN : w5x.cell? ⟨N, 12, none⟩ = some (.slice (some ⟨kk, 0, none⟩) ck ck) := YN.cell 12
    have sM := YN.lt
    go_upto_region 6 with fail
    have YN : Box w6 N 135 _ := (ho6 N (by omega)).trans YN
    have Y3 : Box w6 (w.heap.size + 1 + 1 + 1) 135 _ := (ho6 _ (by omega)).trans Y3
    have GB : Box w6 g 3 (intCells zs) := (ho6 _ (by omega)).trans GB
    have LB : w6.heap[kk]? = some (.cells (l.flatMap cellsL).toArray 52 (0, 0)) := hg6
    have B6 : Hid (Below w.heap.size w w6) := B5.out.trans (hb6.mono (by omega))
    clear hcp ho6 hb6 hs6 B5 d0 d1 d2 s2 cN Y2 hg6
    go_wp2_with (first
      | (refine wpList_load_row rfl 135 (.tmp 7) rfl N rfl _ _ _ _ YN Tryz.underlying135 rfl infoState ?_)
      | (refine wpList_store_row rfl 135 (.tmp 6) (.tmp 36) rfl (w.heap.size + 1 + 1 + 1) _ rfl rfl _ _ Y3 infoState rfl (stateOne _ _ _ _ _ _ _ _ _ _ _ _ _ _ _ _ _ _ _ _ _ _ _ _ _ _) ?_))
    refine bodyPost_ret (v := .agg #[.slice (some ⟨g, 0, none⟩) 512 512, .int .i64 p, .int .i64 (nth r 0), .int .i64 (nth r 1), .int .i64 (nth r 2), .int .i64 (nth r 3), .int .i64 (nth r 4), .int .i64 (nth r 5), .int .i64 (nth r 6), .int .i64 (nth r 7), .int .i64 mo, .int .i64 ba, .slice (some ⟨kk, 0, none⟩) ck ck, .int .i64 op, .int .i64 oh, .int .i64 ot, .bool st, .int .i64 fe, .int .i64 fp, .int .i64 fh, .int .i64 ft, .bool lo]) (results_cell_row Tryz.results83 _ _ (w.heap.size + 1 + 1 + 1) _ _ _ _ rfl (Y3.setRow _) Tryz.underlying135 rfl infoState) rfl ⟨g, kk, rfl, ?_, ?_, by omega, by omega, bel_setRow (by omega) B6.out _⟩
    · exact sl_block (cs := intCells zs) (t := 3) (fr := (0, 0)) (GB.otherRow (by omega) _) (intCells_list _) HZ.out.symm (by rw [HZ.out]; simp [maxLen])
    · rw [HCK.out]
      exact ls_block (Box.otherRow (t := 52) (cs := (l.flatMap cellsL).toArray) LB (by omega) _) H6.out
  · go_simp
    refine hK.out _ _ ?_ (fun hHeld2 => ?_)
    · exact bel_alloc hHeld _
    clear hK K hHeld
    have hHeld := hHeld2
    clear hHeld2
    refine wpHeld_oneL (i := 0) (by kernel_rfl) (by rfl) (fun K hK => ?_)
    go_simp
    refine (new_own _).mono ?_
    rintro e w5 ⟨g, rfl, hg5, hge, b5⟩
    have XN := ((Box.newAt (w := W) (n := W.heap.size) rfl 135 #[.slice none 0 0, .int .i64 0, .int .i64 0, .int .i64 0, .int .i64 0, .int .i64 0, .int .i64 0, .int .i64 0, .int .i64 0, .int .i64 0, .int .i64 0, .int .i64 0, .slice none 0 0, .int .i64 0, .int .i64 0, .int .i64 0, .bool false, .int .i64 0, .int .i64 0, .int .i64 0, .int .i64 0, .bool false]).drew.keep b5)
    have hgE : W.heap.size + 1 ≤ g := by simpa using hge
    have GB : Box w5 g 3 zeroCells := hg5
    go_wp2_with fail
    refine hK.out _ _ ?_ (fun hHeld2 => ?_)
    · exact bel_trans hHeld b5
    clear hK K hHeld
    have hHeld := hHeld2
    clear hHeld2
    refine wpHeld_takeL (i := 4) (v := ?_) rfl (by kernel_rfl) (by kernel_rfl) (by kernel_rfl) (fun _ _ _ h => h) (Or.inl ⟨by kernel_rfl, ?_⟩) (by assumption) ?_
    rotate_left 1
    focus (intro wz hSz; (try dsimp only at hSz);  go_simp; (try with_reducible rfl))
    simp only [Act.put, List.setIfInBounds_toArray, List.set_cons_zero, List.set_cons_succ]
    have hNE : W.heap.size ≠ g := by omega
    have hNW : W.heap.size ≤ W.heap.size := Nat.le_refl _
    refine wpHeld_oneL (i := 6) (by kernel_rfl) (by rfl) (fun K hK => ?_)
    rw [if_pos (by rfl)]
    refine wp_store_row 135 (.tmp 7) (.tmp 12) rfl W.heap.size _ rfl rfl _ _ XN infoState rfl (stateOne _ _ _ _ _ _ _ _ _ _ _ _ _ _ _ _ _ _ _ _ _ _ _ _ _ _) ?_
    refine hK.out _ _ ?_ (fun hHeld2 => ?_)
    · exact bel_setRow hNW hHeld _
    clear hK K hHeld
    have hHeld := hHeld2
    clear hHeld2
    refine wpAnyH_done (by kernel_rfl) ?_ _
    have XN := XN.setRow #[.slice (some ⟨g, 0, none⟩) 512 512, .int .i64 p, .int .i64 0, .int .i64 0, .int .i64 0, .int .i64 0, .int .i64 0, .int .i64 0, .int .i64 0, .int .i64 0, .int .i64 mo, .int .i64 ba, .slice ca ck cc, .int .i64 op, .int .i64 oh, .int .i64 ot, .bool st, .int .i64 fe, .int .i64 fp, .int .i64 fh, .int .i64 ft, .bool lo]
    have GB := GB.otherRow (m := W.heap.size) (by omega) #[.slice (some ⟨g, 0, none⟩) 512 512, .int .i64 p, .int .i64 0, .int .i64 0, .int .i64 0, .int .i64 0, .int .i64 0, .int .i64 0, .int .i64 0, .int .i64 0, .int .i64 mo, .int .i64 ba, .slice ca ck cc, .int .i64 op, .int .i64 oh, .int .i64 ot, .bool st, .int .i64 fe, .int .i64 fp, .int .i64 fh, .int .i64 ft, .bool lo]
    have X0 := X0.keep hHeld
    have X1 := X1.keep hHeld
    have X2 := X2.keep hHeld
    have X3 := X3.keep hHeld
    have B7 : Hid (Below w.heap.size w _) := bel_trans B0.out hHeld
    have ws := WS.out
    obtain ⟨N, hN⟩ : ∃ N, W.heap.size = N := ⟨_, rfl⟩
    rw [hN] at XN GB X0 X1 X2 X3 hNE hgE B7 ⊢
    have hNW : W.heap.size ≤ N := by omega
    have hgE : W.heap.size ≤ g := by omega
    clear hN
    obtain ⟨W5, hW5⟩ : ∃ W5, w5 = W5 := ⟨_, rfl⟩
    rw [hW5] at XN GB X0 X1 X2 X3 B7 ⊢
    clear hW5
    clear hHeld B0
    generalize (W5.setRow N #[.slice (some ⟨g, 0, none⟩) 512 512, .int .i64 p, .int .i64 0, .int .i64 0, .int .i64 0, .int .i64 0, .int .i64 0, .int .i64 0, .int .i64 0, .int .i64 0, .int .i64 mo, .int .i64 ba, .slice ca ck cc, .int .i64 op, .int .i64 oh, .int .i64 ot, .bool st, .int .i64 fe, .int .i64 fp, .int .i64 fh, .int .i64 ft, .bool lo]) = W7 at *
    obtain ⟨w3, hrun, hg3, ho3, hs3, hb3⟩ := copy_full W7 b o cap g zs zeroCells HZ.out GB (by simp [zeroCells, size_madeCells]) (fun i hi => by
      rw [B7.out.cell (p := ⟨b, o + i, none⟩) hbb]; exact HCS.out i hi)
    obtain ⟨m0, -, s0⟩ := X0.one
    obtain ⟨⟨c0, -⟩, -, sN⟩ := XN.state0
    go_upto_region 3 with fail
    have XN : Box w3 N 135 _ := (ho3 N hNE).trans XN
    have X1 : Box w3 (w.heap.size + 1) 26 _ := (ho3 _ (by omega)).trans X1
    have X2 : Box w3 (w.heap.size + 1 + 1) 31 _ := (ho3 _ (by omega)).trans X2
    have X3 : Box w3 (w.heap.size + 1 + 1 + 1) 135 _ := (ho3 _ (by omega)).trans X3
    have GB : Box w3 g 3 (intCells zs) := hg3
    have B3 : Hid (Below w.heap.size w w3) := B7.out.trans (hb3.mono (by omega))
    clear hrun hg3 ho3 hb3 B7 m0 s0 c0 sN X0 hs3
    have XN : Box w3 N 135 #[.slice (some ⟨g, 0, none⟩) 512 512, .int .i64 p, .int .i64 (nth (List.replicate 8 0) 0), .int .i64 (nth (List.replicate 8 0) 1), .int .i64 (nth (List.replicate 8 0) 2), .int .i64 (nth (List.replicate 8 0) 3), .int .i64 (nth (List.replicate 8 0) 4), .int .i64 (nth (List.replicate 8 0) 5), .int .i64 (nth (List.replicate 8 0) 6), .int .i64 (nth (List.replicate 8 0) 7), .int .i64 mo, .int .i64 ba, .slice ca ck cc, .int .i64 op, .int .i64 oh, .int .i64 ot, .bool st, .int .i64 fe, .int .i64 fp, .int .i64 fh, .int .i64 ft, .bool lo] := XN
    obtain ⟨w4, hrun, XN4, ho4, hs4, hb4⟩ := copy8 w3.drew N rb ro rc _ _ p r _ mo ba op oh ot fe fp fh ft st lo H8.out XN.drew (fun i hi => by
      show w3.cell? _ = _
      rw [B3.out.cell (p := ⟨rb, ro + i, none⟩) hrb]; exact HRC.out i hi)
    refine wp_region_late (by kernel_rfl) 4 (fun w' => Below w3.heap.size w3 w') (Below.drew (Below.refl _ _)) (fun hHeld => ?_)
    refine wpLate_takeL (i := 0) (v := ?_) rfl (by kernel_rfl) (by kernel_rfl) (by kernel_rfl) (by kernel_rfl) (by kernel_rfl) (fun _ _ _ h => h) (Or.inl ⟨by kernel_rfl, ?_⟩) (by assumption) ?_
    rotate_left 1
    focus (intro wz hSz; (try dsimp only at hSz); (obtain ⟨a0, a1, a2, -, -, -, s1⟩ := (X1.keep hSz).three); go_simp; (try with_reducible rfl))
    simp only [Act.put, List.setIfInBounds_toArray, List.set_cons_zero, List.set_cons_succ]
    refine wpLate_takeL (i := 1) (v := ?_) rfl (by kernel_rfl) (by kernel_rfl) (by kernel_rfl) (by kernel_rfl) (by kernel_rfl) (fun _ _ _ h => h) (Or.inl ⟨by kernel_rfl, ?_⟩) (by assumption) ?_
    rotate_left 1
    focus (intro wz hSz; (try dsimp only at hSz); (obtain ⟨a0, a1, a2, -, -, -, s1⟩ := (X1.keep hSz).three); go_simp; (try with_reducible rfl))
    simp only [Act.put, List.setIfInBounds_toArray, List.set_cons_zero, List.set_cons_succ]
    refine wpLate_takeL (i := 2) (v := ?_) rfl (by kernel_rfl) (by kernel_rfl) (by kernel_rfl) (by kernel_rfl) (by kernel_rfl) (fun _ _ _ h => h) (Or.inl ⟨by kernel_rfl, ?_⟩) (by assumption) ?_
    rotate_left 1
    focus (intro wz hSz; (try dsimp only at hSz); (obtain ⟨a0, a1, a2, -, -, -, s1⟩ := (X1.keep hSz).three); go_simp; (try with_reducible rfl))
    simp only [Act.put, List.setIfInBounds_toArray, List.set_cons_zero, List.set_cons_succ]
    refine wpLate_takeL (i := 3) (v := ?_) rfl (by kernel_rfl) (by kernel_rfl) (by kernel_rfl) (by kernel_rfl) (by kernel_rfl) (fun _ _ _ h => h) (Or.inl ⟨by kernel_rfl, ?_⟩) (by assumption) ?_
    rotate_left 1
    focus (intro wz hSz; (try dsimp only at hSz); (obtain ⟨a0, a1, a2, -, -, -, s1⟩ := (X1.keep hSz).three); go_simp; (try with_reducible rfl))
    simp only [Act.put, List.setIfInBounds_toArray, List.set_cons_zero, List.set_cons_succ]
    refine wpLate_oneL (i := 4) (by kernel_rfl) (by rfl) (fun K hK => ?_)
    go_simp
    refine hK.out _ _ (fun h => absurd h (by decide)) ?_
    clear hK K
    refine wpLate_done (by kernel_rfl) ?_ _
    have X2 : Box w4 (w.heap.size + 1 + 1) 31 _ := (ho4 _ (by omega)).trans X2
    have X3 : Box w4 (w.heap.size + 1 + 1 + 1) 135 _ := (ho4 _ (by omega)).trans X3
    have GB : Box w4 g 3 (intCells zs) := (ho4 _ (by omega)).trans GB
    have B4 : Hid (Below w.heap.size w w4) := (Below.drew B3.out).trans (hb4.mono (by omega))
    clear hrun ho4 hb4 hs4 B3 hHeld XN X1
    obtain ⟨cur, hmk, hcur⟩ := makeLines w4 ck (by rw [HCK.out]; exact H6.out)
    obtain ⟨⟨d0, d1, d2, -⟩, s2⟩ := X2.twelve
    have cN : w4.cell? ⟨N, 12, none⟩ = some (.slice ca ck cc) := XN4.cell 12
    have fN := XN4.marksAll
    have sN := XN4.lt
    have GB0 := GB.lt
    go_upto_region 5 with fail
    have YN : Box ((w4.setCell ⟨N, 12, none⟩ (.slice (some ⟨w4.heap.size, 0, none⟩) ck ck)).alloc (.cells cur 52)) N 135 #[.slice (some ⟨g, 0, none⟩) 512 512, .int .i64 p, .int .i64 (nth r 0), .int .i64 (nth r 1), .int .i64 (nth r 2), .int .i64 (nth r 3), .int .i64 (nth r 4), .int .i64 (nth r 5), .int .i64 (nth r 6), .int .i64 (nth r 7), .int .i64 mo, .int .i64 ba, .slice (some ⟨w4.heap.size, 0, none⟩) ck ck, .int .i64 op, .int .i64 oh, .int .i64 ot, .bool st, .int .i64 fe, .int .i64 fp, .int .i64 fh, .int .i64 ft, .bool lo] := Box.past (Box.set XN4 12 (.slice (some ⟨w4.heap.size, 0, none⟩) ck ck)) _
    have Y2 := (X2.other (p := ⟨N, 12, none⟩) (by show w.heap.size + 1 + 1 ≠ N; omega) (.slice (some ⟨w4.heap.size, 0, none⟩) ck ck)).past (.cells cur 52)
    have Y3 := (X3.other (p := ⟨N, 12, none⟩) (by show w.heap.size + 1 + 1 + 1 ≠ N; omega) (.slice (some ⟨w4.heap.size, 0, none⟩) ck ck)).past (.cells cur 52)
    have GB := (GB.other (p := ⟨N, 12, none⟩) (by show g ≠ N; omega) (.slice (some ⟨w4.heap.size, 0, none⟩) ck ck)).past (.cells cur 52)
    have LB : Box ((w4.setCell ⟨N, 12, none⟩ (.slice (some ⟨w4.heap.size, 0, none⟩) ck ck)).alloc (.cells cur 52)) w4.heap.size 52 cur := Box.newAt (by simp [World.setCell]) _ _
    have B5 : Hid (Below w.heap.size w ((w4.setCell ⟨N, 12, none⟩ (.slice (some ⟨w4.heap.size, 0, none⟩) ck ck)).alloc (.cells cur 52))) := bel_alloc (bel_set (by show w.heap.size ≤ N; omega) B4.out _) _
    have hgN : g < w4.heap.size := GB0
    clear cN fN d0 d1 d2 s2 hmk B4 XN4 X2 X3
    generalize ((w4.setCell ⟨N, 12, none⟩ (.slice (some ⟨w4.heap.size, 0, none⟩) ck ck)).alloc (.cells cur 52)) = w5x at *
    generalize w4.heap.size = kk at *
    obtain ⟨w6, hcp, hg6, ho6, hs6, hb6⟩ := copyLines w5x 3 (.slice ca ck cc) kk l cur LB (by rw [hcur, HCK.out]) (HL.out.keep B5.out)
    rw [← HCK.out] at hcp
    obtain ⟨⟨d0, d1, d2, -⟩, s2⟩ := Y2.twelve
    have cN : w5x.cell? ⟨N, 12, none⟩ = some (.slice (some ⟨kk, 0, none⟩) ck ck) := YN.cell 12
    have sM := YN.lt
    go_upto_region 6 with fail
    have YN : Box w6 N 135 _ := (ho6 N (by omega)).trans YN
    have Y3 : Box w6 (w.heap.size + 1 + 1 + 1) 135 _ := (ho6 _ (by omega)).trans Y3
    have GB : Box w6 g 3 (intCells zs) := (ho6 _ (by omega)).trans GB
    have LB : w6.heap[kk]? = some (.cells (l.flatMap cellsL).toArray 52 (0, 0)) := hg6
    have B6 : Hid (Below w.heap.size w w6) := B5.out.trans (hb6.mono (by omega))
    clear hcp ho6 hb6 hs6 B5 d0 d1 d2 s2 cN Y2 hg6
    go_wp2_with (first
      | (refine wpList_load_row rfl 135 (.tmp 7) rfl N rfl _ _ _ _ YN Tryz.underlying135 rfl infoState ?_)
      | (refine wpList_store_row rfl 135 (.tmp 6) (.tmp 36) rfl (w.heap.size + 1 + 1 + 1) _ rfl rfl _ _ Y3 infoState rfl (stateOne _ _ _ _ _ _ _ _ _ _ _ _ _ _ _ _ _ _ _ _ _ _ _ _ _ _) ?_))
    refine bodyPost_ret (v := .agg #[.slice (some ⟨g, 0, none⟩) 512 512, .int .i64 p, .int .i64 (nth r 0), .int .i64 (nth r 1), .int .i64 (nth r 2), .int .i64 (nth r 3), .int .i64 (nth r 4), .int .i64 (nth r 5), .int .i64 (nth r 6), .int .i64 (nth r 7), .int .i64 mo, .int .i64 ba, .slice (some ⟨kk, 0, none⟩) ck ck, .int .i64 op, .int .i64 oh, .int .i64 ot, .bool st, .int .i64 fe, .int .i64 fp, .int .i64 fh, .int .i64 ft, .bool lo]) (results_cell_row Tryz.results83 _ _ (w.heap.size + 1 + 1 + 1) _ _ _ _ rfl (Y3.setRow _) Tryz.underlying135 rfl infoState) rfl ⟨g, kk, rfl, ?_, ?_, by omega, by omega, bel_setRow (by omega) B6.out _⟩
    · exact sl_block (cs := intCells zs) (t := 3) (fr := (0, 0)) (GB.otherRow (by omega) _) (intCells_list _) HZ.out.symm (by rw [HZ.out]; simp [maxLen])
    · rw [HCK.out]
      exact ls_block (Box.otherRow (t := 52) (cs := (l.flatMap cellsL).toArray) LB (by omega) _) H6.out
end Go.Proofs.YtlgjllmecjkbjacGreat
/-
  Package hart: load: a word of memory into a register, or not; nothing that was there turns.
-/
namespace Go.Proofs.YtlgjllmecjkbjacGreat
open Go.RowKit
set_option maxRecDepth 10000 in
set_option maxHeartbeats 4000000 in
theorem load_any (am : Option Addr) (nm cm : Nat) (zs : List Int) (pc : Int) (rs : List Int) (mo ba op oh ot fe fp fh ft : Int) (st lo : Bool) (ca : Option Addr) (ck cc : Nat) (k x y i : Int) (w : World) (hs : Sl w (.slice am nm cm) zs) (hz : chk zs = 0) (h8 : rs.length = 8) (hw : ∀ j, j < 8 → 0 ≤ nth rs j ∧ nth rs j ≤ 65535)
    (hx : 0 ≤ x ∧ x ≤ 7) (hy : 0 ≤ y ∧ y ≤ 7) (hi : 0 ≤ i ∧ i ≤ 63) :
    Calls Tryz.prog 142 #[.agg #[.slice am nm cm, .int .i64 pc, .int .i64 (nth rs 0), .int .i64 (nth rs 1), .int .i64 (nth rs 2), .int .i64 (nth rs 3), .int .i64 (nth rs 4), .int .i64 (nth rs 5), .int .i64 (nth rs 6), .int .i64 (nth rs 7), .int .i64 mo, .int .i64 ba, .slice ca ck cc, .int .i64 op, .int .i64 oh, .int .i64 ot, .bool st, .int .i64 fe, .int .i64 fp, .int .i64 fh, .int .i64 ft, .bool lo], .agg #[.int .i64 k, .int .i64 x, .int .i64 y, .int .i64 i]] w fun e w' =>
      ∃ z, e = .returned (.tuple #[.agg #[.slice am nm cm, .int .i64 pc, .int .i64 (nth (rs.set x.toNat z) 0), .int .i64 (nth (rs.set x.toNat z) 1), .int .i64 (nth (rs.set x.toNat z) 2), .int .i64 (nth (rs.set x.toNat z) 3), .int .i64 (nth (rs.set x.toNat z) 4), .int .i64 (nth (rs.set x.toNat z) 5), .int .i64 (nth (rs.set x.toNat z) 6), .int .i64 (nth (rs.set x.toNat z) 7), .int .i64 mo, .int .i64 ba, .slice ca ck cc, .int .i64 op, .int .i64 oh, .int .i64 ot, .bool st, .int .i64 fe, .int .i64 fp, .int .i64 fh, .int .i64 ft, .bool lo], .bool (decide (nth rs y.toNat + i ≤ 511))]) ∧ (nth rs y.toNat + i ≤ 511 → z = nth zs (nth rs y.toNat + i).toNat) ∧ Below w.heap.size w w' := by
  have HM : Hid (Sl w (.slice am nm cm) zs) := hs
  have H8 : Hid (rs.length = 8) := h8
  obtain ⟨hx0, hx1⟩ := hx
  obtain ⟨hy0, hy1⟩ := hy
  obtain ⟨hi0, hi1⟩ := hi
  have hx9 : x < 8 := by omega
  have hy9 : y < 8 := by omega
  have hx8 : x.toNat < 8 := by omega
  have hy8 : y.toNat < 8 := by omega
  have rx := hw x.toNat hx8
  have ry := hw y.toNat hy8
  have hrd : rdE zs (nth rs y.toNat + i) = if nth rs y.toNat + i ≤ 511 then 0 else 4 := by
    unfold rdE placeB
    rw [if_pos hz]
    by_cases e : nth rs y.toNat + i ≤ 511
    · rw [if_pos (decide_eq_true (by omega)), if_pos e]
    · rw [if_neg (by simp; omega), if_neg e]
  have hrv : nth rs y.toNat + i ≤ 511 → rdV zs (nth rs y.toNat + i) = nth zs (nth rs y.toNat + i).toNat := fun e => by
    unfold rdV placeB
    rw [if_pos ⟨hz, decide_eq_true (by omega)⟩]
  obtain ⟨two, h2⟩ : ∃ two, nth rs y.toNat = two := ⟨_, rfl⟩
  have H2 : Hid (nth rs y.toNat = two) := h2
  rw [h2] at hrd hrv ry ⊢
  obtain ⟨z, hz1⟩ : ∃ z, rdV zs (two + i) = z := ⟨_, rfl⟩
  obtain ⟨ee, he1⟩ : ∃ ee, rdE zs (two + i) = ee := ⟨_, rfl⟩
  rw [he1] at hrd
  rw [hz1] at hrv
  have HZ1 : Hid _ := hz1
  have HE1 : Hid _ := he1
  have HRV : Hid _ := hrv
  have HOK : Hid ((ee == 0) = decide (two + i ≤ 511)) := by
    show _ = _
    rw [hrd]
    by_cases e : two + i ≤ 511
    · rw [if_pos e, decide_eq_true e]; rfl
    · rw [if_neg e, decide_eq_false e]; rfl
  obtain ⟨ok, hok⟩ : ∃ ok, (ee == 0) = ok := ⟨_, rfl⟩
  have hwr : IntKind.i64.wrap (two + i) = two + i := wraps_i64 _ (by omega) (by omega)
  clear hz1 he1 hrv hrd h2 hs h8 hw rx
  go_enter Tryz.func142, Tryz.ntmps142
  go_upto_region 1 with fail
  have X0 := ((Box.newAt (w := w) (n := w.heap.size) rfl 135 #[.slice am nm cm, .int .i64 pc, .int .i64 (nth rs 0), .int .i64 (nth rs 1), .int .i64 (nth rs 2), .int .i64 (nth rs 3), .int .i64 (nth rs 4), .int .i64 (nth rs 5), .int .i64 (nth rs 6), .int .i64 (nth rs 7), .int .i64 mo, .int .i64 ba, .slice ca ck cc, .int .i64 op, .int .i64 oh, .int .i64 ot, .bool st, .int .i64 fe, .int .i64 fp, .int .i64 fh, .int .i64 ft, .bool lo]).past (.cells #[.int .i64 k, .int .i64 x, .int .i64 y, .int .i64 i] 115)).past (.cells #[.slice none 0 0, .int .i64 0, .int .i64 0, .int .i64 0, .int .i64 0, .int .i64 0, .int .i64 0, .int .i64 0, .int .i64 0, .int .i64 0, .int .i64 0, .int .i64 0, .slice none 0 0, .int .i64 0, .int .i64 0, .int .i64 0, .bool false, .int .i64 0, .int .i64 0, .int .i64 0, .int .i64 0, .bool false] 135)
  have X1 := (Box.newAt (w := w.alloc (.cells #[.slice am nm cm, .int .i64 pc, .int .i64 (nth rs 0), .int .i64 (nth rs 1), .int .i64 (nth rs 2), .int .i64 (nth rs 3), .int .i64 (nth rs 4), .int .i64 (nth rs 5), .int .i64 (nth rs 6), .int .i64 (nth rs 7), .int .i64 mo, .int .i64 ba, .slice ca ck cc, .int .i64 op, .int .i64 oh, .int .i64 ot, .bool st, .int .i64 fe, .int .i64 fp, .int .i64 fh, .int .i64 ft, .bool lo] 135)) (n := w.heap.size + 1) (by simp) 115 #[.int .i64 k, .int .i64 x, .int .i64 y, .int .i64 i]).past (.cells #[.slice none 0 0, .int .i64 0, .int .i64 0, .int .i64 0, .int .i64 0, .int .i64 0, .int .i64 0, .int .i64 0, .int .i64 0, .int .i64 0, .int .i64 0, .int .i64 0, .slice none 0 0, .int .i64 0, .int .i64 0, .int .i64 0, .bool false, .int .i64 0, .int .i64 0, .int .i64 0, .int .i64 0, .bool false] 135)
  have X2 := Box.newAt (w := (w.alloc (.cells #[.slice am nm cm, .int .i64 pc, .int .i64 (nth rs 0), .int .i64 (nth rs 1), .int .i64 (nth rs 2), .int .i64 (nth rs 3), .int .i64 (nth rs 4), .int .i64 (nth rs 5), .int .i64 (nth rs 6), .int .i64 (nth rs 7), .int .i64 mo, .int .i64 ba, .slice ca ck cc, .int .i64 op, .int .i64 oh, .int .i64 ot, .bool st, .int .i64 fe, .int .i64 fp, .int .i64 fh, .int .i64 ft, .bool lo] 135)).alloc (.cells #[.int .i64 k, .int .i64 x, .int .i64 y, .int .i64 i] 115)) (n := w.heap.size + 1 + 1) (by simp) 135 #[.slice none 0 0, .int .i64 0, .int .i64 0, .int .i64 0, .int .i64 0, .int .i64 0, .int .i64 0, .int .i64 0, .int .i64 0, .int .i64 0, .int .i64 0, .int .i64 0, .slice none 0 0, .int .i64 0, .int .i64 0, .int .i64 0, .bool false, .int .i64 0, .int .i64 0, .int .i64 0, .int .i64 0, .bool false]
  have B0 : Hid (Below w.heap.size w _) := bel_alloc (bel_alloc (bel_alloc (Below.refl w.heap.size w) (.cells #[.slice am nm cm, .int .i64 pc, .int .i64 (nth rs 0), .int .i64 (nth rs 1), .int .i64 (nth rs 2), .int .i64 (nth rs 3), .int .i64 (nth rs 4), .int .i64 (nth rs 5), .int .i64 (nth rs 6), .int .i64 (nth rs 7), .int .i64 mo, .int .i64 ba, .slice ca ck cc, .int .i64 op, .int .i64 oh, .int .i64 ot, .bool st, .int .i64 fe, .int .i64 fp, .int .i64 fh, .int .i64 ft, .bool lo] 135)) (.cells #[.int .i64 k, .int .i64 x, .int .i64 y, .int .i64 i] 115)) (.cells #[.slice none 0 0, .int .i64 0, .int .i64 0, .int .i64 0, .int .i64 0, .int .i64 0, .int .i64 0, .int .i64 0, .int .i64 0, .int .i64 0, .int .i64 0, .int .i64 0, .slice none 0 0, .int .i64 0, .int .i64 0, .int .i64 0, .bool false, .int .i64 0, .int .i64 0, .int .i64 0, .int .i64 0, .bool false] 135)
  generalize (((w.alloc (.cells #[.slice am nm cm, .int .i64 pc, .int .i64 (nth rs 0), .int .i64 (nth rs 1), .int .i64 (nth rs 2), .int .i64 (nth rs 3), .int .i64 (nth rs 4), .int .i64 (nth rs 5), .int .i64 (nth rs 6), .int .i64 (nth rs 7), .int .i64 mo, .int .i64 ba, .slice ca ck cc, .int .i64 op, .int .i64 oh, .int .i64 ot, .bool st, .int .i64 fe, .int .i64 fp, .int .i64 fh, .int .i64 ft, .bool lo] 135)).alloc (.cells #[.int .i64 k, .int .i64 x, .int .i64 y, .int .i64 i] 115)).alloc (.cells #[.slice none 0 0, .int .i64 0, .int .i64 0, .int .i64 0, .int .i64 0, .int .i64 0, .int .i64 0, .int .i64 0, .int .i64 0, .int .i64 0, .int .i64 0, .int .i64 0, .slice none 0 0, .int .i64 0, .int .i64 0, .int .i64 0, .bool false, .int .i64 0, .int .i64 0, .int .i64 0, .int .i64 0, .bool false] 135)) = W at *
  refine wp_region_held_drew (S := fun w' => Below W.heap.size W w') (by kernel_rfl) (Below.drew (Below.refl _ _)) (fun hHeld => ?_)
  refine wpHeld_takeL (i := 0) (v := ?_) rfl (by kernel_rfl) (by kernel_rfl) (by kernel_rfl) (fun _ _ _ h => h) (Or.inl ⟨by kernel_rfl, ?_⟩) (by assumption) ?_
  rotate_left 1
  focus (intro wz hSz; (try dsimp only at hSz); (obtain ⟨⟨q0, q1, q2, q3, q4, q5, q6, q7, q8, q9⟩, ⟨g0, g1, g2, g3, g4, g5, g6, g7, g8, g9, g10, g11⟩, s0⟩ := (X0.keep hSz).state); (obtain ⟨i0, i1, i2, i3, -, -, -, -, s1⟩ := (X1.keep hSz).four); (have gx := (X0.keep hSz).reg hx8); (have gy := (X0.keep hSz).reg hy8); (rw [H2.out] at gy); go_simp; (try with_reducible rfl))
  simp only [Act.put, List.setIfInBounds_toArray, List.set_cons_zero, List.set_cons_succ]
  refine wpHeld_takeL (i := 1) (v := ?_) rfl (by kernel_rfl) (by kernel_rfl) (by kernel_rfl) (fun _ _ _ h => h) (Or.inl ⟨by kernel_rfl, ?_⟩) (by assumption) ?_
  rotate_left 1
  focus (intro wz hSz; (try dsimp only at hSz); (obtain ⟨⟨q0, q1, q2, q3, q4, q5, q6, q7, q8, q9⟩, ⟨g0, g1, g2, g3, g4, g5, g6, g7, g8, g9, g10, g11⟩, s0⟩ := (X0.keep hSz).state); (obtain ⟨i0, i1, i2, i3, -, -, -, -, s1⟩ := (X1.keep hSz).four); (have gx := (X0.keep hSz).reg hx8); (have gy := (X0.keep hSz).reg hy8); (rw [H2.out] at gy); go_simp; (try with_reducible rfl))
  simp only [Act.put, List.setIfInBounds_toArray, List.set_cons_zero, List.set_cons_succ]
  refine wpHeld_takeL (i := 2) (v := ?_) rfl (by kernel_rfl) (by kernel_rfl) (by kernel_rfl) (fun _ _ _ h => h) (Or.inl ⟨by kernel_rfl, ?_⟩) (by assumption) ?_
  rotate_left 1
  focus (intro wz hSz; (try dsimp only at hSz); (obtain ⟨⟨q0, q1, q2, q3, q4, q5, q6, q7, q8, q9⟩, ⟨g0, g1, g2, g3, g4, g5, g6, g7, g8, g9, g10, g11⟩, s0⟩ := (X0.keep hSz).state); (obtain ⟨i0, i1, i2, i3, -, -, -, -, s1⟩ := (X1.keep hSz).four); (have gx := (X0.keep hSz).reg hx8); (have gy := (X0.keep hSz).reg hy8); (rw [H2.out] at gy); go_simp; (try with_reducible rfl))
  simp only [Act.put, List.setIfInBounds_toArray, List.set_cons_zero, List.set_cons_succ]
  refine wpHeld_takeL (i := 3) (v := ?_) rfl (by kernel_rfl) (by kernel_rfl) (by kernel_rfl) (fun _ _ _ h => h) (Or.inl ⟨by kernel_rfl, ?_⟩) (by assumption) ?_
  rotate_left 1
  focus (intro wz hSz; (try dsimp only at hSz); (obtain ⟨⟨q0, q1, q2, q3, q4, q5, q6, q7, q8, q9⟩, ⟨g0, g1, g2, g3, g4, g5, g6, g7, g8, g9, g10, g11⟩, s0⟩ := (X0.keep hSz).state); (obtain ⟨i0, i1, i2, i3, -, -, -, -, s1⟩ := (X1.keep hSz).four); (have gx := (X0.keep hSz).reg hx8); (have gy := (X0.keep hSz).reg hy8); (rw [H2.out] at gy); go_simp; (try with_reducible rfl))
  simp only [Act.put, List.setIfInBounds_toArray, List.set_cons_zero, List.set_cons_succ]
  refine wpHeld_takeL (i := 4) (v := ?_) rfl (by kernel_rfl) (by kernel_rfl) (by kernel_rfl) (fun _ _ _ h => h) (Or.inl ⟨by kernel_rfl, ?_⟩) (by assumption) ?_
  rotate_left 1
  focus (intro wz hSz; (try dsimp only at hSz); (obtain ⟨⟨q0, q1, q2, q3, q4, q5, q6, q7, q8, q9⟩, ⟨g0, g1, g2, g3, g4, g5, g6, g7, g8, g9, g10, g11⟩, s0⟩ := (X0.keep hSz).state); (obtain ⟨i0, i1, i2, i3, -, -, -, -, s1⟩ := (X1.keep hSz).four); (have gx := (X0.keep hSz).reg hx8); (have gy := (X0.keep hSz).reg hy8); (rw [H2.out] at gy); go_simp; (try with_reducible rfl))
  simp only [Act.put, List.setIfInBounds_toArray, List.set_cons_zero, List.set_cons_succ]
  refine wpHeld_takeL (i := 5) (v := ?_) rfl (by kernel_rfl) (by kernel_rfl) (by kernel_rfl) (fun _ _ _ h => h) (Or.inl ⟨by kernel_rfl, ?_⟩) (by assumption) ?_
  rotate_left 1
  focus (intro wz hSz; (try dsimp only at hSz); (obtain ⟨⟨q0, q1, q2, q3, q4, q5, q6, q7, q8, q9⟩, ⟨g0, g1, g2, g3, g4, g5, g6, g7, g8, g9, g10, g11⟩, s0⟩ := (X0.keep hSz).state); (obtain ⟨i0, i1, i2, i3, -, -, -, -, s1⟩ := (X1.keep hSz).four); (have gx := (X0.keep hSz).reg hx8); (have gy := (X0.keep hSz).reg hy8); (rw [H2.out] at gy); go_simp; (try with_reducible rfl))
  simp only [Act.put, List.setIfInBounds_toArray, List.set_cons_zero, List.set_cons_succ]
  refine wpHeld_takeL (i := 6) (v := ?_) rfl (by kernel_rfl) (by kernel_rfl) (by kernel_rfl) (fun _ _ _ h => h) (Or.inl ⟨by kernel_rfl, ?_⟩) (by assumption) ?_
  rotate_left 1
  focus (intro wz hSz; (try dsimp only at hSz); (obtain ⟨⟨q0, q1, q2, q3, q4, q5, q6, q7, q8, q9⟩, ⟨g0, g1, g2, g3, g4, g5, g6, g7, g8, g9, g10, g11⟩, s0⟩ := (X0.keep hSz).state); (obtain ⟨i0, i1, i2, i3, -, -, -, -, s1⟩ := (X1.keep hSz).four); (have gx := (X0.keep hSz).reg hx8); (have gy := (X0.keep hSz).reg hy8); (rw [H2.out] at gy); go_simp; (try with_reducible rfl))
  simp only [Act.put, List.setIfInBounds_toArray, List.set_cons_zero, List.set_cons_succ]
  refine wpHeld_takeL (i := 7) (v := ?_) rfl (by kernel_rfl) (by kernel_rfl) (by kernel_rfl) (fun _ _ _ h => h) (Or.inl ⟨by kernel_rfl, ?_⟩) (by assumption) ?_
  rotate_left 1
  focus (intro wz hSz; (try dsimp only at hSz); (obtain ⟨⟨q0, q1, q2, q3, q4, q5, q6, q7, q8, q9⟩, ⟨g0, g1, g2, g3, g4, g5, g6, g7, g8, g9, g10, g11⟩, s0⟩ := (X0.keep hSz).state); (obtain ⟨i0, i1, i2, i3, -, -, -, -, s1⟩ := (X1.keep hSz).four); (have gx := (X0.keep hSz).reg hx8); (have gy := (X0.keep hSz).reg hy8); (rw [H2.out] at gy); go_simp; (try with_reducible rfl))
  simp only [Act.put, List.setIfInBounds_toArray, List.set_cons_zero, List.set_cons_succ]
  refine wpHeld_takeL (i := 8) (v := ?_) rfl (by kernel_rfl) (by kernel_rfl) (by kernel_rfl) (fun _ _ _ h => h) (Or.inl ⟨by kernel_rfl, ?_⟩) (by assumption) ?_
  rotate_left 1
  focus (intro wz hSz; (try dsimp only at hSz); (obtain ⟨⟨q0, q1, q2, q3, q4, q5, q6, q7, q8, q9⟩, ⟨g0, g1, g2, g3, g4, g5, g6, g7, g8, g9, g10, g11⟩, s0⟩ := (X0.keep hSz).state); (obtain ⟨i0, i1, i2, i3, -, -, -, -, s1⟩ := (X1.keep hSz).four); (have gx := (X0.keep hSz).reg hx8); (have gy := (X0.keep hSz).reg hy8); (rw [H2.out] at gy); go_simp; (try with_reducible rfl))
  simp only [Act.put, List.setIfInBounds_toArray, List.set_cons_zero, List.set_cons_succ]
  refine wpHeld_takeL (i := 9) (v := ?_) rfl (by kernel_rfl) (by kernel_rfl) (by kernel_rfl) (fun _ _ _ h => h) (Or.inl ⟨by kernel_rfl, ?_⟩) (by assumption) ?_
  rotate_left 1
  focus (intro wz hSz; (try dsimp only at hSz); (obtain ⟨⟨q0, q1, q2, q3, q4, q5, q6, q7, q8, q9⟩, ⟨g0, g1, g2, g3, g4, g5, g6, g7, g8, g9, g10, g11⟩, s0⟩ := (X0.keep hSz).state); (obtain ⟨i0, i1, i2, i3, -, -, -, -, s1⟩ := (X1.keep hSz).four); (have gx := (X0.keep hSz).reg hx8); (have gy := (X0.keep hSz).reg hy8); (rw [H2.out] at gy); go_simp; (try with_reducible rfl))
  simp only [Act.put, List.setIfInBounds_toArray, List.set_cons_zero, List.set_cons_succ]
  refine wpHeld_oneL (i := 10) (by kernel_rfl) (by rfl) (fun K hK => ?_)
  go_simp
  refine (read_any _ zs (two + i) _ (HM.out.keep (bel_trans B0.out hHeld))).mono ?_
  rintro e w5 ⟨rfl, b5⟩
  rw [HZ1.out, HE1.out]
  go_wp2_with fail
  refine hK.out _ _ ?_ (fun hHeld2 => ?_)
  · exact bel_trans hHeld b5
  clear hK K hHeld
  have hHeld := hHeld2
  clear hHeld2
  refine wpHeld_takeL (i := 11) (v := ?_) rfl (by kernel_rfl) (by kernel_rfl) (by kernel_rfl) (fun _ _ _ h => h) (Or.inl ⟨by kernel_rfl, ?_⟩) (by assumption) ?_
  rotate_left 1
  focus (intro wz hSz; (try dsimp only at hSz); (obtain ⟨⟨q0, q1, q2, q3, q4, q5, q6, q7, q8, q9⟩, ⟨g0, g1, g2, g3, g4, g5, g6, g7, g8, g9, g10, g11⟩, s0⟩ := (X0.keep hSz).state); (obtain ⟨i0, i1, i2, i3, -, -, -, -, s1⟩ := (X1.keep hSz).four); (have gx := (X0.keep hSz).reg hx8); (have gy := (X0.keep hSz).reg hy8); (rw [H2.out] at gy); go_simp; (try with_reducible rfl))
  simp only [Act.put, List.setIfInBounds_toArray, List.set_cons_zero, List.set_cons_succ]
  refine wpHeld_takeL (i := 12) (v := ?_) rfl (by kernel_rfl) (by kernel_rfl) (by kernel_rfl) (fun _ _ _ h => h) (Or.inl ⟨by kernel_rfl, ?_⟩) (by assumption) ?_
  rotate_left 1
  focus (intro wz hSz; (try dsimp only at hSz); (obtain ⟨⟨q0, q1, q2, q3, q4, q5, q6, q7, q8, q9⟩, ⟨g0, g1, g2, g3, g4, g5, g6, g7, g8, g9, g10, g11⟩, s0⟩ := (X0.keep hSz).state); (obtain ⟨i0, i1, i2, i3, -, -, -, -, s1⟩ := (X1.keep hSz).four); (have gx := (X0.keep hSz).reg hx8); (have gy := (X0.keep hSz).reg hy8); (rw [H2.out] at gy); go_simp; (try with_reducible rfl))
  simp only [Act.put, List.setIfInBounds_toArray, List.set_cons_zero, List.set_cons_succ]
  refine wpHeld_takeL (i := 13) (v := ?_) rfl (by kernel_rfl) (by kernel_rfl) (by kernel_rfl) (fun _ _ _ h => h) (Or.inl ⟨by kernel_rfl, ?_⟩) (by assumption) ?_
  rotate_left 1
  focus (intro wz hSz; (try dsimp only at hSz); (obtain ⟨⟨q0, q1, q2, q3, q4, q5, q6, q7, q8, q9⟩, ⟨g0, g1, g2, g3, g4, g5, g6, g7, g8, g9, g10, g11⟩, s0⟩ := (X0.keep hSz).state); (obtain ⟨i0, i1, i2, i3, -, -, -, -, s1⟩ := (X1.keep hSz).four); (have gx := (X0.keep hSz).reg hx8); (have gy := (X0.keep hSz).reg hy8); (rw [H2.out] at gy); go_simp; (try with_reducible rfl))
  simp only [Act.put, List.setIfInBounds_toArray, List.set_cons_zero, List.set_cons_succ]
  refine wpHeld_takeL (i := 14) (v := ?_) rfl (by kernel_rfl) (by kernel_rfl) (by kernel_rfl) (fun _ _ _ h => h) (Or.inl ⟨by kernel_rfl, ?_⟩) (by assumption) ?_
  rotate_left 1
  focus (intro wz hSz; (try dsimp only at hSz); (obtain ⟨⟨q0, q1, q2, q3, q4, q5, q6, q7, q8, q9⟩, ⟨g0, g1, g2, g3, g4, g5, g6, g7, g8, g9, g10, g11⟩, s0⟩ := (X0.keep hSz).state); (obtain ⟨i0, i1, i2, i3, -, -, -, -, s1⟩ := (X1.keep hSz).four); (have gx := (X0.keep hSz).reg hx8); (have gy := (X0.keep hSz).reg hy8); (rw [H2.out] at gy); go_simp; (try with_reducible rfl))
  simp only [Act.put, List.setIfInBounds_toArray, List.set_cons_zero, List.set_cons_succ]
  refine wpHeld_takeL (i := 15) (v := ?_) rfl (by kernel_rfl) (by kernel_rfl) (by kernel_rfl) (fun _ _ _ h => h) (Or.inl ⟨by kernel_rfl, ?_⟩) (by assumption) ?_
  rotate_left 1
  focus (intro wz hSz; (try dsimp only at hSz); (obtain ⟨⟨q0, q1, q2, q3, q4, q5, q6, q7, q8, q9⟩, ⟨g0, g1, g2, g3, g4, g5, g6, g7, g8, g9, g10, g11⟩, s0⟩ := (X0.keep hSz).state); (obtain ⟨i0, i1, i2, i3, -, -, -, -, s1⟩ := (X1.keep hSz).four); (have gx := (X0.keep hSz).reg hx8); (have gy := (X0.keep hSz).reg hy8); (rw [H2.out] at gy); go_simp; (try with_reducible rfl))
  simp only [Act.put, List.setIfInBounds_toArray, List.set_cons_zero, List.set_cons_succ]
  refine wpAnyH_done (by kernel_rfl) ?_ _
  have X0 := X0.keep hHeld
  have X1 := X1.keep hHeld
  have X2 := X2.keep hHeld
  have B5 : Hid (Below w.heap.size w w5) := bel_trans B0.out hHeld
  clear hHeld b5 B0
  have Y0 := X0.setReg hx8 H8.out z
  have Y2 := X2.other (p := ⟨w.heap.size, 2 + x.toNat, none⟩) (by show w.heap.size + 1 + 1 ≠ w.heap.size; omega) (.int .i64 z)
  have B6 : Hid (Below w.heap.size w (w5.setCell ⟨w.heap.size, 2 + x.toNat, none⟩ (.int .i64 z))) := bel_set (by show w.heap.size ≤ w.heap.size; omega) B5.out _
  obtain ⟨i0, i1, i2, i3, -, -, -, -, s1⟩ := X1.four
  have gx := X0.reg hx8
  have fx := X0.marksAll
  have s0 := X0.lt
  go_upto_region 3 with fail
  clear gx fx s0 X0 X2
  generalize (w5.setCell ⟨w.heap.size, 2 + x.toNat, none⟩ (.int .i64 z)) = W6 at *
  go_wp2_with (first
    | (refine wpList_load_row rfl 135 (.tmp 2) rfl w.heap.size rfl _ _ _ _ Y0 Tryz.underlying135 rfl infoState ?_)
    | (refine wpList_store_row rfl 135 (.tmp 4) (.tmp 27) rfl (w.heap.size + 1 + 1) _ rfl rfl _ _ Y2 infoState rfl (stateOne _ _ _ _ _ _ _ _ _ _ _ _ _ _ _ _ _ _ _ _ _ _ _ _ _ _) ?_))
  have hl := Box.loadState (Y2.setRow #[.slice am nm cm, .int .i64 pc, .int .i64 (nth (rs.set x.toNat z) 0), .int .i64 (nth (rs.set x.toNat z) 1), .int .i64 (nth (rs.set x.toNat z) 2), .int .i64 (nth (rs.set x.toNat z) 3), .int .i64 (nth (rs.set x.toNat z) 4), .int .i64 (nth (rs.set x.toNat z) 5), .int .i64 (nth (rs.set x.toNat z) 6), .int .i64 (nth (rs.set x.toNat z) 7), .int .i64 mo, .int .i64 ba, .slice ca ck cc, .int .i64 op, .int .i64 oh, .int .i64 ot, .bool st, .int .i64 fe, .int .i64 fp, .int .i64 fh, .int .i64 ft, .bool lo]) rfl
  refine bodyPost_ret (v := .tuple #[.agg #[.slice am nm cm, .int .i64 pc, .int .i64 (nth (rs.set x.toNat z) 0), .int .i64 (nth (rs.set x.toNat z) 1), .int .i64 (nth (rs.set x.toNat z) 2), .int .i64 (nth (rs.set x.toNat z) 3), .int .i64 (nth (rs.set x.toNat z) 4), .int .i64 (nth (rs.set x.toNat z) 5), .int .i64 (nth (rs.set x.toNat z) 6), .int .i64 (nth (rs.set x.toNat z) 7), .int .i64 mo, .int .i64 ba, .slice ca ck cc, .int .i64 op, .int .i64 oh, .int .i64 ot, .bool st, .int .i64 fe, .int .i64 fp, .int .i64 fh, .int .i64 ft, .bool lo], .bool ok]) (by simp [results, Tryz.results142, asAddr, hl]) rfl ⟨z, by rw [← HOK.out, hok], HRV.out, ?_⟩
  exact bel_setRow (by omega) B6.out _
end Go.Proofs.YtlgjllmecjkbjacGreat
