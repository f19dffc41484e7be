/-
  Package bridge: copyOf, copyOfMem: what they answer lies in memory of its own; nothing that was there turns.
-/
import Derived.Test.YtemnklppplgcoabBridge1
import Derived.Test.YtemnklppplgcoabWrite
namespace Go.Proofs.Ytemnklppplgcoab
open Go.RowKit

/-- make of some lines. -/
theorem makeLines (w : World) (n : Nat) (hn : n ≤ 6) : ∃ cur : Array Value, (Instr.makeSlice 40 (.int .i64 n) (.int .i64 n)).run Try.prog w = .ok (.slice (some ⟨w.heap.size, 0, none⟩) n n) (w.alloc (.cells cur 68)) ∧ cur.size = n * 5 := by
  obtain ⟨i, hi, hz, hs, hb⟩ := infoLine
  have h := run_make (P := Try.prog) w 40 68 i _ Try.underlying40 hi hz .i64 .i64 n n (by omega) (by omega) (by rw [hb]; omega) (by omega)
  rw [hs] at h
  simp only [Int.toNat_natCast] at h
  exact ⟨_, h, size_madeCells _ _⟩

/-- copy of lines fills a row of its own. -/
theorem copyLines (w : World) (ty : TypeId) (v : Value) (g : Nat) (l : List Ln) (cur : Array Value) (hg : w.heap[g]? = some (.cells cur 68 (0, 0))) (hcur : cur.size = l.length * 5) (hl : Ls w v l) :
    ∃ w3, (Builtin.copy_ #[40, 40] ty #[.slice (some ⟨g, 0, none⟩) l.length l.length, v]).run Try.prog w = .ok (.int .i64 l.length) w3 ∧ w3.heap[g]? = some (.cells (l.flatMap cellsL).toArray 68 (0, 0)) ∧
      (∀ k, k ≠ g → w3.heap[k]? = w.heap[k]?) ∧ w3.heap.size = w.heap.size ∧ Below g w w3 := by
  obtain ⟨i, hi, hz, hs, hb⟩ := infoLine
  obtain ⟨a, cap, rfl, hlc, hm, h⟩ := hl
  have hl5 := flat_len l
  have hst := run_storeCells_at Try.prog g 0 68 (l.flatMap cellsL) 0 cur w hg (by rw [hl5, hcur]; omega) (flat_one l)
  have hd : List.drop (0 + 0 + (l.flatMap cellsL).length) cur.toList = [] := List.drop_of_length_le (by simp only [Array.length_toList, hcur, hl5]; omega)
  rw [hd, Nat.add_zero, List.take_zero, List.nil_append, List.append_nil] at hst
  refine ⟨_, ?_, setRow_heap w g cur _ _ _ hg, fun k hk => setRow_other w g k _ hk, by simp [World.setRow], ⟨rfl, rfl, rfl, by simp [World.setRow], fun k hk => setRow_other w g k _ (by omega)⟩⟩
  rcases h with rfl | ⟨b, o, rfl, hlt, hc⟩
  · have hst' : (storeCells ⟨g, 0, none⟩ [] 0).run Try.prog w = .ok () (w.setRow g ([] : List Value).toArray) := hst
    cases a <;>
      simp [Builtin.copy_, run_underlying Try.underlying40, Builtin.lenOf, Builtin.firstCells, sizeOf, typeInfo, hi, loadCells, loadCellsFrom, hst', goInt]
  · have hld := run_loadCells_list (P := Try.prog) w ⟨b, o, none⟩ (l.flatMap cellsL) (fun j u hu => by
      obtain ⟨i', r, h1, h2, rfl, h4⟩ := flat_of hu
      rw [add_off, ← Nat.add_assoc]
      exact atL_cell (hc i' h1) h2 h4)
    rw [hl5] at hld
    simp [Builtin.copy_, run_underlying Try.underlying40, Builtin.lenOf, Builtin.firstCells, sizeOf, typeInfo, hi, hs, hld, hst, goInt]

/-- A block of lines. -/
theorem ls_block {w : World} {g : Nat} {l : List Ln} (hg : w.heap[g]? = some (.cells (l.flatMap cellsL).toArray 68 (0, 0))) (hn : l.length ≤ 6) : Ls w (.slice (some ⟨g, 0, none⟩) l.length l.length) l := by
  refine ⟨_, l.length, rfl, Nat.le_refl _, by unfold maxLen; omega, .inr ⟨g, 0, rfl, (Box.lt hg), fun i hi => ?_⟩⟩
  have hc : ∀ r, r < 5 → w.cell? ⟨g, 0 + i * 5 + r, none⟩ = (cellsL (lth l i))[r]? := fun r hr => by
    rw [Nat.zero_add, cell_of_row w g _ _ _ _ hg, List.getElem?_toArray, flat_at l i r hi hr]
  exact ⟨hc 0 (by omega), hc 1 (by omega), hc 2 (by omega), hc 3 (by omega), hc 4 (by omega)⟩

set_option maxHeartbeats 2000000 in
theorem copyOf_any (mo ba op oh ot fe fp fh ft : Int) (st lo : Bool) (vc : Value) (l : List Ln) (w : World) (h : Ls w vc l) (hn : l.length ≤ 6) :
    Calls Try.prog 51 #[.agg #[.int .i64 mo, .int .i64 ba, vc, .int .i64 op, .int .i64 oh, .int .i64 ot, .bool st, .int .i64 fe, .int .i64 fp, .int .i64 fh, .int .i64 ft, .bool lo]] w fun e w' => ∃ g, e = .returned (.agg #[.int .i64 mo, .int .i64 ba, .slice (some ⟨g, 0, none⟩) l.length l.length, .int .i64 op, .int .i64 oh, .int .i64 ot, .bool st, .int .i64 fe, .int .i64 fp, .int .i64 fh, .int .i64 ft, .bool lo]) ∧ Ls w' (.slice (some ⟨g, 0, none⟩) l.length l.length) l ∧ Below w.heap.size w w' := by
  have HS : Hid (Ls w vc l) := h
  obtain ⟨va, vk, rfl, -⟩ := h.shape
  clear h
  have HN : Hid (l.length ≤ 6) := hn
  obtain ⟨N, hN⟩ : ∃ N, N = l.length := ⟨_, rfl⟩
  have HE : Hid (N = l.length) := hN
  rw [← hN]
  have hN6 : N ≤ 6 := by omega
  have HV : Hid (Ls w (.slice va N vk) l) := by show Ls _ _ _; rw [hN]; exact HS.out
  clear hN hn
  have hW : Below w.heap.size w ((w.alloc (.cells #[.int .i64 mo, .int .i64 ba, .slice va N vk, .int .i64 op, .int .i64 oh, .int .i64 ot, .bool st, .int .i64 fe, .int .i64 fp, .int .i64 fh, .int .i64 ft, .bool lo] 44)).alloc (.cells #[.int .i64 0, .int .i64 0, .slice none 0 0, .int .i64 0, .int .i64 0, .int .i64 0, .bool false, .int .i64 0, .int .i64 0, .int .i64 0, .int .i64 0, .bool false] 44)) := bel_alloc (bel_alloc (Below.refl _ _) _) _
  obtain ⟨cur, hmk, hcs⟩ := makeLines ((w.alloc (.cells #[.int .i64 mo, .int .i64 ba, .slice va N vk, .int .i64 op, .int .i64 oh, .int .i64 ot, .bool st, .int .i64 fe, .int .i64 fp, .int .i64 fh, .int .i64 ft, .bool lo] 44)).alloc (.cells #[.int .i64 0, .int .i64 0, .slice none 0 0, .int .i64 0, .int .i64 0, .int .i64 0, .bool false, .int .i64 0, .int .i64 0, .int .i64 0, .int .i64 0, .bool false] 44)) N hN6
  have hg0 : (((w.alloc (.cells #[.int .i64 mo, .int .i64 ba, .slice va N vk, .int .i64 op, .int .i64 oh, .int .i64 ot, .bool st, .int .i64 fe, .int .i64 fp, .int .i64 fh, .int .i64 ft, .bool lo] 44)).alloc (.cells #[.int .i64 0, .int .i64 0, .slice none 0 0, .int .i64 0, .int .i64 0, .int .i64 0, .bool false, .int .i64 0, .int .i64 0, .int .i64 0, .int .i64 0, .bool false] 44)).alloc (.cells cur 68)).heap[w.heap.size + 1 + 1]? = some (.cells cur 68 (0, 0)) := heap_at (by simp)
  obtain ⟨w3, hcp, hg3, ho3, hs3, hb3⟩ := copyLines _ 3 (.slice va N vk) (w.heap.size + 1 + 1) l cur hg0 (by rw [hcs, HE.out]) (HV.out.keep (bel_alloc hW _))
  rw [← HE.out] at hcp
  have X0 : Box w3 w.heap.size 44 #[.int .i64 mo, .int .i64 ba, .slice va N vk, .int .i64 op, .int .i64 oh, .int .i64 ot, .bool st, .int .i64 fe, .int .i64 fp, .int .i64 fh, .int .i64 ft, .bool lo] := by
    unfold Box; rw [ho3 _ (by omega)]
    exact ((Box.newAt (n := w.heap.size) rfl 44 _).past _).past _
  have X1 : Box w3 (w.heap.size + 1) 44 #[.int .i64 0, .int .i64 0, .slice none 0 0, .int .i64 0, .int .i64 0, .int .i64 0, .bool false, .int .i64 0, .int .i64 0, .int .i64 0, .int .i64 0, .bool false] := by
    unfold Box; rw [ho3 _ (by omega)]
    exact (Box.newAt (n := w.heap.size + 1) (by simp) 44 _).past _
  have B3 : Hid (Below w.heap.size w w3) := (bel_alloc hW _).trans (hb3.mono (by omega))
  obtain ⟨⟨q0, q1, q2, q3, q4, q5, q6, q7, q8, q9, q10, q11⟩, s0⟩ := X0.twelve
  obtain ⟨-, -, z2, -⟩ := X0.marks
  obtain ⟨⟨u0, u1, u2, u3, u4, u5, u6, u7, u8, u9, u10, u11⟩, s1⟩ := X1.twelve
  obtain ⟨y0, y1, y2, y3, y4, y5, y6, y7, y8, y9, y10, y11⟩ := X1.marks
  have HG : Hid _ := hg3
  clear hg3 ho3 hs3 hb3 hg0 hW hcs
  have n1 : ¬ w.heap.size + 1 + 1 = w.heap.size := by omega
  have n2 : ¬ w.heap.size + 1 + 1 = w.heap.size + 1 := by omega
  go_enter Try.func51, Try.ntmps51
  go_wp2
  refine bodyPost_ret (v := .agg #[.int .i64 mo, .int .i64 ba, .slice (some ⟨w.heap.size + 1 + 1, 0, none⟩) N N, .int .i64 op, .int .i64 oh, .int .i64 ot, .bool st, .int .i64 fe, .int .i64 fp, .int .i64 fh, .int .i64 ft, .bool lo]) (by simp [results, Try.results51, go_sem, *]) rfl ⟨_, rfl, ?_, ?_⟩
  · rw [HE.out]
    refine ls_block ?_ HN.out
    exact (Box.other (p := ⟨w.heap.size, 2, none⟩) HG.out (by dsimp only; omega) _).other12 (by omega) _ _ _ _ _ _ _ _ _ _ _ _
  · exact bel_set12 (by omega) (bel_set (by dsimp only; omega) B3.out _) _ _ _ _ _ _ _ _ _ _ _ _

set_option maxHeartbeats 2000000 in
theorem copyOfMem_any (v : Value) (zs : List Int) (w : World) (h : Sl w v zs) (hn : zs.length = 512) :
    Calls Try.prog 62 #[.agg #[v]] w fun e w' => ∃ g, e = .returned (.agg #[.slice (some ⟨g, 0, none⟩) 512 512]) ∧ Sl w' (.slice (some ⟨g, 0, none⟩) 512 512) zs ∧ w.heap.size ≤ g ∧ Below w.heap.size w w' := by
  obtain ⟨b, o, cap, rfl, hb, hc⟩ := h.open512 hn
  have HC : Hid (∀ i, i < 512 → w.cell? ⟨b, o + i, none⟩ = some (.int .i64 (nth zs i))) := hc
  have HN : Hid (zs.length = 512) := hn
  clear hc hn h
  go_enter Try.func62, Try.ntmps62
  go_wp2_with fail
  refine (new_own _).mono ?_
  rintro e w2 ⟨g, rfl, hg2, hge, hb2⟩
  have X0 := ((Box.newAt (n := w.heap.size) rfl 39 #[.slice (some ⟨b, o, none⟩) 512 cap]).past _).keep hb2
  have X1 := (Box.newAt (n := w.heap.size + 1) (by simp) 39 #[.slice none 0 0]).keep hb2
  have HB2 : Hid (Below w.heap.size w w2) := bel_trans (bel_alloc (bel_alloc (Below.refl _ _) _) _) hb2
  have hgL : w.heap.size + 1 + 1 ≤ g := by simpa using hge
  have hs2 := hb2.size
  clear hb2 hge
  obtain ⟨hglt, _⟩ := Array.getElem?_eq_some_iff.1 hg2
  obtain ⟨w3, hrun, hg3, ho3, hs3, hb3⟩ := copy_full (w2.alloc (.cells #[.slice (some ⟨g, 0, none⟩) 512 512] 39)) b o cap g zs zeroCells HN.out (heap_past hglt hg2) (by simp [zeroCells, size_madeCells]) (fun i hi => by
    rw [World.cell?_alloc_past _ _ _ (by omega), HB2.out.cell (p := ⟨b, o + i, none⟩) hb]; exact HC.out i hi)
  have X2 : Box w3 w2.heap.size 39 #[.slice (some ⟨g, 0, none⟩) 512 512] := by
    unfold Box; rw [ho3 _ (by omega)]; exact Box.newAt rfl _ _
  have Y1 : Box w3 (w.heap.size + 1) 39 #[.slice none 0 0] := by
    unfold Box; rw [ho3 _ (by omega)]; exact X1.past _
  obtain ⟨q0, -, s0⟩ := X0.one
  obtain ⟨q2, -, s2⟩ := X2.one
  obtain ⟨q1, y1, s1⟩ := Y1.one
  have HG3 : Hid _ := hg3
  have HB3 : Hid (Below w.heap.size w w3) := (bel_alloc HB2.out _).trans (hb3.mono (by omega))
  clear ho3 hb3 hg3 hg2 hs2
  go_wp2_with fail
  refine bodyPost_ret (v := .agg #[.slice (some ⟨g, 0, none⟩) 512 512]) (by simp [results, Try.results62, go_sem, *]) rfl ⟨_, rfl, ?_, by omega, ?_⟩
  · refine sl_block (cs := intCells zs) (t := 3) (fr := (0, 0)) ?_ (intCells_list _) HN.out.symm (by rw [HN.out]; simp [maxLen])
    exact Box.other (p := ⟨w.heap.size + 1, 0, none⟩) HG3.out (by dsimp only; omega) _
  · exact bel_set1 (by omega) HB3.out _
end Go.Proofs.Ytemnklppplgcoab
