/-
  Laid together: Box12, Tables, AuditB, AuditR, MapB, Kept, Bridge1, CopyB, Cross, Apart, WhileOn.
-/
import Derived.Test.YthlhocneggcekaaS1
import Derived.Test.YthlhocneggcekaaS2
import Derived.Test.YthlhocneggcekaaS3
import Derived.Test.YthlhocneggcekaaS4
import Derived.Test.YthlhocneggcekaaRows
import Derived.WalkKit
import Derived.WalkSpells
import Derived.WalkLawsBesides
import Derived.Below
import Derived.WalkSmall
import Derived.Deep.QuietTactic
import Derived.BigQuiet
import Derived.Deep.Draws
import Derived.Deep.AppendLies
import Derived.Laws.CopyOwn
import Derived.Deep.RegionHeld
import Derived.Deep.RegionHeld3
import Derived.Deep.RegionWith
import Derived.LoopN
import Derived.Deep.CutRange
import Derived.Deep.DrawnRows
import Derived.Maps.OwnOps
import Derived.Maps.OwnSet
namespace Go.Proofs.Ythlhocneggcekaa
open Go.RowKit
theorem Box.twelve {w : World} {n : Nat} {t : TypeId} {a0 a1 a2 a3 a4 a5 a6 a7 a8 a9 a10 a11 : Value} (h : Box w n t #[a0, a1, a2, a3, a4, a5, a6, a7, a8, a9, a10, a11]) :
    (w.cell? ⟨n, 0, none⟩ = some a0 ∧ w.cell? ⟨n, 1, none⟩ = some a1 ∧ w.cell? ⟨n, 2, none⟩ = some a2 ∧ w.cell? ⟨n, 3, none⟩ = some a3 ∧ w.cell? ⟨n, 4, none⟩ = some a4 ∧ w.cell? ⟨n, 5, none⟩ = some a5 ∧ w.cell? ⟨n, 6, none⟩ = some a6 ∧ w.cell? ⟨n, 7, none⟩ = some a7 ∧ w.cell? ⟨n, 8, none⟩ = some a8 ∧ w.cell? ⟨n, 9, none⟩ = some a9 ∧ w.cell? ⟨n, 10, none⟩ = some a10 ∧ w.cell? ⟨n, 11, none⟩ = some a11) ∧ n < w.heap.size :=
  ⟨⟨h.cell 0, h.cell 1, h.cell 2, h.cell 3, h.cell 4, h.cell 5, h.cell 6, h.cell 7, h.cell 8, h.cell 9, h.cell 10, h.cell 11⟩, h.lt⟩
theorem Box.marks {w : World} {n : Nat} {t : TypeId} {a0 a1 a2 a3 a4 a5 a6 a7 a8 a9 a10 a11 : Value} (h : Box w n t #[a0, a1, a2, a3, a4, a5, a6, a7, a8, a9, a10, a11]) :
    w.frozen? ⟨n, 0, none⟩ = false ∧ w.frozen? ⟨n, 1, none⟩ = false ∧ w.frozen? ⟨n, 2, none⟩ = false ∧ w.frozen? ⟨n, 3, none⟩ = false ∧ w.frozen? ⟨n, 4, none⟩ = false ∧ w.frozen? ⟨n, 5, none⟩ = false ∧ w.frozen? ⟨n, 6, none⟩ = false ∧ w.frozen? ⟨n, 7, none⟩ = false ∧ w.frozen? ⟨n, 8, none⟩ = false ∧ w.frozen? ⟨n, 9, none⟩ = false ∧ w.frozen? ⟨n, 10, none⟩ = false ∧ w.frozen? ⟨n, 11, none⟩ = false :=
  ⟨h.frozen 0, h.frozen 1, h.frozen 2, h.frozen 3, h.frozen 4, h.frozen 5, h.frozen 6, h.frozen 7, h.frozen 8, h.frozen 9, h.frozen 10, h.frozen 11⟩
theorem Box.other12 {w : World} {n m : Nat} {t : TypeId} {cs : Array Value} (h : Box w n t cs) (hp : n ≠ m) (u0 u1 u2 u3 u4 u5 u6 u7 u8 u9 u10 u11 : Value) :
    Box ((((((((((((w.setCell ⟨m, 0, none⟩ u0).setCell ⟨m, 1, none⟩ u1).setCell ⟨m, 2, none⟩ u2).setCell ⟨m, 3, none⟩ u3).setCell ⟨m, 4, none⟩ u4).setCell ⟨m, 5, none⟩ u5).setCell ⟨m, 6, none⟩ u6).setCell ⟨m, 7, none⟩ u7).setCell ⟨m, 8, none⟩ u8).setCell ⟨m, 9, none⟩ u9).setCell ⟨m, 10, none⟩ u10).setCell ⟨m, 11, none⟩ u11) n t cs :=
  (((((((((((h.other (p := ⟨m, 0, none⟩) hp u0).other (p := ⟨m, 1, none⟩) hp u1).other (p := ⟨m, 2, none⟩) hp u2).other (p := ⟨m, 3, none⟩) hp u3).other (p := ⟨m, 4, none⟩) hp u4).other (p := ⟨m, 5, none⟩) hp u5).other (p := ⟨m, 6, none⟩) hp u6).other (p := ⟨m, 7, none⟩) hp u7).other (p := ⟨m, 8, none⟩) hp u8).other (p := ⟨m, 9, none⟩) hp u9).other (p := ⟨m, 10, none⟩) hp u10).other (p := ⟨m, 11, none⟩) hp u11
theorem bel_set12 {a w : World} {m : Nat} (hp : a.heap.size ≤ m) (h : Below a.heap.size a w) (u0 u1 u2 u3 u4 u5 u6 u7 u8 u9 u10 u11 : Value) :
    Below a.heap.size a ((((((((((((w.setCell ⟨m, 0, none⟩ u0).setCell ⟨m, 1, none⟩ u1).setCell ⟨m, 2, none⟩ u2).setCell ⟨m, 3, none⟩ u3).setCell ⟨m, 4, none⟩ u4).setCell ⟨m, 5, none⟩ u5).setCell ⟨m, 6, none⟩ u6).setCell ⟨m, 7, none⟩ u7).setCell ⟨m, 8, none⟩ u8).setCell ⟨m, 9, none⟩ u9).setCell ⟨m, 10, none⟩ u10).setCell ⟨m, 11, none⟩ u11) :=
  (((((((((((h.setCell (p := ⟨m, 0, none⟩) hp u0).setCell (p := ⟨m, 1, none⟩) hp u1).setCell (p := ⟨m, 2, none⟩) hp u2).setCell (p := ⟨m, 3, none⟩) hp u3).setCell (p := ⟨m, 4, none⟩) hp u4).setCell (p := ⟨m, 5, none⟩) hp u5).setCell (p := ⟨m, 6, none⟩) hp u6).setCell (p := ⟨m, 7, none⟩) hp u7).setCell (p := ⟨m, 8, none⟩) hp u8).setCell (p := ⟨m, 9, none⟩) hp u9).setCell (p := ⟨m, 10, none⟩) hp u10).setCell (p := ⟨m, 11, none⟩) hp u11
def tab : List Int := wth [9, 33, 10, 3, 16, 49, 24, 159, 25, 139] 5
theorem tab_len : tab.length = 512 := wth_len _ _
set_option maxHeartbeats 4000000 in
theorem tables_own (w : World) : Calls Try.prog 18 #[] w fun e w' =>
    ∃ g, e = .returned (.tuple #[.agg #[.slice (some ⟨g, 0, none⟩) 512 512], .agg #[.int .i64 2, .int .i64 1, .slice none 0 0, .int .i64 40, .int .i64 0, .int .i64 0, .bool false, .int .i64 0, .int .i64 41, .int .i64 0, .int .i64 0, .bool false]]) ∧ w'.heap[g]? = some (.cells (intCells tab) 3 (0, 0)) ∧ w.heap.size ≤ g ∧ Below w.heap.size w w' := by
  go_enter Try.func18, Try.ntmps18
  go_wp2_with fail
  refine (with_own _ 0 10 [9, 33, 10, 3, 16, 49, 24, 159, 25, 139] 5 _ ?_ rfl (by decide) (by decide)).mono ?_
  · exact sl_block (heap_at (by simp)) rfl rfl (by simp [maxLen])
  rintro e w1 ⟨g, rfl, hS, b1, hg, cs, hgc, hcs⟩
  have X0 := (((Box.newAt (n := w.heap.size) rfl 30 #[.slice none 0 0]).past _).past _).keep b1
  have X1 := ((Box.newAt (n := w.heap.size + 1) (by simp) 37 #[.int .i64 0, .int .i64 0, .slice none 0 0, .int .i64 0, .int .i64 0, .int .i64 0, .bool false, .int .i64 0, .int .i64 0, .int .i64 0, .int .i64 0, .bool false]).past _).keep b1
  have B1 : Hid (Below w.heap.size w w1) := bel_trans (bel_alloc (bel_alloc (bel_alloc (Below.refl _ _) _) _) _) b1
  have hg' : w.heap.size + 1 + 1 + 1 ≤ g := by simpa using hg
  have hcc : cs = intCells tab := by
    apply Array.ext'
    rw [hcs, intCells_list]; rfl
  have HG : Hid (w1.heap[g]? = some (.cells (intCells tab) 3 (0, 0))) := by show _ = _; rw [hgc, hcc]
  clear b1 hS hg hgc hcs hcc
  obtain ⟨r0, r1, s0⟩ := X0.one
  obtain ⟨⟨u0, u1, u2, u3, u4, u5, u6, u7, u8, u9, u10, u11⟩, s1⟩ := X1.twelve
  obtain ⟨y0, y1, y2, y3, y4, y5, y6, y7, y8, y9, y10, y11⟩ := X1.marks
  go_wp2
  refine bodyPost_ret (v := .tuple #[.agg #[.slice (some ⟨g, 0, none⟩) 512 512], .agg #[.int .i64 2, .int .i64 1, .slice none 0 0, .int .i64 40, .int .i64 0, .int .i64 0, .bool false, .int .i64 0, .int .i64 41, .int .i64 0, .int .i64 0, .bool false]]) (by simp [results, Try.results18, go_sem, *]) rfl ⟨g, rfl, ?_, by omega, ?_⟩
  · exact (Box.other (p := ⟨w.heap.size, 0, none⟩) HG.out (by dsimp only; omega) _).other12 (by omega) _ _ _ _ _ _ _ _ _ _ _ _
  · exact bel_set12 (by omega) (bel_set (p := ⟨w.heap.size, 0, none⟩) (Nat.le_refl _) B1.out _) _ _ _ _ _ _ _ _ _ _ _ _
theorem sl_tab {w : World} {g : Nat} {zs : List Int} (h : w.heap[g]? = some (.cells (intCells zs) 3 (0, 0))) (hl : zs.length = 512) : Sl w (.slice (some ⟨g, 0, none⟩) 512 512) zs :=
  sl_block h (intCells_list _) hl.symm (by rw [hl]; simp [maxLen])
theorem flat16_at : ∀ {css : List (Array Value)}, (∀ c ∈ css, c.size = 16) → ∀ {i j : Nat} {cs : Array Value} {v : Value}, css[i]? = some cs → cs[j]? = some v → (css.flatMap Array.toList)[i * 16 + j]? = some v
  | [], _, i, _, _, _, hi, _ => by simp at hi
  | c :: css, h, 0, j, cs, v, hi, hj => by
    simp only [List.getElem?_cons_zero, Option.some.injEq] at hi
    subst hi
    have hl : j < c.toList.length := by
      rw [Array.length_toList]
      rcases Nat.lt_or_ge j c.size with k | k
      · exact k
      · rw [Array.getElem?_eq_none k] at hj; exact absurd hj (by simp)
    rw [List.flatMap_cons, Nat.zero_mul, Nat.zero_add, List.getElem?_append_left hl, Array.getElem?_toList]
    exact hj
  | c :: css, h, i + 1, j, cs, v, hi, hj => by
    have hc : c.toList.length = 16 := by rw [Array.length_toList]; exact h c (by simp)
    rw [List.flatMap_cons, List.getElem?_append_right (by omega), hc, show (i + 1) * 16 + j - 16 = i * 16 + j by omega]
    exact flat16_at (fun c' hc' => h c' (by simp [hc'])) (by simpa using hi) hj
theorem ms_box {w : World} {n cap : Nat} {t : TypeId} {fr : Nat × Nat} {l : List Mc} {css : List (Array Value)} {row : Array Value} (hB : w.heap[n]? = some (.cells row t fr)) (hrow : ∀ (q : Nat) (v : Value), (css.flatMap Array.toList)[q]? = some v → row[q]? = some v)
    (hl : css.length = l.length) (h : ∀ i, i < l.length → ∃ cs, css[i]? = some cs ∧ IsM w (mth l i) cs) (hc : l.length ≤ cap) (hm : cap ≤ maxLen) : Ms w (.slice (some ⟨n, 0, none⟩) l.length cap) l := by
  have hall : ∀ c ∈ css, c.size = 16 := fun c hc => by
    obtain ⟨i, hi, e⟩ := List.getElem_of_mem hc
    obtain ⟨cs, h1, h2⟩ := h i (by omega)
    rw [List.getElem?_eq_getElem hi, Option.some.injEq] at h1
    rw [← e, h1]
    exact h2.size.1
  refine ⟨_, cap, rfl, hc, hm, .inr ⟨n, 0, rfl, ?_, fun i hi => ?_⟩⟩
  · rcases Nat.lt_or_ge n w.heap.size with k | k
    · exact k
    · rw [Array.getElem?_eq_none k] at hB; exact absurd hB (by simp)
  · obtain ⟨cs, h1, h2⟩ := h i hi
    refine ⟨cs, h2, fun j v hv => ?_⟩
    rw [Nat.zero_add, cell_of_row w n _ row t fr hB]
    exact hrow _ _ (flat16_at hall h1 hv)
def auX : Mc := ⟨tab, ⟨0, List.replicate 8 0, false⟩, ⟨2, 1, [], 40, 0, 0, false, 0, 41, 0, 0, false⟩⟩
def auY : Mc := ⟨tab, ⟨0, List.replicate 8 0, false⟩, ⟨0, 1, [], 40, 0, 0, false, 0, 41, 0, 0, false⟩⟩
def auT : Tc := (1, 1, 73, true, 0)
theorem auX_good : chkM auX = 0 := by decide +kernel
theorem auY_good : chkM auY = 0 := by decide +kernel
theorem auX_lets : lets auX auT = true := by decide +kernel
theorem auY_lets : lets auY auT = false := by decide +kernel
theorem auT_good : ckT auT = 0 := by decide
theorem au_two : frE [auX, auY] auT = 0 := frE_mk (by decide) (by rw [mcE, if_pos auX_good, mcE, if_pos auY_good]; rfl) auT_good
theorem au_one : frE [auY] auT = 0 := frE_mk (by decide) (by rw [mcE, if_pos auY_good]; rfl) auT_good
theorem au_last2 {k : Int} (h : IsLast [auX, auY] auT k) : k = 0 := h.one ⟨by decide, fun _ => auX_lets, fun j h1 h2 => by
  have : j < 2 := h2
  obtain rfl : j = 1 := by omega
  exact auY_lets⟩
theorem au_last1 {k : Int} (h : IsLast [auY] auT k) : k = -1 := h.one ⟨by decide, fun h => absurd h (by decide), fun j h1 h2 => by
  have : j < 1 := h2
  obtain rfl : j = 0 := by omega
  exact auY_lets⟩
theorem list16 {cs : List Value} (h : cs.length = 16) : ∃ c0 c1 c2 c3 c4 c5 c6 c7 c8 c9 c10 c11 c12 c13 c14 c15, cs = [c0, c1, c2, c3, c4, c5, c6, c7, c8, c9, c10, c11, c12, c13, c14, c15] := by
  match cs, h with
  | [c0, c1, c2, c3, c4, c5, c6, c7, c8, c9, c10, c11, c12, c13, c14, c15], _ => exact ⟨c0, c1, c2, c3, c4, c5, c6, c7, c8, c9, c10, c11, c12, c13, c14, c15, rfl⟩
theorem row16 {cs : Array Value} (h : cs.size = 16) : ∃ c0 c1 c2 c3 c4 c5 c6 c7 c8 c9 c10 c11 c12 c13 c14 c15, cs = #[c0, c1, c2, c3, c4, c5, c6, c7, c8, c9, c10, c11, c12, c13, c14, c15] := by
  obtain ⟨l⟩ := cs
  obtain ⟨c0, c1, c2, c3, c4, c5, c6, c7, c8, c9, c10, c11, c12, c13, c14, c15, rfl⟩ := list16 (cs := l) h
  exact ⟨c0, c1, c2, c3, c4, c5, c6, c7, c8, c9, c10, c11, c12, c13, c14, c15, rfl⟩
theorem run_built1 (w : World) (c0 c1 c2 c3 c4 c5 c6 c7 c8 c9 c10 c11 c12 c13 c14 c15 : Value) : (Instr.buildSlice 22 1 #[(0, .agg #[c0, c1, c2, c3, c4, c5, c6, c7, c8, c9, c10, c11, c12, c13, c14, c15])]).run Try.prog w = .ok (.slice (some ⟨w.heap.size, 0, none⟩) 1 1) (w.alloc (.cells #[c0, c1, c2, c3, c4, c5, c6, c7, c8, c9, c10, c11, c12, c13, c14, c15] 39)) := by kernel_rfl
theorem run_built2 (w : World) (c0 c1 c2 c3 c4 c5 c6 c7 c8 c9 c10 c11 c12 c13 c14 c15 d0 d1 d2 d3 d4 d5 d6 d7 d8 d9 d10 d11 d12 d13 d14 d15 : Value) : (Instr.buildSlice 22 2 #[(0, .agg #[c0, c1, c2, c3, c4, c5, c6, c7, c8, c9, c10, c11, c12, c13, c14, c15]), (1, .agg #[d0, d1, d2, d3, d4, d5, d6, d7, d8, d9, d10, d11, d12, d13, d14, d15])]).run Try.prog w = .ok (.slice (some ⟨w.heap.size, 0, none⟩) 2 2) (w.alloc (.cells (#[c0, c1, c2, c3, c4, c5, c6, c7, c8, c9, c10, c11, c12, c13, c14, c15] ++ #[d0, d1, d2, d3, d4, d5, d6, d7, d8, d9, d10, d11, d12, d13, d14, d15]) 39)) := by kernel_rfl
theorem wpList_built1 {ops : Array Oper} {rest : List Oper} {o : Oper} {a : Act} {w : World} {Q : Exit → Act → World → Prop} (hg : o.guard = none) (x : Operand) (ho : o.op = .buildSlice 22 1 #[(0, x)])
    {cs : Array Value} (hx : a.eval x = .agg cs) (hs : cs.size = 16) (h : wpList Try.prog ops Q rest (a.put o.dst (.slice (some ⟨w.heap.size, 0, none⟩) 1 1)) (w.alloc (.cells cs 39))) : wpList Try.prog ops Q (o :: rest) a w := by
  obtain ⟨c0, c1, c2, c3, c4, c5, c6, c7, c8, c9, c10, c11, c12, c13, c14, c15, rfl⟩ := row16 hs
  refine wpList_plain hg fun _ hK => ?_
  unfold Oper.wp execOp
  have e : (#[(0, x)] : Array (Nat × Operand)).map (fun (i, x) => (i, a.eval x)) = #[(0, .agg #[c0, c1, c2, c3, c4, c5, c6, c7, c8, c9, c10, c11, c12, c13, c14, c15])] := by simp [hx]
  simp only [ho, Sem.run_bind, e, run_built1, Result.andThen_ok]
  exact hK _ _ h
theorem wpList_built2 {ops : Array Oper} {rest : List Oper} {o : Oper} {a : Act} {w : World} {Q : Exit → Act → World → Prop} (hg : o.guard = none) (x y : Operand) (ho : o.op = .buildSlice 22 2 #[(0, x), (1, y)])
    {cs ds : Array Value} (hx : a.eval x = .agg cs) (hy : a.eval y = .agg ds) (hs : cs.size = 16) (hd : ds.size = 16) (h : wpList Try.prog ops Q rest (a.put o.dst (.slice (some ⟨w.heap.size, 0, none⟩) 2 2)) (w.alloc (.cells (cs ++ ds) 39))) : wpList Try.prog ops Q (o :: rest) a w := by
  obtain ⟨c0, c1, c2, c3, c4, c5, c6, c7, c8, c9, c10, c11, c12, c13, c14, c15, rfl⟩ := row16 hs
  obtain ⟨d0, d1, d2, d3, d4, d5, d6, d7, d8, d9, d10, d11, d12, d13, d14, d15, rfl⟩ := row16 hd
  refine wpList_plain hg fun _ hK => ?_
  unfold Oper.wp execOp
  have e : (#[(0, x), (1, y)] : Array (Nat × Operand)).map (fun (i, x) => (i, a.eval x)) = #[(0, .agg #[c0, c1, c2, c3, c4, c5, c6, c7, c8, c9, c10, c11, c12, c13, c14, c15]), (1, .agg #[d0, d1, d2, d3, d4, d5, d6, d7, d8, d9, d10, d11, d12, d13, d14, d15])] := by simp [hx, hy]
  simp only [ho, Sem.run_bind, e, run_built2, Result.andThen_ok]
  exact hK _ _ h
theorem ms_one {w : World} {n : Nat} {t : TypeId} {m : Mc} {cs : Array Value} (hB : Box w n t cs) (hm : IsM w m cs) : Ms w (.slice (some ⟨n, 0, none⟩) 1 1) [m] :=
  ms_box (l := [m]) (css := [cs]) hB (fun q v h => by rw [← Array.getElem?_toList]; simpa using h) rfl (fun i hi => by
    have : i < 1 := hi
    obtain rfl : i = 0 := by omega
    exact ⟨cs, rfl, hm⟩) (Nat.le_refl _) (by decide)
theorem ms_two {w : World} {n : Nat} {t : TypeId} {m k : Mc} {cs ck : Array Value} (hB : Box w n t (cs ++ ck)) (hm : IsM w m cs) (hk : IsM w k ck) : Ms w (.slice (some ⟨n, 0, none⟩) 2 2) [m, k] :=
  ms_box (l := [m, k]) (css := [cs, ck]) hB (fun q v h => by rw [← Array.getElem?_toList]; simpa using h) rfl (fun i hi => by
    have : i < 2 := hi
    have hc : i = 0 ∨ i = 1 := by omega
    rcases hc with rfl | rfl
    · exact ⟨cs, rfl, hm⟩
    · exact ⟨ck, rfl, hk⟩) (Nat.le_refl _) (by decide)
def Rv (v : Value) : Option (DataW Value × List MemPlace) := some (.held v, [])
theorem law_int : Maps.Keyed Try.prog 3 := Maps.int_keyed Try.underlying3
theorem key_int {z : Int} (h0 : 0 ≤ z) (h1 : z < 1000) : keyOf Try.prog 3 (.int .i64 z) = some (.int .i64 z) := Maps.keyOf_int_mk Try.underlying3 (WalkArith.wf_i64 (by omega))
theorem zero_bool (w : World) : (zeroValue 4).run Try.prog w = .ok (.bool false) w := by kernel_rfl
theorem grown_none {w w' : World} (h : Below w.heap.size w w') : w.grownBy w' none := ⟨h.os, h.tape, h.output, h.size, fun k hk _ => h.block k hk⟩
def Seen (w : World) (b n : Nat) (ks : List Int) : Prop :=
  ∃ D, w.ownsMap Try.prog 3 Rv b n D ∧ ∀ z, D.atKey (.int .i64 z) (.held (.bool false)) = .held (.bool (decide (z ∈ ks)))
theorem Seen.new (w : World) : Seen (w.alloc (.map #[] 0)) w.heap.size 0 [] := ⟨_, World.ownsMap_made _ _ _ _, fun z => by simp [DataW.atKey]⟩
theorem Seen.keep {w w' : World} {b n : Nat} {ks : List Int} (h : Seen w b n ks) (hb : Below w.heap.size w w') : Seen w' b n ks := by
  obtain ⟨D, h1, h2⟩ := h
  exact ⟨D, h1.kept (grown_none hb) (by simp), h2⟩
theorem Seen.lt {w : World} {b n : Nat} {ks : List Int} (h : Seen w b n ks) : b < w.heap.size := by obtain ⟨D, h1, _⟩ := h; exact h1.lt
theorem wpList_seen {w : World} {ops : Array Oper} {rest : List Oper} {o : Oper} {a : Act} {Q : Exit → Act → World → Prop} (hg : o.guard = none) (m x : Operand) (hop : o.op = Op.lookup 76 m x false) (b n : Nat) (ks : List Int)
    (hm : a.eval m = .map (some b)) (h : Seen w b n ks) (z : Int) (hx : a.eval x = .int .i64 z) (h0 : 0 ≤ z) (h1 : z < 1000)
    (hK : wpList Try.prog ops Q rest (a.put o.dst (.bool (decide (z ∈ ks)))) w) : wpList Try.prog ops Q (o :: rest) a w := by
  refine wpList_plain hg fun K' hK' => ?_
  obtain ⟨D, hown, hD⟩ := h
  obtain ⟨v, ps, hrun, hv⟩ := hown.lookup law_int Try.underlying76 (zero_bool w) (zd := .held (.bool false)) (zp := []) rfl (key_int h0 h1)
  rw [hD z] at hv
  simp only [Rv, Option.some.injEq, Prod.mk.injEq, DataW.held.injEq] at hv
  unfold Oper.wp
  simp [execOp, hop, hm, hx, hrun, Result.andThen]
  rw [hv.1]
  exact hK' _ _ hK
theorem wpList_see {w : World} {ops : Array Oper} {rest : List Oper} {o : Oper} {a : Act} {Q : Exit → Act → World → Prop} (hg : o.guard = none) (m x v : Operand) (hop : o.op = Op.mapUpdate 76 m x v) (b n : Nat) (ks : List Int)
    (hm : a.eval m = .map (some b)) (h : Seen w b n ks) (z : Int) (hx : a.eval x = .int .i64 z) (hv : a.eval v = .bool true) (h0 : 0 ≤ z) (h1 : z < 1000) (hn : n < 1000)
    (hK : ∀ w', Seen w' b (n + 1) (z :: ks) → w.grownBy w' (some b) → wpList Try.prog ops Q rest (a.put o.dst undef) w') : wpList Try.prog ops Q (o :: rest) a w := by
  obtain ⟨D, hown, hD⟩ := h
  refine wpList_mapUpdate_own w hg m x v 76 hop 3 4 law_int Try.underlying76 Rv b n D hm hown (by unfold maxLen; omega) _ _ _ hx hv (key_int h0 h1) (.held (.bool true)) [] rfl ?_
  intro w' hown' hgr
  refine hK w' ⟨_, hown', fun y => ?_⟩ hgr
  by_cases e : y = z
  · subst e
    rw [Maps.atKey_put_same hown.isMap (law_int.key (key_int h0 h1))]
    simp
  · rw [Maps.atKey_put_other (by simpa using e), hD y]
    simp [e]
theorem Ls.shape {w : World} {v : Value} {l : List Ln} (h : Ls w v l) : ∃ a cap, v = .slice a l.length cap ∧ Ls w (.slice a l.length cap) l := by
  have h' := h
  obtain ⟨a, cap, rfl, _⟩ := h
  exact ⟨a, cap, rfl, h'⟩
theorem fill_atF {v : Value} {l : List Ln} {d p a : Int} {r x : Bool} {w : World} (h : Ls w v l) {e0 : Int} {c : List Ln} (hE : flE l (d, p, a, r, x) = e0) (hC : flC l (d, p, a, r, x) = c) :
    Calls Try.prog 58 #[v, .agg #[.int .i64 d, .int .i64 p, .int .i64 a, .bool r, .bool x]] w fun e w' => ∃ b cap, e = .returned (.tuple #[.slice b c.length cap, .int .i64 e0]) ∧ Ls w' (.slice b c.length cap) c ∧ Fresh w.heap.size (.slice b c.length cap) ∧ Below w.heap.size w w' := by
  subst hE hC
  refine (fill_any v l d p a r x w h).mono ?_
  rintro e w' ⟨⟨v', rfl, hs, hn⟩, hb⟩
  obtain ⟨b, cap, rfl, hs'⟩ := hs.shape
  exact ⟨b, cap, rfl, hs', hn, hb⟩
def fenR (z : Int) : Bool := decide (0 ≤ z ∧ z < 1000)
theorem isPageB_any (z : Int) (w : World) : Calls Try.prog 34 #[.int .i64 z] w fun e w' => e = .returned (.bool (pageR z)) ∧ w' = w := by
  by_cases h1 : 0 ≤ z
  · by_cases h2 : z < 64
    · have : pageR z = true := by simp [pageR, h1, h2]
      rw [this]
      go_enter Try.func34, Try.ntmps34
      go_wp2
      go_ret
      exact ⟨rfl, rfl⟩
    · have : pageR z = false := by simp [pageR, h2]
      rw [this]
      go_enter Try.func34, Try.ntmps34
      go_wp2
      go_ret
      exact ⟨rfl, rfl⟩
  · have : pageR z = false := by simp [pageR, h1]
    rw [this]
    go_enter Try.func34, Try.ntmps34
    go_wp2
    go_ret
    exact ⟨rfl, rfl⟩
theorem isDevB_any (z : Int) (w : World) : Calls Try.prog 48 #[.int .i64 z] w fun e w' => e = .returned (.bool (stepR z)) ∧ w' = w := by
  by_cases h1 : 0 ≤ z
  · by_cases h2 : z < 8
    · have : stepR z = true := by simp [stepR, h1, h2]
      rw [this]
      go_enter Try.func48, Try.ntmps48
      go_wp2
      go_ret
      exact ⟨rfl, rfl⟩
    · have : stepR z = false := by simp [stepR, h2]
      rw [this]
      go_enter Try.func48, Try.ntmps48
      go_wp2
      go_ret
      exact ⟨rfl, rfl⟩
  · have : stepR z = false := by simp [stepR, h1]
    rw [this]
    go_enter Try.func48, Try.ntmps48
    go_wp2
    go_ret
    exact ⟨rfl, rfl⟩
theorem isFences_any (z : Int) (w : World) : Calls Try.prog 35 #[.int .i64 z] w fun e w' => e = .returned (.bool (fenR z)) ∧ w' = w := by
  by_cases h1 : 0 ≤ z
  · by_cases h2 : z < 1000
    · have : fenR z = true := by simp [fenR, h1, h2]
      rw [this]
      go_enter Try.func35, Try.ntmps35
      go_wp2
      go_ret
      exact ⟨rfl, rfl⟩
    · have : fenR z = false := by simp [fenR, h2]
      rw [this]
      go_enter Try.func35, Try.ntmps35
      go_wp2
      go_ret
      exact ⟨rfl, rfl⟩
  · have : fenR z = false := by simp [fenR, h1]
    rw [this]
    go_enter Try.func35, Try.ntmps35
    go_wp2
    go_ret
    exact ⟨rfl, rfl⟩
theorem rngBr_ways {b : Br} : (rngBr b = true ∧ ¬ b.mode < 0 ∧ ¬ 2 < b.mode ∧ pageR b.base = true ∧ fenR b.fen = true) ∨
    (rngBr b = false ∧ (b.mode < 0 ∨ (¬ b.mode < 0 ∧ 2 < b.mode) ∨ (¬ b.mode < 0 ∧ ¬ 2 < b.mode ∧ pageR b.base = false) ∨ (¬ b.mode < 0 ∧ ¬ 2 < b.mode ∧ pageR b.base = true ∧ fenR b.fen = false))) := by
  simp only [rngBr, pageR, fenR]
  by_cases h1 : b.mode < 0
  · exact .inr ⟨by simp; omega, .inl h1⟩
  by_cases h2 : 2 < b.mode
  · exact .inr ⟨by simp; omega, .inr (.inl ⟨h1, h2⟩)⟩
  by_cases h3 : 0 ≤ b.base ∧ b.base < 64
  · by_cases h4 : 0 ≤ b.fen ∧ b.fen < 1000
    · exact .inl ⟨by simp; omega, h1, h2, by simp [h3], by simp [h4]⟩
    · exact .inr ⟨by simp; omega, .inr (.inr (.inr ⟨h1, h2, by simp [h3], by simpa using h4⟩))⟩
  · exact .inr ⟨by simp; omega, .inr (.inr (.inl ⟨h1, h2, by simpa using h3⟩))⟩
set_option maxHeartbeats 2000000 in
theorem bCheck_any (mo ba op oh ot fe fp fh ft : Int) (st lo : Bool) (vc : Value) (l : List Ln) (w : World) (h : Ls w vc l) :
    Calls Try.prog 25 #[.agg #[.int .i64 mo, .int .i64 ba, vc, .int .i64 op, .int .i64 oh, .int .i64 ot, .bool st, .int .i64 fe, .int .i64 fp, .int .i64 fh, .int .i64 ft, .bool lo]] w fun e w' => e = .returned (.int .i64 (chkB ⟨mo, ba, l, op, oh, ot, st, fe, fp, fh, ft, lo⟩)) ∧ Below w.heap.size w w' := by
  have HS : Hid (Ls w vc l) := h
  obtain ⟨va, vk, rfl, -⟩ := h.shape
  clear h
  rcases rngBr_ways (b := ⟨mo, ba, l, op, oh, ot, st, fe, fp, fh, ft, lo⟩) with ⟨hr, h1, h2, h3, h4⟩ | ⟨hr, hw⟩
  rotate_left
  · have HE : Hid (chkB ⟨mo, ba, l, op, oh, ot, st, fe, fp, fh, ft, lo⟩ = 2) := by show _ = _; rw [chkB, hr]; rfl
    clear hr
    dsimp only at hw
    rcases hw with h1 | ⟨h1, h2⟩ | ⟨h1, h2, h3⟩ | ⟨h1, h2, h3, h4⟩
    all_goals
      go_enter Try.func25, Try.ntmps25
      go_wp2_with (first | (go_at_call 34; refine (isPageB_any _ _).mono ?_; rintro e w' ⟨rfl, rfl⟩) | (go_at_call 35; refine (isFences_any _ _).mono ?_; rintro e w' ⟨rfl, rfl⟩))
      go_ret
      exact ⟨ret_int HE.out.symm, bel_alloc (Below.refl _ _) _⟩
  dsimp only at h1 h2 h3 h4
  have HR : Hid (rngBr ⟨mo, ba, l, op, oh, ot, st, fe, fp, fh, ft, lo⟩ = true) := hr
  clear hr
  go_enter Try.func25, Try.ntmps25
  go_wp2_with (first | (go_at_call 34; refine (isPageB_any _ _).mono ?_; rintro e w' ⟨rfl, rfl⟩) | (go_at_call 35; refine (isFences_any _ _).mono ?_; rintro e w' ⟨rfl, rfl⟩))
  refine (cCheck_any _ l _ (HS.out.alloc _)).mono ?_
  rintro e w1 ⟨rfl, b1⟩
  have X0 := (Box.newAt (n := w.heap.size) rfl 37 #[.int .i64 mo, .int .i64 ba, .slice va l.length vk, .int .i64 op, .int .i64 oh, .int .i64 ot, .bool st, .int .i64 fe, .int .i64 fp, .int .i64 fh, .int .i64 ft, .bool lo]).keep b1
  have B1 : Hid (Below w.heap.size w w1) := bel_trans (bel_alloc (Below.refl _ _) _) b1
  clear b1
  obtain ⟨⟨q0, q1, q2, q3, q4, q5, q6, q7, q8, q9, q10, q11⟩, s0⟩ := X0.twelve
  by_cases hc : chkC l = 0
  rotate_left
  · have HE : Hid (chkB ⟨mo, ba, l, op, oh, ot, st, fe, fp, fh, ft, lo⟩ = chkC l) := by show _ = _; rw [chkB, if_pos HR.out, if_neg hc]
    have hq : (chkC l != 0) = true := by simpa using hc
    go_wp2
    go_ret
    exact ⟨ret_int HE.out.symm, B1.out⟩
  rw [hc]
  go_wp2_with fail
  refine (rCheck_any _ _ _ _).mono ?_
  rintro e w2 ⟨rfl, rfl⟩
  by_cases hk : chkR op oh ot = 0
  rotate_left
  · have HE : Hid (chkB ⟨mo, ba, l, op, oh, ot, st, fe, fp, fh, ft, lo⟩ = chkR op oh ot) := by show _ = _; rw [chkB, if_pos HR.out, if_pos hc, if_neg hk]
    have hq : (chkR op oh ot != 0) = true := by simpa using hk
    go_wp2
    go_ret
    exact ⟨ret_int HE.out.symm, bel_alloc B1.out _⟩
  have HE : Hid (chkB ⟨mo, ba, l, op, oh, ot, st, fe, fp, fh, ft, lo⟩ = chkR fp fh ft) := by show _ = _; rw [chkB, if_pos HR.out, if_pos hc, if_pos hk]
  rw [hk]
  go_wp2_with fail
  refine (rCheck_any _ _ _ _).mono ?_
  rintro e w2 ⟨rfl, rfl⟩
  go_wp2
  go_ret
  exact ⟨ret_int HE.out.symm, bel_alloc (bel_alloc B1.out _) _⟩
set_option maxHeartbeats 2000000 in
theorem checkBothB_any (v : Value) (zs : List Int) (mo ba op oh ot fe fp fh ft : Int) (st lo : Bool) (vc : Value) (l : List Ln) (w : World) (hs : Sl w v zs) (h : Ls w vc l) :
    Calls Try.prog 47 #[.agg #[v], .agg #[.int .i64 mo, .int .i64 ba, vc, .int .i64 op, .int .i64 oh, .int .i64 ot, .bool st, .int .i64 fe, .int .i64 fp, .int .i64 fh, .int .i64 ft, .bool lo]] w fun e w' => e = .returned (.int .i64 (bothB zs ⟨mo, ba, l, op, oh, ot, st, fe, fp, fh, ft, lo⟩)) ∧ Below w.heap.size w w' := by
  have HS : Hid (Ls w vc l) := h
  obtain ⟨va, vk, rfl, -⟩ := h.shape
  clear h
  go_enter Try.func47, Try.ntmps47
  go_wp2_with fail
  refine (check_any _ zs _ (hs.keep (bel_alloc (bel_alloc (Below.refl _ _) _) _))).mono ?_
  rintro e w1 ⟨rfl, b1⟩
  have X0 := (Box.newAt (n := w.heap.size + 1) (by simp) 37 #[.int .i64 mo, .int .i64 ba, .slice va l.length vk, .int .i64 op, .int .i64 oh, .int .i64 ot, .bool st, .int .i64 fe, .int .i64 fp, .int .i64 fh, .int .i64 ft, .bool lo]).keep b1
  have B1 : Hid (Below w.heap.size w w1) := bel_trans (bel_alloc (bel_alloc (Below.refl _ _) _) _) b1
  clear b1
  obtain ⟨⟨q0, q1, q2, q3, q4, q5, q6, q7, q8, q9, q10, q11⟩, s0⟩ := X0.twelve
  by_cases hk : chk zs = 0
  · have HE : Hid (bothB zs ⟨mo, ba, l, op, oh, ot, st, fe, fp, fh, ft, lo⟩ = chkB ⟨mo, ba, l, op, oh, ot, st, fe, fp, fh, ft, lo⟩) := if_pos hk
    rw [hk]
    go_wp2_with fail
    refine (bCheck_any mo ba op oh ot fe fp fh ft st lo (.slice va l.length vk) l _ (HS.out.keep B1.out)).mono ?_
    rintro e w2 ⟨rfl, b2⟩
    go_wp2
    go_ret
    exact ⟨ret_int HE.out.symm, bel_trans B1.out b2⟩
  · have HE : Hid (bothB zs ⟨mo, ba, l, op, oh, ot, st, fe, fp, fh, ft, lo⟩ = chk zs) := if_neg hk
    have hq : (chk zs != 0) = true := by simpa using hk
    go_wp2
    go_ret
    exact ⟨ret_int HE.out.symm, B1.out⟩
theorem byLine_any (d p a : Int) (r x wr : Bool) (w : World) :
    Calls Try.prog 55 #[.agg #[.int .i64 d, .int .i64 p, .int .i64 a, .bool r, .bool x], .bool wr] w fun e w' =>
      e = .returned (.tuple #[.int .i64 (if (wr && !x) = true then 0 else a), .int .i64 (if (wr && !x) = true then 5 else 0)]) ∧ Below w.heap.size w w' := by
  cases wr <;> cases x
  all_goals
    go_enter Try.func55, Try.ntmps55
    go_wp2
    first
      | exact bodyPost_ret (v := .tuple #[.int .i64 a, .int .i64 0]) (by simp [results, Try.results55, go_sem, *]; done) rfl ⟨rfl, bel_alloc (Below.refl _ _) _⟩
      | exact bodyPost_ret (v := .tuple #[.int .i64 0, .int .i64 5]) (by simp [results, Try.results55, go_sem, *]; done) rfl ⟨rfl, bel_alloc (Below.refl _ _) _⟩
theorem makeLines (w : World) (n : Nat) (hn : n ≤ 6) : ∃ cur : Array Value, (Instr.makeSlice 33 (.int .i64 n) (.int .i64 n)).run Try.prog w = .ok (.slice (some ⟨w.heap.size, 0, none⟩) n n) (w.alloc (.cells cur 63)) ∧ cur.size = n * 5 := by
  obtain ⟨i, hi, hz, hs, hb⟩ := infoLine
  have h := run_make (P := Try.prog) w 33 63 i _ Try.underlying33 hi hz .i64 .i64 n n (by omega) (by omega) (by rw [hb]; omega) (by omega)
  rw [hs] at h
  simp only [Int.toNat_natCast] at h
  exact ⟨_, h, size_madeCells _ _⟩
theorem copyLines (w : World) (ty : TypeId) (v : Value) (g : Nat) (l : List Ln) (cur : Array Value) (hg : w.heap[g]? = some (.cells cur 63 (0, 0))) (hcur : cur.size = l.length * 5) (hl : Ls w v l) :
    ∃ w3, (Builtin.copy_ #[33, 33] ty #[.slice (some ⟨g, 0, none⟩) l.length l.length, v]).run Try.prog w = .ok (.int .i64 l.length) w3 ∧ w3.heap[g]? = some (.cells (l.flatMap cellsL).toArray 63 (0, 0)) ∧
      (∀ k, k ≠ g → w3.heap[k]? = w.heap[k]?) ∧ w3.heap.size = w.heap.size ∧ Below g w w3 := by
  obtain ⟨i, hi, hz, hs, hb⟩ := infoLine
  obtain ⟨a, cap, rfl, hlc, hm, h⟩ := hl
  have hl5 := flat_len l
  have hst := run_storeCells_at Try.prog g 0 63 (l.flatMap cellsL) 0 cur w hg (by rw [hl5, hcur]; omega) (flat_one l)
  have hd : List.drop (0 + 0 + (l.flatMap cellsL).length) cur.toList = [] := List.drop_of_length_le (by simp only [Array.length_toList, hcur, hl5]; omega)
  rw [hd, Nat.add_zero, List.take_zero, List.nil_append, List.append_nil] at hst
  refine ⟨_, ?_, setRow_heap w g cur _ _ _ hg, fun k hk => setRow_other w g k _ hk, by simp [World.setRow], ⟨rfl, rfl, rfl, by simp [World.setRow], fun k hk => setRow_other w g k _ (by omega)⟩⟩
  rcases h with rfl | ⟨b, o, rfl, hlt, hc⟩
  · have hst' : (storeCells ⟨g, 0, none⟩ [] 0).run Try.prog w = .ok () (w.setRow g ([] : List Value).toArray) := hst
    cases a <;>
      simp [Builtin.copy_, run_underlying Try.underlying33, Builtin.lenOf, Builtin.firstCells, sizeOf, typeInfo, hi, loadCells, loadCellsFrom, hst', goInt]
  · have hld := run_loadCells_list (P := Try.prog) w ⟨b, o, none⟩ (l.flatMap cellsL) (fun j u hu => by
      obtain ⟨i', r, h1, h2, rfl, h4⟩ := flat_of hu
      rw [add_off, ← Nat.add_assoc]
      exact atL_cell (hc i' h1) h2 h4)
    rw [hl5] at hld
    simp [Builtin.copy_, run_underlying Try.underlying33, Builtin.lenOf, Builtin.firstCells, sizeOf, typeInfo, hi, hs, hld, hst, goInt]
theorem ls_block {w : World} {g : Nat} {l : List Ln} (hg : w.heap[g]? = some (.cells (l.flatMap cellsL).toArray 63 (0, 0))) (hn : l.length ≤ 6) : Ls w (.slice (some ⟨g, 0, none⟩) l.length l.length) l := by
  refine ⟨_, l.length, rfl, Nat.le_refl _, by unfold maxLen; omega, .inr ⟨g, 0, rfl, (Box.lt hg), fun i hi => ?_⟩⟩
  have hc : ∀ r, r < 5 → w.cell? ⟨g, 0 + i * 5 + r, none⟩ = (cellsL (lth l i))[r]? := fun r hr => by
    rw [Nat.zero_add, cell_of_row w g _ _ _ _ hg, List.getElem?_toArray, flat_at l i r hi hr]
  exact ⟨hc 0 (by omega), hc 1 (by omega), hc 2 (by omega), hc 3 (by omega), hc 4 (by omega)⟩
theorem AtL.other {w : World} {b o : Nat} {x : Ln} (h : AtL w b o x) {p : Addr} {u : Value} (hp : ∀ j, j < 5 → p ≠ ⟨b, o + j, none⟩) : AtL (w.setCell p u) b o x := by
  obtain ⟨h0, h1, h2, h3, h4⟩ := h
  refine ⟨?_, ?_, ?_, ?_, ?_⟩
  · rw [World.cell?_setCell_other (h := (by simpa using hp 0 (by omega) : p ≠ ⟨b, o, none⟩))]; exact h0
  · rw [World.cell?_setCell_other (h := hp 1 (by omega))]; exact h1
  · rw [World.cell?_setCell_other (h := hp 2 (by omega))]; exact h2
  · rw [World.cell?_setCell_other (h := hp 3 (by omega))]; exact h3
  · rw [World.cell?_setCell_other (h := hp 4 (by omega))]; exact h4
def Apart (v : Value) (l : List Ln) (n : Nat) : Prop := l = [] ∨ ∀ b o k c, v = .slice (some ⟨b, o, none⟩) k c → b ≠ n
theorem atL_bridge {w : World} {n o : Nat} {t : TypeId} {x : Ln} {i0 i1 i3 i4 i5 i7 i8 i9 i10 : Int} {p6 p11 : Bool} {sa : Option Addr} {sn sc : Nat}
    (h : Box w n t #[.int .i64 i0, .int .i64 i1, .slice sa sn sc, .int .i64 i3, .int .i64 i4, .int .i64 i5, .bool p6, .int .i64 i7, .int .i64 i8, .int .i64 i9, .int .i64 i10, .bool p11]) (hx : AtL w n o x) : False := by
  obtain ⟨_, _, h2, h3, h4⟩ := hx
  rw [h.cell] at h2 h3 h4
  by_cases ho : o < 8
  · obtain rfl | rfl | rfl | rfl | rfl | rfl | rfl | rfl : o = 0 ∨ o = 1 ∨ o = 2 ∨ o = 3 ∨ o = 4 ∨ o = 5 ∨ o = 6 ∨ o = 7 := by omega
    all_goals simp at h2 h3 h4
  · rw [Array.getElem?_eq_none (by simp; omega)] at h4
    simp at h4
theorem Ls.apart {w : World} {v : Value} {l : List Ln} (hl : Ls w v l) {n : Nat} {t : TypeId} {i0 i1 i3 i4 i5 i7 i8 i9 i10 : Int} {p6 p11 : Bool} {sa : Option Addr} {sn sc : Nat}
    (h : Box w n t #[.int .i64 i0, .int .i64 i1, .slice sa sn sc, .int .i64 i3, .int .i64 i4, .int .i64 i5, .bool p6, .int .i64 i7, .int .i64 i8, .int .i64 i9, .int .i64 i10, .bool p11]) : Apart v l n := by
  obtain ⟨a, cap, rfl, _, _, hl⟩ := hl
  rcases hl with rfl | ⟨b, o, rfl, _, hc⟩
  · exact .inl rfl
  · by_cases h0 : l = []
    · exact .inl h0
    · refine .inr fun b' o' k c e => ?_
      simp only [Value.slice.injEq, Option.some.injEq, Addr.mk.injEq, and_true] at e
      obtain ⟨⟨rfl, rfl⟩, -⟩ := e
      rintro rfl
      exact atL_bridge h (hc 0 (List.length_pos_iff.2 h0))
theorem Ls.putAt {w : World} {v : Value} {l : List Ln} (h : Ls w v l) {n : Nat} (ha : Apart v l n) (i : Nat) (u : Value) : Ls (w.setCell ⟨n, i, none⟩ u) v l := by
  obtain ⟨a, cap, rfl, hl, hm, h⟩ := h
  refine ⟨a, cap, rfl, hl, hm, ?_⟩
  rcases h with h | ⟨b, o, rfl, hlt, hc⟩
  · exact .inl h
  · rcases ha with ha | ha
    · exact .inl ha
    · refine .inr ⟨b, o, rfl, by simpa [World.setCell] using hlt, fun j hj => (hc j hj).other fun j' _ e => ?_⟩
      simp only [Addr.mk.injEq] at e
      exact ha b o _ _ rfl e.1.symm
theorem Ls.put12 {w : World} {v : Value} {l : List Ln} (h : Ls w v l) {n : Nat} (ha : Apart v l n) (u0 u1 u2 u3 u4 u5 u6 u7 u8 u9 u10 u11 : Value) :
    Ls ((((((((((((w.setCell ⟨n, 0, none⟩ u0).setCell ⟨n, 1, none⟩ u1).setCell ⟨n, 2, none⟩ u2).setCell ⟨n, 3, none⟩ u3).setCell ⟨n, 4, none⟩ u4).setCell ⟨n, 5, none⟩ u5).setCell ⟨n, 6, none⟩ u6).setCell ⟨n, 7, none⟩ u7).setCell ⟨n, 8, none⟩ u8).setCell ⟨n, 9, none⟩ u9).setCell ⟨n, 10, none⟩ u10).setCell ⟨n, 11, none⟩ u11) v l :=
  (((((((((((h.putAt ha 0 u0).putAt ha 1 u1).putAt ha 2 u2).putAt ha 3 u3).putAt ha 4 u4).putAt ha 5 u5).putAt ha 6 u6).putAt ha 7 u7).putAt ha 8 u8).putAt ha 9 u9).putAt ha 10 u10).putAt ha 11 u11
theorem Ls.drew {w : World} {v : Value} {l : List Ln} (h : Ls w v l) : Ls w.drew v l := h
theorem fnd_nat {l : List Ln} {d p : Int} (h : 0 ≤ fndC l d p) : ∃ k : Nat, fndC l d p = k ∧ k < l.length ∧ lineC l d p = lth l k := by
  refine ⟨(fndC l d p).toNat, by omega, (fnd_line h).1, rfl⟩
theorem Ls.at {w : World} {v : Value} {l : List Ln} (h : Ls w v l) {k : Nat} (hk : k < l.length) : ∃ b o cap, v = .slice (some ⟨b, o, none⟩) l.length cap ∧ b < w.heap.size ∧ AtL w b (o + k * 5) (lth l k) := by
  obtain ⟨a, cap, rfl, _, _, h⟩ := h
  rcases h with rfl | ⟨b, o, rfl, hb, hc⟩
  · exact absurd hk (Nat.not_lt_zero _)
  · exact ⟨b, o, cap, rfl, hb, hc k hk⟩
set_option maxHeartbeats 4000000 in
theorem whileOn_found (v : Value) (zs : List Int) (mo ba op oh ot fe fp fh ft : Int) (st lo : Bool) (vc : Value) (l : List Ln) (d p : Int) (wr : Bool) (w : World) (hs : Sl w v zs) (h : Ls w vc l) (hf : 0 ≤ fndC l d p) :
    Calls Try.prog 50 #[.agg #[v], .agg #[.int .i64 mo, .int .i64 ba, vc, .int .i64 op, .int .i64 oh, .int .i64 ot, .bool st, .int .i64 fe, .int .i64 fp, .int .i64 fh, .int .i64 ft, .bool lo], .int .i64 d, .int .i64 p, .bool wr] w fun e w' =>
      e = .returned (.tuple #[.agg #[.int .i64 mo, .int .i64 ba, vc, .int .i64 op, .int .i64 oh, .int .i64 ot, .bool st, .int .i64 fe, .int .i64 fp, .int .i64 fh, .int .i64 ft, .bool lo], .int .i64 (if (wr && !(lineC l d p).2.2.2.2) = true then 0 else (lineC l d p).2.2.1), .int .i64 (if (wr && !(lineC l d p).2.2.2.2) = true then 5 else 0)]) ∧ Ls w' vc l ∧ Below w.heap.size w w' := by
  have HS : Hid (Ls w vc l) := h
  obtain ⟨va, vk, rfl, -⟩ := h.shape
  obtain ⟨k, hk, hkl, hli⟩ := fnd_nat hf
  obtain ⟨b, o, cap, he, hb, hat⟩ := h.at hkl
  simp only [Value.slice.injEq, true_and] at he
  obtain ⟨rfl, rfl⟩ := he
  rw [hli]
  clear h hf hli
  generalize lth l k = y at *
  obtain ⟨dy, py, ay, ry, xy⟩ := y
  dsimp only
  generalize hr1 : (if (wr && !xy) = true then 0 else ay) = r1
  generalize hr2 : (if (wr && !xy) = true then (5 : Int) else 0) = r2
  have HR1 : Hid (_ = _) := hr1
  have HR2 : Hid (_ = _) := hr2
  clear hr1 hr2
  obtain ⟨ma, mc, rfl⟩ := hs.shape
  go_enter Try.func50, Try.ntmps50
  go_wp2_with fail
  refine (cFind_any _ l d p _ (HS.out.keep (bel_alloc (bel_alloc (bel_alloc (Below.refl _ _) _) _) _))).mono ?_
  rintro e w1 ⟨rfl, b1⟩
  rw [hk]
  have X1 := ((Box.newAt (n := w.heap.size + 1) (by simp) 37 #[.int .i64 mo, .int .i64 ba, .slice (some ⟨b, o, none⟩) l.length vk, .int .i64 op, .int .i64 oh, .int .i64 ot, .bool st, .int .i64 fe, .int .i64 fp, .int .i64 fh, .int .i64 ft, .bool lo]).past _).keep b1
  have X2 := (Box.newAt (n := w.heap.size + 1 + 1) (by simp) 37 #[.int .i64 0, .int .i64 0, .slice none 0 0, .int .i64 0, .int .i64 0, .int .i64 0, .bool false, .int .i64 0, .int .i64 0, .int .i64 0, .int .i64 0, .bool false]).keep b1
  have B1 : Hid (Below w.heap.size w w1) := bel_trans (bel_alloc (bel_alloc (bel_alloc (Below.refl _ _) _) _) _) b1
  clear b1
  obtain ⟨⟨q0, q1, q2, q3, q4, q5, q6, q7, q8, q9, q10, q11⟩, s1⟩ := X1.twelve
  obtain ⟨⟨u0, u1, u2, u3, u4, u5, u6, u7, u8, u9, u10, u11⟩, s2⟩ := X2.twelve
  obtain ⟨y0, y1, y2, y3, y4, y5, y6, y7, y8, y9, y10, y11⟩ := X2.marks
  obtain ⟨g0, g1, g2, g3, g4⟩ := hat.keep B1.out hb
  have hb1 : b < w1.heap.size := Nat.lt_of_lt_of_le hb B1.out.size
  simp only at g0 g1 g2 g3 g4
  have hk0 : (0 : Int) ≤ k := by omega
  have hk1 : (k : Int) < l.length := by omega
  clear hk hat
  go_wp2_with fail
  refine (byLine_any dy py ay ry xy wr _).mono ?_
  rintro e w2 ⟨rfl, b2⟩
  rw [HR1.out, HR2.out]
  clear q0 q1 q2 q3 q4 q5 q6 q7 q8 q9 q10 q11 u0 u1 u2 u3 u4 u5 u6 u7 u8 u9 u10 u11 y0 y1 y2 y3 y4 y5 y6 y7 y8 y9 y10 y11 g0 g1 g2 g3 g4 s1 s2
  have X1 := X1.keep b2
  have X2 := X2.keep b2
  have B2 : Hid (Below w.heap.size w w2) := bel_trans B1.out b2
  clear b2 B1
  obtain ⟨⟨q0, q1, q2, q3, q4, q5, q6, q7, q8, q9, q10, q11⟩, s1⟩ := X1.twelve
  obtain ⟨⟨u0, u1, u2, u3, u4, u5, u6, u7, u8, u9, u10, u11⟩, s2⟩ := X2.twelve
  obtain ⟨y0, y1, y2, y3, y4, y5, y6, y7, y8, y9, y10, y11⟩ := X2.marks
  go_wp2
  have BE : Hid (Below w.heap.size w _) := bel_set12 (a := w) (w := w2) (m := w.heap.size + 1 + 1) (by omega) B2.out (.int .i64 mo) (.int .i64 ba) (.slice (some ⟨b, o, none⟩) l.length vk) (.int .i64 op) (.int .i64 oh) (.int .i64 ot) (.bool st) (.int .i64 fe) (.int .i64 fp) (.int .i64 fh) (.int .i64 ft) (.bool lo)
  refine bodyPost_ret (v := .tuple #[.agg #[.int .i64 mo, .int .i64 ba, .slice (some ⟨b, o, none⟩) l.length vk, .int .i64 op, .int .i64 oh, .int .i64 ot, .bool st, .int .i64 fe, .int .i64 fp, .int .i64 fh, .int .i64 ft, .bool lo], .int .i64 r1, .int .i64 r2]) (by simp [results, Try.results50, go_sem, *]) rfl ⟨rfl, HS.out.keep BE.out, BE.out⟩
end Go.Proofs.Ythlhocneggcekaa
