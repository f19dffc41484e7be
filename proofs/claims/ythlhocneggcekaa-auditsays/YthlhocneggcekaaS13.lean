/-
  AuditSays holds, with no condition: any touch is checked, and held against any machines, as the document says, errors too.
  Laid together: OpenMc, OpenMs, AuditSays.
-/
import Derived.Test.YthlhocneggcekaaS1
import Derived.Test.YthlhocneggcekaaS2
import Derived.Test.YthlhocneggcekaaS3
import Derived.Test.YthlhocneggcekaaS4
import Derived.Test.YthlhocneggcekaaS5
import Derived.Test.YthlhocneggcekaaS6
import Derived.Test.YthlhocneggcekaaS7
import Derived.Test.YthlhocneggcekaaS8
import Derived.Test.YthlhocneggcekaaS9
import Derived.Test.YthlhocneggcekaaS10
import Derived.Test.YthlhocneggcekaaS11
import Derived.Test.YthlhocneggcekaaS12
import Derived.Laws.CopyOwn
import Derived.Deep.RegionHeld3
import Derived.Deep.RegionWith
import Derived.LoopN
import Derived.Deep.CutRange
import Derived.ProofKit
import Derived.OpenShut
import Derived.ShutString
import Derived.ChangeOld
import Derived.Deep.AppendLies
import Derived.Deep.DrawnRows
import Derived.Deep.Slices
import Derived.Test.YthlhocneggcekaaRows
import Derived.WalkKit
import Derived.WalkSpells
import Derived.WalkLawsBesides
import Derived.Below
import Derived.WalkSmall
import Derived.Deep.QuietTactic
import Derived.BigQuiet
import Derived.Deep.Draws
import Derived.Deep.RegionHeld
import Derived.Maps.OwnOps
import Derived.Maps.OwnSet
namespace Go.Proofs.Ythlhocneggcekaa
open Go.ChangeShapes Go.WideShapes Go.ChangeAt Go.RowKit
theorem machine_cells : Try.prog.cellsOf 39 = 16 := by kernel_rfl
theorem array16 {cs : List Value} (h : cs.length = 16) : ∃ c0 c1 c2 c3 c4 c5 c6 c7 c8 c9 c10 c11 c12 c13 c14 c15, cs = [c0, c1, c2, c3, c4, c5, c6, c7, c8, c9, c10, c11, c12, c13, c14, c15] := by
  match cs, h with
  | [c0, c1, c2, c3, c4, c5, c6, c7, c8, c9, c10, c11, c12, c13, c14, c15], _ => exact ⟨c0, c1, c2, c3, c4, c5, c6, c7, c8, c9, c10, c11, c12, c13, c14, c15, rfl⟩
section
variable {H : Type} {enc : TypeId × Value → H} {W : World}
set_option maxRecDepth 100000 in
theorem mem_open {fuel : Nat} {cs : List Value} {x : DataW H × List MemPlace} (h : DataW.trod enc Try.prog W 0 (fun _ => true) true fuel 30 cs = some x) : ∃ u zs, cs = [u] ∧ Sl W u zs := by
  obtain ⟨xs, n, _, _, hl, hlen, hf⟩ := DataW.trod_struct Try.underlying30 h
  rw [mem_cells] at hl
  match cs, hl with
  | [c0], _ =>
    obtain ⟨y0, hy0⟩ : ∃ y, xs[0]? = some y := by
      rw [List.getElem?_eq_getElem (by rw [hlen]; decide)]; simp
    obtain ⟨zs, hs⟩ := open_row (c0 := c0) (x := y0) (by rw [← hy0]; simpa [slice_cells] using hf 0 _ rfl)
    exact ⟨c0, zs, rfl, hs⟩
set_option maxRecDepth 100000 in
theorem hart_open {fuel : Nat} {cs : List Value} {x : DataW H × List MemPlace} (h : DataW.trod enc Try.prog W 0 (fun _ => true) true fuel 32 cs = some x) : ∃ a u l b, cs = [.int .i64 a, u, .bool b] ∧ Sl W u l := by
  obtain ⟨xs, n, _, _, hl, hlen, hf⟩ := DataW.trod_struct Try.underlying32 h
  rw [hart_cells] at hl
  obtain ⟨c0, c1, c2, rfl⟩ := array3 hl
  have some_at : ∀ i, i < 3 → ∃ y, xs[i]? = some y := fun i hi => by
    rw [List.getElem?_eq_getElem (by rw [hlen]; exact hi)]; simp
  have ne_at : ∀ i, i < 3 → xs[i]? ≠ none := fun i hi => by
    obtain ⟨y, hy⟩ := some_at i hi; rw [hy]; simp
  obtain ⟨a, rfl⟩ := cell_int (by simpa [int_cells, bool_cells, slice_cells, lines_cells, ring_cells, mem_cells, hart_cells, bri_cells] using hf 0 _ rfl) (ne_at 0 (by omega))
  obtain ⟨y1, hy1⟩ := some_at 1 (by omega)
  obtain ⟨l, hL⟩ := open_row (c0 := c1) (x := y1) (by rw [← hy1]; simpa [int_cells, bool_cells, slice_cells, lines_cells, ring_cells, mem_cells, hart_cells, bri_cells] using hf 1 _ rfl)
  obtain ⟨b, rfl⟩ := cell_bool (by simpa [int_cells, bool_cells, slice_cells, lines_cells, ring_cells, mem_cells, hart_cells, bri_cells] using hf 2 _ rfl) (ne_at 2 (by omega))
  exact ⟨a, c1, l, b, rfl, hL⟩
set_option maxRecDepth 100000 in
theorem bri_open {fuel : Nat} {cs : List Value} {x : DataW H × List MemPlace} (h : DataW.trod enc Try.prog W 0 (fun _ => true) true fuel 37 cs = some x) : ∃ mo ba op oh ot fe fp fh ft st lo vc l, cs = [.int .i64 mo, .int .i64 ba, vc, .int .i64 op, .int .i64 oh, .int .i64 ot, .bool st, .int .i64 fe, .int .i64 fp, .int .i64 fh, .int .i64 ft, .bool lo] ∧ Ls W vc l := by
  obtain ⟨xs, n, _, _, hl, hlen, hf⟩ := DataW.trod_struct Try.underlying37 h
  rw [bri_cells] at hl
  obtain ⟨c0, c1, c2, c3, c4, c5, c6, c7, c8, c9, c10, c11, rfl⟩ := array12 hl
  have some_at : ∀ i, i < 8 → ∃ y, xs[i]? = some y := fun i hi => by
    rw [List.getElem?_eq_getElem (by rw [hlen]; exact hi)]; simp
  have ne_at : ∀ i, i < 8 → xs[i]? ≠ none := fun i hi => by
    obtain ⟨y, hy⟩ := some_at i hi; rw [hy]; simp
  obtain ⟨mo, rfl⟩ := cell_int (by simpa [int_cells, bool_cells, slice_cells, lines_cells, ring_cells, mem_cells, hart_cells, bri_cells] using hf 0 _ rfl) (ne_at 0 (by omega))
  obtain ⟨ba, rfl⟩ := cell_int (by simpa [int_cells, bool_cells, slice_cells, lines_cells, ring_cells, mem_cells, hart_cells, bri_cells] using hf 1 _ rfl) (ne_at 1 (by omega))
  obtain ⟨y2, hy2⟩ := some_at 2 (by omega)
  obtain ⟨l, hL⟩ := lines_row (c0 := c2) (x := y2) (by rw [← hy2]; simpa [int_cells, bool_cells, slice_cells, lines_cells, ring_cells, mem_cells, hart_cells, bri_cells] using hf 2 _ rfl)
  obtain ⟨y3, hy3⟩ := some_at 3 (by omega)
  obtain ⟨op, oh, ot, e3⟩ := ring_open (cs := [c3, c4, c5]) (x := y3) (by rw [← hy3]; simpa [int_cells, bool_cells, slice_cells, lines_cells, ring_cells, mem_cells, hart_cells, bri_cells] using hf 3 _ rfl)
  obtain ⟨st, rfl⟩ := cell_bool (by simpa [int_cells, bool_cells, slice_cells, lines_cells, ring_cells, mem_cells, hart_cells, bri_cells] using hf 4 _ rfl) (ne_at 4 (by omega))
  obtain ⟨fe, rfl⟩ := cell_int (by simpa [int_cells, bool_cells, slice_cells, lines_cells, ring_cells, mem_cells, hart_cells, bri_cells] using hf 5 _ rfl) (ne_at 5 (by omega))
  obtain ⟨y6, hy6⟩ := some_at 6 (by omega)
  obtain ⟨fp, fh, ft, e6⟩ := ring_open (cs := [c8, c9, c10]) (x := y6) (by rw [← hy6]; simpa [int_cells, bool_cells, slice_cells, lines_cells, ring_cells, mem_cells, hart_cells, bri_cells] using hf 6 _ rfl)
  obtain ⟨lo, rfl⟩ := cell_bool (by simpa [int_cells, bool_cells, slice_cells, lines_cells, ring_cells, mem_cells, hart_cells, bri_cells] using hf 7 _ rfl) (ne_at 7 (by omega))
  simp only [List.cons.injEq, and_true] at e3 e6
  obtain ⟨rfl, rfl, rfl⟩ := e3
  obtain ⟨rfl, rfl, rfl⟩ := e6
  exact ⟨mo, ba, op, oh, ot, fe, fp, fh, ft, st, lo, c2, l, rfl, hL⟩
set_option maxRecDepth 100000 in
theorem mch_open {fuel : Nat} {cs : List Value} {x : DataW H × List MemPlace} (h : DataW.trod enc Try.prog W 0 (fun _ => true) true fuel 39 cs = some x) :
    ∃ v zs p u r d mo ba op oh ot fe fp fh ft st lo vc l, cs = [v, .int .i64 p, u, .bool d, .int .i64 mo, .int .i64 ba, vc, .int .i64 op, .int .i64 oh, .int .i64 ot, .bool st, .int .i64 fe, .int .i64 fp, .int .i64 fh, .int .i64 ft, .bool lo] ∧ Sl W v zs ∧ Sl W u r ∧ Ls W vc l := by
  obtain ⟨xs, n, _, _, hl, hlen, hf⟩ := DataW.trod_struct Try.underlying39 h
  rw [machine_cells] at hl
  obtain ⟨c0, c1, c2, c3, c4, c5, c6, c7, c8, c9, c10, c11, c12, c13, c14, c15, rfl⟩ := array16 hl
  have some_at : ∀ i, i < 3 → ∃ y, xs[i]? = some y := fun i hi => by
    rw [List.getElem?_eq_getElem (by rw [hlen]; exact hi)]; simp
  have ne_at : ∀ i, i < 3 → xs[i]? ≠ none := fun i hi => by
    obtain ⟨y, hy⟩ := some_at i hi; rw [hy]; simp
  obtain ⟨y0, hy0⟩ := some_at 0 (by omega)
  obtain ⟨v, zs, e0, hM⟩ := mem_open (cs := [c0]) (x := y0) (by rw [← hy0]; simpa [int_cells, bool_cells, slice_cells, lines_cells, ring_cells, mem_cells, hart_cells, bri_cells] using hf 0 _ rfl)
  obtain ⟨y1, hy1⟩ := some_at 1 (by omega)
  obtain ⟨p, u, r, d, e1, hR⟩ := hart_open (cs := [c1, c2, c3]) (x := y1) (by rw [← hy1]; simpa [int_cells, bool_cells, slice_cells, lines_cells, ring_cells, mem_cells, hart_cells, bri_cells] using hf 1 _ rfl)
  obtain ⟨y2, hy2⟩ := some_at 2 (by omega)
  obtain ⟨mo, ba, op, oh, ot, fe, fp, fh, ft, st, lo, vc, l, e2, hL⟩ := bri_open (cs := [c4, c5, c6, c7, c8, c9, c10, c11, c12, c13, c14, c15]) (x := y2) (by rw [← hy2]; simpa [int_cells, bool_cells, slice_cells, lines_cells, ring_cells, mem_cells, hart_cells, bri_cells] using hf 2 _ rfl)
  simp only [List.cons.injEq, and_true] at e0 e1 e2
  obtain rfl := e0
  obtain ⟨rfl, rfl, rfl⟩ := e1
  obtain ⟨rfl, rfl, rfl, rfl, rfl, rfl, rfl, rfl, rfl, rfl, rfl, rfl⟩ := e2
  exact ⟨c0, zs, p, c2, r, d, mo, ba, op, oh, ot, fe, fp, fh, ft, st, lo, c6, l, rfl, hM, hR, hL⟩
end
end Go.Proofs.Ythlhocneggcekaa
namespace Go.Proofs.Ythlhocneggcekaa
open Go.ChangeShapes Go.WideShapes Go.ChangeAt Go.RowKit
theorem touch_cells : Try.prog.cellsOf 24 = 5 := by kernel_rfl
section
variable {H : Type} {enc : TypeId × Value → H} {W : World}
theorem choose_mc {P : Nat → Mc → Prop} : ∀ n, (∀ i, i < n → ∃ y, P i y) → ∃ l : List Mc, l.length = n ∧ ∀ i, i < n → P i (mth l i)
  | 0, _ => ⟨[], rfl, fun i hi => absurd hi (Nat.not_lt_zero _)⟩
  | n + 1, h => by
    obtain ⟨l, hl, hp⟩ := choose_mc n fun i hi => h i (by omega)
    obtain ⟨y, hy⟩ := h n (by omega)
    refine ⟨l ++ [y], by simp [hl], fun i hi => ?_⟩
    by_cases e : i = n
    · subst e
      have : mth (l ++ [y]) i = y := by simp [mth, ← hl]
      rw [this]; exact hy
    · have : mth (l ++ [y]) i = mth l i := by
        have hi' : i < l.length := by omega
        simp [mth, List.getElem?_append_left hi']
      rw [this]; exact hp i (by omega)
set_option maxRecDepth 100000 in
theorem mcs_row {fuel : Nat} {c0 : Value} {x : DataW H × List MemPlace} (h : DataW.trod enc Try.prog W 0 (fun _ => true) true fuel 22 [c0] = some x) : ∃ l, Ms W c0 l := by
  rcases Deep.open_slice Try.underlying22 h with ⟨hcs, _⟩ | ⟨a, len, cap, m, n, D, Pl, hcs, hb, hl, hm, hmm, _, hx⟩
  · simp only [List.cons.injEq, and_true] at hcs
    subst hcs
    exact ⟨[], Ms.nil _ _ _ (Nat.zero_le _)⟩
  · simp only [List.cons.injEq, and_true] at hcs
    subst hcs
    simp only [if_true] at hmm
    rw [machine_cells] at hx
    by_cases h0 : len = 0
    · subst h0
      exact ⟨[], Ms.nil _ _ _ hm⟩
    · obtain ⟨b, off, spot⟩ := a
      have each : ∀ i, i < len → ∃ y : Mc, ∃ cs : Array Value, IsM W y cs ∧ ∀ j z, cs[j]? = some z → W.cell? ((⟨b, off, spot⟩ : Addr).add (i * 16 + j)) = some z := by
        intro i hi
        obtain ⟨cs', h1, h2⟩ := hx i (by omega)
        obtain ⟨v, zs, p, u, r, d, mo, ba, op, oh, ot, fe, fp, fh, ft, st, lo, vc, l, rfl, hM, hR, hL⟩ := mch_open h2
        obtain ⟨_, _, hcell⟩ := World.cells?_some h1
        refine ⟨⟨zs, ⟨p, r, d⟩, ⟨mo, ba, l, op, oh, ot, st, fe, fp, fh, ft, lo⟩⟩, #[v, .int .i64 p, u, .bool d, .int .i64 mo, .int .i64 ba, vc, .int .i64 op, .int .i64 oh, .int .i64 ot, .bool st, .int .i64 fe, .int .i64 fp, .int .i64 fh, .int .i64 ft, .bool lo], isM_any ⟨hM, hR, hL⟩, fun j z hu => ?_⟩
        have hj : j < 16 := by
          rcases Nat.lt_or_ge j 16 with k | k
          · exact k
          · rw [Array.getElem?_eq_none (by simpa using k)] at hu; exact absurd hu (by simp)
        have := hcell j (by omega)
        rw [Deep.add_add] at this
        rw [this]
        rw [← Array.getElem?_toList] at hu
        exact hu
      obtain ⟨l, hlen, hp⟩ := choose_mc len each
      obtain ⟨cs0, hM0, hc0⟩ := hp 0 (by omega)
      have hc : ∃ z, W.cell? ((⟨b, off, spot⟩ : Addr).add (0 * 16 + 0)) = some z := by
        obtain ⟨a1, n1, c1, a2, n2, c2, a3, n3, c3, rfl, -⟩ := hM0
        exact ⟨_, hc0 0 _ rfl⟩
      obtain ⟨z0, hc⟩ := hc
      have hspot : spot = none := by simpa [Addr.add] using World.cell?_spot hc
      subst hspot
      have ha : ∀ i, Addr.add ⟨b, off, none⟩ i = ⟨b, off + i, none⟩ := fun i => by unfold Addr.add; split <;> simp_all
      refine ⟨l, _, cap, by rw [hlen], by omega, hm, .inr ⟨b, off, rfl, ?_, fun i hi => ?_⟩⟩
      · have := World.block_lt_of_cell? W _ hc
        simpa [Addr.add] using this
      · rw [hlen] at hi
        obtain ⟨cs, hM, hq⟩ := hp i hi
        refine ⟨cs, hM, fun j z hz => ?_⟩
        have := hq j z hz
        rw [ha, ← Nat.add_assoc] at this
        exact this
set_option maxRecDepth 100000 in
theorem open_mcs {b0 : Nat} {v : Value} {d : DataW H} {p : List MemPlace} (hv : Value.okWide Try.prog W .any b0 22 v) (h : DataW.Trod enc Try.prog W 0 (fun _ => true) true 22 v d p) :
    ∃ l, Ms W v l := by
  obtain ⟨fuel, hf⟩ := h
  have hone : v.cells.toList = [v] := by
    simp only [Value.okWide, Try.underlying22, Cell.okWide] at hv
    cases v <;> simp_all [Value.cells, Cell.ok]
  rw [hone] at hf
  exact mcs_row hf
set_option maxRecDepth 100000 in
theorem open_tch {b0 : Nat} {v : Value} {d : DataW H} {p : List MemPlace} (hv : Value.okWide Try.prog W .any b0 24 v) (h : DataW.Trod enc Try.prog W 0 (fun _ => true) true 24 v d p) :
    ∃ a b c e g, v = .agg #[.int .i64 a, .int .i64 b, .int .i64 c, .bool e, .int .i64 g] := by
  obtain ⟨cs, rfl, _⟩ := okWide_struct Try.underlying24 hv
  obtain ⟨fuel, hf⟩ := h
  obtain ⟨xs, n, _, _, hl, hlen, hf⟩ := DataW.trod_struct Try.underlying24 hf
  rw [touch_cells] at hl
  obtain ⟨y⟩ := cs
  simp only [Value.cells] at hl hf
  obtain ⟨c0, c1, c2, c3, c4, rfl⟩ := array5 hl
  have ne_at : ∀ i, i < 5 → xs[i]? ≠ none := fun i hi => by
    rw [List.getElem?_eq_getElem (by rw [hlen]; exact hi)]; simp
  obtain ⟨a, rfl⟩ := cell_int (by simpa [int_cells, bool_cells] using hf 0 _ rfl) (ne_at 0 (by omega))
  obtain ⟨b, rfl⟩ := cell_int (by simpa [int_cells, bool_cells] using hf 1 _ rfl) (ne_at 1 (by omega))
  obtain ⟨c, rfl⟩ := cell_int (by simpa [int_cells, bool_cells] using hf 2 _ rfl) (ne_at 2 (by omega))
  obtain ⟨e, rfl⟩ := cell_bool (by simpa [int_cells, bool_cells] using hf 3 _ rfl) (ne_at 3 (by omega))
  obtain ⟨g, rfl⟩ := cell_int (by simpa [int_cells, bool_cells] using hf 4 _ rfl) (ne_at 4 (by omega))
  exact ⟨a, b, c, e, g, rfl⟩
end
end Go.Proofs.Ythlhocneggcekaa
namespace Go.Proofs.Ythlhocneggcekaa
open Go.ChangeShapes Go.WideShapes Go.ChangeAt Go.RowKit
set_option linter.unusedVariables false
set_option maxRecDepth 100000 in
theorem asays_lifted (os : Os) (started : os.Started) (H : Type) (enc : TypeId × Value → H) :
    ReturnsInHanded {} Try.checked os 3 .any (Rows.auditSaysSpec.pre6 enc Try.prog Try.f3 Rows.auditSaysRow.domain false) (Rows.auditSaysSpec.post enc Try.prog Try.f3 false true false false) := by
  refine returnsInHanded_of_change (C := Try.checked) law_own started (by kernel_rfl) Try.func3
    (ChangeSpec.witness6 (enc := enc) (C := Try.checked) false ⟨#[], #[.slice none 0 0, .agg #[.int .i64 0, .int .i64 0, .int .i64 0, .bool false, .int .i64 0]], []⟩ 8 (by kernel_rfl) (by kernel_rfl) (by kernel_rfl) (by kernel_rfl)) ?_
  intro W base args ds gs before hval0 hW hcnd _
  have hval : ∀ (j : Nat) t v, Try.f3.params[j]? = some t → args[j]? = some v → Value.okWide Try.prog W .any base t v := hval0
  have hW' := hW
  obtain ⟨p, q, hA0, hV, rfl, hfz, hnd⟩ := hW
  have hA : DataW.TrodAll enc Try.prog W 0 (fun _ => true) true Try.f3.params.toList args.toList ds p := hA0
  rw [Try.params3] at hA hval
  obtain ⟨v0, vs0, d0, ds0, p0, q0, hargs, rfl, rfl, h0, r0⟩ := trodAll_cons hA
  obtain ⟨v1, vs1, d1, ds1, p1, q1, rfl, rfl, rfl, h1, r1⟩ := trodAll_cons r0
  obtain ⟨rfl, rfl, rfl⟩ := trodAll_nil r1
  obtain rfl : args = #[v0, v1] := by cases args; simp_all
  obtain ⟨rfl, rfl⟩ := trodVars_none hV
  have k0 := h0
  have lt0 : ∀ x ∈ p0, x.block < W.heap.size := by obtain ⟨m, hm⟩ := k0; exact DataW.trod_lt m _ _ _ hm
  have k1 := h1
  have lt1 : ∀ x ∈ p1, x.block < W.heap.size := by obtain ⟨m, hm⟩ := k1; exact DataW.trod_lt m _ _ _ hm
  obtain ⟨l0, s0⟩ := open_mcs (hval 0 22 v0 rfl rfl) h0
  obtain ⟨b1, c1, g1, f1, n1, rfl⟩ := open_tch (hval 1 24 v1 rfl rfl) h1
  clear hA0 hval0
  refine (asays_walk v0 l0 b1 c1 g1 f1 n1 W s0).mono fun e W' ⟨he, bel⟩ => ?_
  subst he
  exact ⟨_, rfl, _, _, _, [], _, [], hW', trodAll_mk1 (shut_bool Try.underlying4 _), (trodAll_cons_mk (Below.trod law_laidOut (by kernel_rfl) (of_decide_eq_true (by kernel_rfl)) k0 bel lt0) (trodAll_cons_mk (Below.trod law_laidOut (by kernel_rfl) (of_decide_eq_true (by kernel_rfl)) k1 bel lt1) trodAll_mk0)), rfl, bel.frame _, fun h => by cases h⟩
theorem asays_over : Rows.auditSaysRow.holds Try.pinned (OpenSpec.ofChange Rows.auditSaysSpec) :=
  OpenClaim.holds_of_wide 3 Try.f3 rfl rfl rfl rfl rfl rfl rfl ⟨rfl, rfl, rfl, rfl, rfl⟩ rfl rfl rfl rfl rfl (by kernel_rfl) Try.func3 (by kernel_rfl)
    (of_decide_eq_true (by kernel_rfl)) (by unfold Func.isWrapper; first | (rw [if_pos (by decide +kernel)]; kernel_rfl) | (rw [if_neg (by decide +kernel)]; exact ⟨rfl, rfl⟩))
    (fun os started H enc _ => asays_lifted os started H enc)
theorem asays_holds : Rows.AuditSaysSaid := asays_over
#print axioms asays_holds
end Go.Proofs.Ythlhocneggcekaa
