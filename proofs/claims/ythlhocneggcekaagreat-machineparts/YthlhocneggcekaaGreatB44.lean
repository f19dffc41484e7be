/-
  Laid together: OpenR, OpenB, OpenI, OpenA, OpenM, PlainB.
-/
import Derived.Test.YthlhocneggcekaaGreatB1
import Derived.Test.YthlhocneggcekaaGreatB2
import Derived.Test.YthlhocneggcekaaGreatB3
import Derived.Test.YthlhocneggcekaaGreatB4
import Derived.Test.YthlhocneggcekaaGreatB5
import Derived.Test.YthlhocneggcekaaGreatB6
import Derived.Test.YthlhocneggcekaaGreatB7
import Derived.Test.YthlhocneggcekaaGreatB8
import Derived.Test.YthlhocneggcekaaGreatB9
import Derived.Test.YthlhocneggcekaaGreatB10
import Derived.Test.YthlhocneggcekaaGreatB11
import Derived.Test.YthlhocneggcekaaGreatB12
import Derived.Test.YthlhocneggcekaaGreatB13
import Derived.Test.YthlhocneggcekaaGreatB30
import Derived.Test.YthlhocneggcekaaGreatB34
import Derived.Test.YthlhocneggcekaaGreatB41
import Derived.Test.YthlhocneggcekaaGreatB43
import Derived.ProofKit
import Derived.OpenShut
import Derived.ShutString
import Derived.ChangeOld
import Derived.Test.YthlhocneggcekaaGreatRows
import Derived.WalkKit
import Derived.WalkSpells
import Derived.WalkLawsBesides
import Derived.Below
import Derived.WalkSmall
import Derived.Deep.QuietTactic
import Derived.BigQuiet
import Derived.Deep.Draws
import Derived.Deep.Slices
import Derived.Laws.CopyOwn
import Derived.Deep.AppendLies
import Derived.Maps.OwnOps
import Derived.Maps.OwnSet
import Derived.Deep.RegionWith
import Derived.LoopN
import Derived.Deep.CutRange
import Derived.Deep.RegionHeld3
import Derived.Deep.DrawnRows
namespace Go.Proofs.YthlhocneggcekaaGreat
open Go.ChangeShapes Go.WideShapes Go.ChangeAt Go.RowKit
theorem ring_cells : Tryz.prog.cellsOf 29 = 3 := by kernel_rfl
section
variable {H : Type} {enc : TypeId × Value → H} {W : World}
set_option maxRecDepth 100000 in
theorem ring_open {fuel : Nat} {cs : List Value} {x : DataW H × List MemPlace} (h : DataW.trod enc Tryz.prog W 0 (fun _ => true) true fuel 29 cs = some x) :
    ∃ a b p, cs = [J a, J b, J p] := by
  obtain ⟨xs, n, _, _, hl, hlen, hf⟩ := DataW.trod_struct Tryz.underlying29 h
  rw [ring_cells] at hl
  obtain ⟨c0, c1, c2, rfl⟩ := array3 hl
  have some_at : ∀ i, i < 3 → xs[i]? ≠ none := fun i hi => by
    rw [List.getElem?_eq_getElem (by rw [hlen]; exact hi)]; simp
  obtain ⟨a, rfl⟩ := cell_int (by simpa [int_cells] using hf 0 _ rfl) (some_at 0 (by omega))
  obtain ⟨b, rfl⟩ := cell_int (by simpa [int_cells] using hf 1 _ rfl) (some_at 1 (by omega))
  obtain ⟨p, rfl⟩ := cell_int (by simpa [int_cells] using hf 2 _ rfl) (some_at 2 (by omega))
  exact ⟨a, b, p, rfl⟩
end
end Go.Proofs.YthlhocneggcekaaGreat
namespace Go.Proofs.YthlhocneggcekaaGreat
open Go.ChangeShapes Go.WideShapes Go.ChangeAt Go.RowKit
theorem bri_cells : Tryz.prog.cellsOf 31 = 12 := by kernel_rfl
theorem lines_cells : Tryz.prog.cellsOf 27 = 1 := by kernel_rfl
theorem array12 {cs : List Value} (h : cs.length = 12) : ∃ c0 c1 c2 c3 c4 c5 c6 c7 c8 c9 c10 c11, cs = [c0, c1, c2, c3, c4, c5, c6, c7, c8, c9, c10, c11] := by
  match cs, h with
  | [c0, c1, c2, c3, c4, c5, c6, c7, c8, c9, c10, c11], _ => exact ⟨c0, c1, c2, c3, c4, c5, c6, c7, c8, c9, c10, c11, rfl⟩
section
variable {H : Type} {enc : TypeId × Value → H} {W : World}
end
end Go.Proofs.YthlhocneggcekaaGreat
namespace Go.Proofs.YthlhocneggcekaaGreat
open Go.ChangeShapes Go.WideShapes Go.ChangeAt Go.RowKit
section
variable {H : Type} {enc : TypeId × Value → H} {W : World}
set_option maxRecDepth 100000 in
theorem lst_row {fuel : Nat} {c0 : Value} {x : DataW H × List MemPlace} (h : DataW.trod enc Tryz.prog W 0 (fun _ => true) true fuel 22 [c0] = some x) : ∃ zs, Slc W c0 zs := by
  rcases open_ints Tryz.underlying22 Tryz.underlying3 int_cells h with ⟨hcs, _⟩ | ⟨a, len, cap, zs, hcs, _, hl, hm, hz, _, hcell, _⟩
  · simp only [List.cons.injEq, and_true] at hcs
    subst hcs
    exact ⟨[], Sl.nil _ _ _, _, _, rfl, by simp, by simp [maxLen]⟩
  · simp only [List.cons.injEq, and_true] at hcs
    subst hcs
    simp only [if_true] at hz
    by_cases h0 : len = 0
    · subst h0
      exact ⟨[], Sl.nil _ _ _, _, _, rfl, by simp, by omega⟩
    · obtain ⟨b, off, spot⟩ := a
      have hc := hcell 0 (by omega)
      have hspot : spot = none := by simpa [Addr.add] using World.cell?_spot hc
      subst hspot
      have hlen : (zs.take len).length = len := by simp; omega
      refine ⟨zs.take len, ⟨_, cap, by rw [hlen], by omega, .inr ⟨b, off, rfl, ?_, fun i hi => ?_⟩⟩, _, cap, by rw [hlen], by omega, by omega⟩
      · have := World.block_lt_of_cell? W _ hc
        simpa [Addr.add] using this
      · have ha : Addr.add ⟨b, off, none⟩ i = ⟨b, off + i, none⟩ := by unfold Addr.add; split <;> simp_all
        have := hcell i (by omega)
        rw [ha] at this
        rw [this]
        have hi' : i < len := by omega
        simp [nth, hi']
end
end Go.Proofs.YthlhocneggcekaaGreat
namespace Go.Proofs.YthlhocneggcekaaGreat
open Go.ChangeShapes Go.WideShapes Go.ChangeAt Go.RowKit
theorem ask_cells : Tryz.prog.cellsOf 35 = 5 := by kernel_rfl
section
variable {H : Type} {enc : TypeId × Value → H} {W : World}
end
end Go.Proofs.YthlhocneggcekaaGreat
namespace Go.Proofs.YthlhocneggcekaaGreat
open Go.ChangeShapes Go.WideShapes Go.ChangeAt Go.RowKit
theorem machine_cells : Tryz.prog.cellsOf 33 = 16 := by kernel_rfl
theorem happening_cells : Tryz.prog.cellsOf 37 = 7 := by kernel_rfl
theorem array16 {cs : List Value} (h : cs.length = 16) : ∃ c0 c1 c2 c3 c4 c5 c6 c7 c8 c9 c10 c11 c12 c13 c14 c15, cs = [c0, c1, c2, c3, c4, c5, c6, c7, c8, c9, c10, c11, c12, c13, c14, c15] := by
  match cs, h with
  | [c0, c1, c2, c3, c4, c5, c6, c7, c8, c9, c10, c11, c12, c13, c14, c15], _ => exact ⟨c0, c1, c2, c3, c4, c5, c6, c7, c8, c9, c10, c11, c12, c13, c14, c15, rfl⟩
theorem array7 {cs : List Value} (h : cs.length = 7) : ∃ c0 c1 c2 c3 c4 c5 c6, cs = [c0, c1, c2, c3, c4, c5, c6] := by
  match cs, h with
  | [c0, c1, c2, c3, c4, c5, c6], _ => exact ⟨c0, c1, c2, c3, c4, c5, c6, rfl⟩
section
variable {H : Type} {enc : TypeId × Value → H} {W : World}
set_option maxRecDepth 100000 in
theorem mem_open {fuel : Nat} {cs : List Value} {x : DataW H × List MemPlace} (h : DataW.trod enc Tryz.prog W 0 (fun _ => true) true fuel 24 cs = some x) : ∃ u zs, cs = [u] ∧ Sl W u zs := by
  obtain ⟨xs, n, _, _, hl, hlen, hf⟩ := DataW.trod_struct Tryz.underlying24 h
  rw [mem_cells] at hl
  match cs, hl with
  | [c0], _ =>
    obtain ⟨y0, hy0⟩ : ∃ y, xs[0]? = some y := by
      rw [List.getElem?_eq_getElem (by rw [hlen]; decide)]; simp
    obtain ⟨zs, hs⟩ := open_row (c0 := c0) (x := y0) (by rw [← hy0]; simpa [slice_cells] using hf 0 _ rfl)
    exact ⟨c0, zs, rfl, hs⟩
set_option maxRecDepth 100000 in
theorem hart_open {fuel : Nat} {cs : List Value} {x : DataW H × List MemPlace} (h : DataW.trod enc Tryz.prog W 0 (fun _ => true) true fuel 26 cs = some x) : ∃ a u l b, cs = [J a, u, .bool b] ∧ Sl W u l := by
  obtain ⟨xs, n, _, _, hl, hlen, hf⟩ := DataW.trod_struct Tryz.underlying26 h
  rw [hart_cells] at hl
  obtain ⟨c0, c1, c2, rfl⟩ := array3 hl
  have some_at : ∀ i, i < 3 → ∃ y, xs[i]? = some y := fun i hi => by
    rw [List.getElem?_eq_getElem (by rw [hlen]; exact hi)]; simp
  have ne_at : ∀ i, i < 3 → xs[i]? ≠ none := fun i hi => by
    obtain ⟨y, hy⟩ := some_at i hi; rw [hy]; simp
  obtain ⟨a, rfl⟩ := cell_int (by simpa [int_cells, bool_cells, slice_cells, lines_cells, ring_cells, mem_cells, hart_cells, bri_cells, ask_cells] using hf 0 _ rfl) (ne_at 0 (by omega))
  obtain ⟨y1, hy1⟩ := some_at 1 (by omega)
  obtain ⟨l, hL⟩ := open_row (c0 := c1) (x := y1) (by rw [← hy1]; simpa [int_cells, bool_cells, slice_cells, lines_cells, ring_cells, mem_cells, hart_cells, bri_cells, ask_cells] using hf 1 _ rfl)
  obtain ⟨b, rfl⟩ := cell_bool (by simpa [int_cells, bool_cells, slice_cells, lines_cells, ring_cells, mem_cells, hart_cells, bri_cells, ask_cells] using hf 2 _ rfl) (ne_at 2 (by omega))
  exact ⟨a, c1, l, b, rfl, hL⟩
set_option maxRecDepth 100000 in
theorem bri_open {fuel : Nat} {cs : List Value} {x : DataW H × List MemPlace} (h : DataW.trod enc Tryz.prog W 0 (fun _ => true) true fuel 31 cs = some x) : ∃ mo ba op oh ot fe fp fh ft st lo vc l, cs = [J mo, J ba, vc, J op, J oh, J ot, .bool st, J fe, J fp, J fh, J ft, .bool lo] ∧ Ls W vc l := by
  obtain ⟨xs, n, _, _, hl, hlen, hf⟩ := DataW.trod_struct Tryz.underlying31 h
  rw [bri_cells] at hl
  obtain ⟨c0, c1, c2, c3, c4, c5, c6, c7, c8, c9, c10, c11, rfl⟩ := array12 hl
  have some_at : ∀ i, i < 8 → ∃ y, xs[i]? = some y := fun i hi => by
    rw [List.getElem?_eq_getElem (by rw [hlen]; exact hi)]; simp
  have ne_at : ∀ i, i < 8 → xs[i]? ≠ none := fun i hi => by
    obtain ⟨y, hy⟩ := some_at i hi; rw [hy]; simp
  obtain ⟨mo, rfl⟩ := cell_int (by simpa [int_cells, bool_cells, slice_cells, lines_cells, ring_cells, mem_cells, hart_cells, bri_cells, ask_cells] using hf 0 _ rfl) (ne_at 0 (by omega))
  obtain ⟨ba, rfl⟩ := cell_int (by simpa [int_cells, bool_cells, slice_cells, lines_cells, ring_cells, mem_cells, hart_cells, bri_cells, ask_cells] using hf 1 _ rfl) (ne_at 1 (by omega))
  obtain ⟨y2, hy2⟩ := some_at 2 (by omega)
  obtain ⟨l, hL⟩ := lines_row (c0 := c2) (x := y2) (by rw [← hy2]; simpa [int_cells, bool_cells, slice_cells, lines_cells, ring_cells, mem_cells, hart_cells, bri_cells, ask_cells] using hf 2 _ rfl)
  obtain ⟨y3, hy3⟩ := some_at 3 (by omega)
  obtain ⟨op, oh, ot, e3⟩ := ring_open (cs := [c3, c4, c5]) (x := y3) (by rw [← hy3]; simpa [int_cells, bool_cells, slice_cells, lines_cells, ring_cells, mem_cells, hart_cells, bri_cells, ask_cells] using hf 3 _ rfl)
  obtain ⟨st, rfl⟩ := cell_bool (by simpa [int_cells, bool_cells, slice_cells, lines_cells, ring_cells, mem_cells, hart_cells, bri_cells, ask_cells] using hf 4 _ rfl) (ne_at 4 (by omega))
  obtain ⟨fe, rfl⟩ := cell_int (by simpa [int_cells, bool_cells, slice_cells, lines_cells, ring_cells, mem_cells, hart_cells, bri_cells, ask_cells] using hf 5 _ rfl) (ne_at 5 (by omega))
  obtain ⟨y6, hy6⟩ := some_at 6 (by omega)
  obtain ⟨fp, fh, ft, e6⟩ := ring_open (cs := [c8, c9, c10]) (x := y6) (by rw [← hy6]; simpa [int_cells, bool_cells, slice_cells, lines_cells, ring_cells, mem_cells, hart_cells, bri_cells, ask_cells] using hf 6 _ rfl)
  obtain ⟨lo, rfl⟩ := cell_bool (by simpa [int_cells, bool_cells, slice_cells, lines_cells, ring_cells, mem_cells, hart_cells, bri_cells, ask_cells] using hf 7 _ rfl) (ne_at 7 (by omega))
  simp only [List.cons.injEq, and_true] at e3 e6
  obtain ⟨rfl, rfl, rfl⟩ := e3
  obtain ⟨rfl, rfl, rfl⟩ := e6
  exact ⟨mo, ba, op, oh, ot, fe, fp, fh, ft, st, lo, c2, l, rfl, hL⟩
set_option maxRecDepth 100000 in
theorem ask_open {fuel : Nat} {cs : List Value} {x : DataW H × List MemPlace} (h : DataW.trod enc Tryz.prog W 0 (fun _ => true) true fuel 35 cs = some x) : ∃ a b c d u l, cs = [J a, J b, J c, .bool d, u] ∧ Slc W u l := by
  obtain ⟨xs, n, _, _, hl, hlen, hf⟩ := DataW.trod_struct Tryz.underlying35 h
  rw [ask_cells] at hl
  obtain ⟨c0, c1, c2, c3, c4, rfl⟩ := array5 hl
  have some_at : ∀ i, i < 5 → ∃ y, xs[i]? = some y := fun i hi => by
    rw [List.getElem?_eq_getElem (by rw [hlen]; exact hi)]; simp
  have ne_at : ∀ i, i < 5 → xs[i]? ≠ none := fun i hi => by
    obtain ⟨y, hy⟩ := some_at i hi; rw [hy]; simp
  obtain ⟨a, rfl⟩ := cell_int (by simpa [int_cells, bool_cells, slice_cells, lines_cells, ring_cells, mem_cells, hart_cells, bri_cells, ask_cells] using hf 0 _ rfl) (ne_at 0 (by omega))
  obtain ⟨b, rfl⟩ := cell_int (by simpa [int_cells, bool_cells, slice_cells, lines_cells, ring_cells, mem_cells, hart_cells, bri_cells, ask_cells] using hf 1 _ rfl) (ne_at 1 (by omega))
  obtain ⟨c, rfl⟩ := cell_int (by simpa [int_cells, bool_cells, slice_cells, lines_cells, ring_cells, mem_cells, hart_cells, bri_cells, ask_cells] using hf 2 _ rfl) (ne_at 2 (by omega))
  obtain ⟨e, rfl⟩ := cell_bool (by simpa [int_cells, bool_cells, slice_cells, lines_cells, ring_cells, mem_cells, hart_cells, bri_cells, ask_cells] using hf 3 _ rfl) (ne_at 3 (by omega))
  obtain ⟨y4, hy4⟩ := some_at 4 (by omega)
  obtain ⟨l, hL⟩ := lst_row (c0 := c4) (x := y4) (by rw [← hy4]; simpa [int_cells, bool_cells, slice_cells, lines_cells, ring_cells, mem_cells, hart_cells, bri_cells, ask_cells] using hf 4 _ rfl)
  exact ⟨a, b, c, e, c4, l, rfl, hL⟩
set_option maxRecDepth 100000 in
theorem mch_open {fuel : Nat} {cs : List Value} {x : DataW H × List MemPlace} (h : DataW.trod enc Tryz.prog W 0 (fun _ => true) true fuel 33 cs = some x) :
    ∃ v zs p u r d mo ba op oh ot fe fp fh ft st lo vc l, cs = [v, J p, u, .bool d, J mo, J ba, vc, J op, J oh, J ot, .bool st, J fe, J fp, J fh, J ft, .bool lo] ∧ Sl W v zs ∧ Sl W u r ∧ Ls W vc l := by
  obtain ⟨xs, n, _, _, hl, hlen, hf⟩ := DataW.trod_struct Tryz.underlying33 h
  rw [machine_cells] at hl
  obtain ⟨c0, c1, c2, c3, c4, c5, c6, c7, c8, c9, c10, c11, c12, c13, c14, c15, rfl⟩ := array16 hl
  have some_at : ∀ i, i < 3 → ∃ y, xs[i]? = some y := fun i hi => by
    rw [List.getElem?_eq_getElem (by rw [hlen]; exact hi)]; simp
  have ne_at : ∀ i, i < 3 → xs[i]? ≠ none := fun i hi => by
    obtain ⟨y, hy⟩ := some_at i hi; rw [hy]; simp
  obtain ⟨y0, hy0⟩ := some_at 0 (by omega)
  obtain ⟨v, zs, e0, hM⟩ := mem_open (cs := [c0]) (x := y0) (by rw [← hy0]; simpa [int_cells, bool_cells, slice_cells, lines_cells, ring_cells, mem_cells, hart_cells, bri_cells, ask_cells] using hf 0 _ rfl)
  obtain ⟨y1, hy1⟩ := some_at 1 (by omega)
  obtain ⟨p, u, r, d, e1, hR⟩ := hart_open (cs := [c1, c2, c3]) (x := y1) (by rw [← hy1]; simpa [int_cells, bool_cells, slice_cells, lines_cells, ring_cells, mem_cells, hart_cells, bri_cells, ask_cells] using hf 1 _ rfl)
  obtain ⟨y2, hy2⟩ := some_at 2 (by omega)
  obtain ⟨mo, ba, op, oh, ot, fe, fp, fh, ft, st, lo, vc, l, e2, hL⟩ := bri_open (cs := [c4, c5, c6, c7, c8, c9, c10, c11, c12, c13, c14, c15]) (x := y2) (by rw [← hy2]; simpa [int_cells, bool_cells, slice_cells, lines_cells, ring_cells, mem_cells, hart_cells, bri_cells, ask_cells] using hf 2 _ rfl)
  simp only [List.cons.injEq, and_true] at e0 e1 e2
  obtain rfl := e0
  obtain ⟨rfl, rfl, rfl⟩ := e1
  obtain ⟨rfl, rfl, rfl, rfl, rfl, rfl, rfl, rfl, rfl, rfl, rfl, rfl⟩ := e2
  exact ⟨c0, zs, p, c2, r, d, mo, ba, op, oh, ot, fe, fp, fh, ft, st, lo, c6, l, rfl, hM, hR, hL⟩
set_option maxRecDepth 100000 in
theorem open_mch {b0 : Nat} {v : Value} {d : DataW H} {p : List MemPlace} (hv : Value.okWide Tryz.prog W .any b0 33 v) (h : DataW.Trod enc Tryz.prog W 0 (fun _ => true) true 33 v d p) :
    ∃ v0 zs p u r d mo ba op oh ot fe fp fh ft st lo vc l, v = .agg #[v0, J p, u, .bool d, J mo, J ba, vc, J op, J oh, J ot, .bool st, J fe, J fp, J fh, J ft, .bool lo] ∧ (Sl W v0 zs ∧ Sl W u r ∧ Ls W vc l) := by
  obtain ⟨cs, rfl, _⟩ := okWide_struct Tryz.underlying33 hv
  obtain ⟨fuel, hf⟩ := h
  obtain ⟨v0, zs, p, u, r, d, mo, ba, op, oh, ot, fe, fp, fh, ft, st, lo, vc, l, hc, hM, hR, hL⟩ := mch_open hf
  obtain ⟨y⟩ := cs
  simp only [Value.cells] at hc
  exact ⟨v0, zs, p, u, r, d, mo, ba, op, oh, ot, fe, fp, fh, ft, st, lo, vc, l, by rw [hc], hM, hR, hL⟩
set_option maxRecDepth 100000 in
theorem hap_open {fuel : Nat} {cs : List Value} {x : DataW H × List MemPlace} (h : DataW.trod enc Tryz.prog W 0 (fun _ => true) true fuel 37 cs = some x) :
    ∃ k m a b c d u l, cs = [J k, J m, J a, J b, J c, .bool d, u] ∧ Slc W u l := by
  obtain ⟨xs, n, _, _, hl, hlen, hf⟩ := DataW.trod_struct Tryz.underlying37 h
  rw [happening_cells] at hl
  obtain ⟨c0, c1, c2, c3, c4, c5, c6, rfl⟩ := array7 hl
  have some_at : ∀ i, i < 3 → ∃ y, xs[i]? = some y := fun i hi => by
    rw [List.getElem?_eq_getElem (by rw [hlen]; exact hi)]; simp
  have ne_at : ∀ i, i < 3 → xs[i]? ≠ none := fun i hi => by
    obtain ⟨y, hy⟩ := some_at i hi; rw [hy]; simp
  obtain ⟨k, rfl⟩ := cell_int (by simpa [int_cells, bool_cells, slice_cells, lines_cells, ring_cells, mem_cells, hart_cells, bri_cells, ask_cells] using hf 0 _ rfl) (ne_at 0 (by omega))
  obtain ⟨m, rfl⟩ := cell_int (by simpa [int_cells, bool_cells, slice_cells, lines_cells, ring_cells, mem_cells, hart_cells, bri_cells, ask_cells] using hf 1 _ rfl) (ne_at 1 (by omega))
  obtain ⟨y2, hy2⟩ := some_at 2 (by omega)
  obtain ⟨a, b, c, d, u, l, e2, hL⟩ := ask_open (cs := [c2, c3, c4, c5, c6]) (x := y2) (by rw [← hy2]; simpa [int_cells, bool_cells, slice_cells, lines_cells, ring_cells, mem_cells, hart_cells, bri_cells, ask_cells] using hf 2 _ rfl)
  simp only [List.cons.injEq, and_true] at e2
  obtain ⟨rfl, rfl, rfl, rfl, rfl⟩ := e2
  exact ⟨k, m, a, b, c, d, c6, l, rfl, hL⟩
theorem choose_hp {P : Nat → Hp → Prop} : ∀ n, (∀ i, i < n → ∃ y, P i y) → ∃ l : List Hp, l.length = n ∧ ∀ i, i < n → P i (hpth l i)
  | 0, _ => ⟨[], rfl, fun i hi => absurd hi (Nat.not_lt_zero _)⟩
  | n + 1, h => by
    obtain ⟨l, hl, hp⟩ := choose_hp n fun i hi => h i (by omega)
    obtain ⟨y, hy⟩ := h n (by omega)
    refine ⟨l ++ [y], by simp [hl], fun i hi => ?_⟩
    by_cases e : i = n
    · subst e
      have : hpth (l ++ [y]) i = y := by simp [hpth, ← hl]
      rw [this]; exact hy
    · have : hpth (l ++ [y]) i = hpth l i := by
        have hi' : i < l.length := by omega
        simp [hpth, List.getElem?_append_left hi']
      rw [this]; exact hp i (by omega)
set_option maxRecDepth 100000 in
theorem haps_row {fuel : Nat} {c0 : Value} {x : DataW H × List MemPlace} (h : DataW.trod enc Tryz.prog W 0 (fun _ => true) true fuel 56 [c0] = some x) : ∃ l, Hps W c0 l := by
  rcases Deep.open_slice Tryz.underlying56 h with ⟨hcs, _⟩ | ⟨a, len, cap, m, n, D, Pl, hcs, hb, hl, hm, hmm, _, hx⟩
  · simp only [List.cons.injEq, and_true] at hcs
    subst hcs
    exact ⟨[], Hps.nil _ _ _ (Nat.zero_le _)⟩
  · simp only [List.cons.injEq, and_true] at hcs
    subst hcs
    simp only [if_true] at hmm
    rw [happening_cells] at hx
    by_cases h0 : len = 0
    · subst h0
      exact ⟨[], Hps.nil _ _ _ hm⟩
    · obtain ⟨b, off, spot⟩ := a
      have each : ∀ i, i < len → ∃ y : Hp, ∃ u, Slc W u y.ds ∧ ∀ j z, (j < 7 ∧ [J y.kind, J y.num, J y.d, J y.a, J y.n, .bool y.wr, u][j]? = some z) → W.cell? ((⟨b, off, spot⟩ : Addr).add (i * 7 + j)) = some z := by
        intro i hi
        obtain ⟨cs', h1, h2⟩ := hx i (by omega)
        obtain ⟨k, m, a1, a2, a3, a4, u, ds, rfl, hD⟩ := hap_open h2
        obtain ⟨_, _, hcell⟩ := World.cells?_some h1
        refine ⟨⟨k, m, a1, a2, a3, a4, ds⟩, u, hD, fun j z ⟨hj, hu⟩ => ?_⟩
        have := hcell j (by omega)
        rw [Deep.add_add, hu] at this
        exact this
      obtain ⟨l, hlen, hp⟩ := choose_hp len each
      obtain ⟨u0, -, hc0⟩ := hp 0 (by omega)
      have hc := hc0 0 _ ⟨by omega, rfl⟩
      have hspot : spot = none := by simpa [Addr.add] using World.cell?_spot hc
      subst hspot
      have ha : ∀ i, Addr.add ⟨b, off, none⟩ i = ⟨b, off + i, none⟩ := fun i => by unfold Addr.add; split <;> simp_all
      refine ⟨l, _, cap, by rw [hlen], by omega, hm, .inr ⟨b, off, rfl, ?_, fun i hi => ?_⟩⟩
      · have := World.block_lt_of_cell? W _ hc
        simpa [Addr.add] using this
      · rw [hlen] at hi
        obtain ⟨u, hD, hq⟩ := hp i hi
        refine ⟨u, ?_, ?_, ?_, ?_, ?_, ?_, ?_, hD⟩
        · have := hq 0 _ ⟨by omega, rfl⟩; rw [ha] at this; exact this
        · have := hq 1 _ ⟨by omega, rfl⟩; rw [ha, ← Nat.add_assoc] at this; exact this
        · have := hq 2 _ ⟨by omega, rfl⟩; rw [ha, ← Nat.add_assoc] at this; exact this
        · have := hq 3 _ ⟨by omega, rfl⟩; rw [ha, ← Nat.add_assoc] at this; exact this
        · have := hq 4 _ ⟨by omega, rfl⟩; rw [ha, ← Nat.add_assoc] at this; exact this
        · have := hq 5 _ ⟨by omega, rfl⟩; rw [ha, ← Nat.add_assoc] at this; exact this
        · have := hq 6 _ ⟨by omega, rfl⟩; rw [ha, ← Nat.add_assoc] at this; exact this
set_option maxRecDepth 100000 in
theorem open_hps {b0 : Nat} {v : Value} {d : DataW H} {p : List MemPlace} (hv : Value.okWide Tryz.prog W .any b0 56 v) (h : DataW.Trod enc Tryz.prog W 0 (fun _ => true) true 56 v d p) :
    ∃ l, Hps W v l := by
  obtain ⟨fuel, hf⟩ := h
  have hone : v.cells.toList = [v] := by
    simp only [Value.okWide, Tryz.underlying56, Cell.okWide] at hv
    cases v <;> simp_all [Value.cells, Cell.ok]
  rw [hone] at hf
  exact haps_row hf
end
theorem through_at {v : Value} {zs : List Int} {mo ba op oh ot fe fp fh ft : Int} {st lo : Bool} {vc : Value} {l : List Ln} {d p : Int} {wr : Bool} {w : World} {mo1 ba1 op1 oh1 ot1 fe1 fp1 fh1 ft1 : Int} {st1 lo1 : Bool} {l1 : List Ln} {k f e0 : Int} (hs : Sl w v zs) (h : Ls w vc l) (hE : thE zs ⟨mo, ba, l, op, oh, ot, st, fe, fp, fh, ft, lo⟩ d p = e0) (hR : thR zs ⟨mo, ba, l, op, oh, ot, st, fe, fp, fh, ft, lo⟩ d p wr = (⟨mo1, ba1, l1, op1, oh1, ot1, st1, fe1, fp1, fh1, ft1, lo1⟩, k, f)) :
    Calls Tryz.prog 57 #[.agg #[v], .agg #[J mo, J ba, vc, J op, J oh, J ot, .bool st, J fe, J fp, J fh, J ft, .bool lo], J d, J p, .bool wr] w fun e w' =>
      ∃ va1 vk1, e = .returned (.tuple #[.agg #[J mo1, J ba1, .slice va1 l1.length vk1, J op1, J oh1, J ot1, .bool st1, J fe1, J fp1, J fh1, J ft1, .bool lo1], J k, J f, J e0]) ∧ Ls w' (.slice va1 l1.length vk1) l1 ∧ Below w.heap.size w w' := by
  refine (through_any v zs mo ba op oh ot fe fp fh ft st lo vc l d p wr w hs h).mono ?_
  rintro e w' ⟨mo2, ba2, op2, oh2, ot2, fe2, fp2, fh2, ft2, st2, lo2, va2, vk2, l2, k2, f2, rfl, hR2, hl, hb⟩
  rw [hR] at hR2
  simp only [Prod.mk.injEq, Br.mk.injEq] at hR2
  obtain ⟨⟨rfl, rfl, rfl, rfl, rfl, rfl, rfl, rfl, rfl, rfl, rfl, rfl⟩, rfl, rfl⟩ := hR2
  rw [hE]
  exact ⟨va2, vk2, rfl, hl, hb⟩
set_option maxHeartbeats 4000000 in
theorem plain_at {v : Value} {zs : List Int} {mo ba op oh ot fe fp fh ft : Int} {st lo : Bool} {vc : Value} {l : List Ln} {d p : Int} {wr : Bool} {w : World} {c : Br} {k f e0 : Int} (hs : Sl w v zs) (h : Ls w vc l) (hE : thE zs ⟨mo, ba, [], op, oh, ot, st, fe, fp, fh, ft, lo⟩ d p = e0) (hR : thR zs ⟨mo, ba, [], op, oh, ot, st, fe, fp, fh, ft, lo⟩ d p wr = (c, k, f)) :
    Calls Tryz.prog 30 #[.agg #[v], .agg #[J mo, J ba, vc, J op, J oh, J ot, .bool st, J fe, J fp, J fh, J ft, .bool lo], J d, J p, .bool wr] w fun e w' =>
      e = .returned (.tuple #[J k, J f, J e0]) ∧ Below w.heap.size w w' := by
  obtain ⟨va, vk, rfl, -⟩ := h.shape
  have HM : Hid (Sl w v zs) := hs
  obtain ⟨ma, mc, rfl⟩ := hs.shape
  obtain ⟨mo1, ba1, l1, op1, oh1, ot1, st1, fe1, fp1, fh1, ft1, lo1⟩ := c
  have HE : Hid (_ = _) := hE
  have HR : Hid (_ = _) := hR
  clear h hs hE hR
  go_enter Tryz.func30, Tryz.ntmps30
  go_wp2_with fail
  have B1 : Hid (Below w.heap.size w _) := bel_alloc (bel_alloc (Below.refl w.heap.size w) (.cells #[.slice ma zs.length mc] 24)) (.cells #[J mo, J ba, .slice none 0 0, J op, J oh, J ot, .bool st, J fe, J fp, J fh, J ft, .bool lo] 31)
  refine (through_at (HM.out.keep B1.out) (Ls.nothing _) HE.out HR.out).mono ?_
  rintro e w2 ⟨va1, vk1, rfl, hl, hb⟩
  have B2 : Hid (Below w.heap.size w w2) := bel_trans B1.out hb
  clear hb hl
  go_wp2
  refine bodyPost_ret (v := .tuple #[J k, J f, J e0]) (by simp [results, Tryz.results30, go_sem, *]) rfl ⟨rfl, ?_⟩
  (repeat (first | with_reducible exact B2.out | with_reducible refine bel_alloc ?_ _ | (with_reducible refine bel_set12 ?_ ?_ _ _ _ _ _ _ _ _ _ _ _ _; (focus omega))))
end Go.Proofs.YthlhocneggcekaaGreat
