/-
  Laid together: OpenA.
-/
import Derived.Test.YtefcdcneenjbgabT14
/-
  An ask that comes in as an argument is written out.
-/
namespace Go.Proofs.Ytefcdcneenjbgab
open Go.ChangeShapes Go.WideShapes Go.ChangeAt Go.RowKit

theorem ask_cells : Try.prog.cellsOf 79 = 5 := by kernel_rfl
theorem ints_cells : Try.prog.cellsOf 37 = 1 := by kernel_rfl
section
variable {H : Type} {enc : TypeId × Value → H} {W : World}
set_option maxRecDepth 100000 in
theorem open_asc {b0 : Nat} {v : Value} {d : DataW H} {p : List MemPlace} (hv : Value.okWide Try.prog W .any b0 79 v) (h : DataW.Trod enc Try.prog W 0 (fun _ => true) true 79 v d p) :
    ∃ a b c d u l, v = .agg #[.int .i64 a, .int .i64 b, .int .i64 c, .bool d, u] ∧ Slc W u l := by
  obtain ⟨cs, rfl, _⟩ := okWide_struct Try.underlying79 hv
  obtain ⟨fuel, hf⟩ := h
  obtain ⟨xs, n, _, _, hl, hlen, hf⟩ := DataW.trod_struct Try.underlying79 hf
  rw [ask_cells] at hl
  obtain ⟨l⟩ := cs
  simp only [Value.cells] at hl hf
  obtain ⟨c0, c1, c2, c3, c4, rfl⟩ := array5 hl
  have some_at : ∀ i, i < 5 → ∃ y, xs[i]? = some y := fun i hi => by
    rw [List.getElem?_eq_getElem (by rw [hlen]; exact hi)]; simp
  have ne_at : ∀ i, i < 5 → xs[i]? ≠ none := fun i hi => by
    obtain ⟨y, hy⟩ := some_at i hi; rw [hy]; simp
  obtain ⟨a, rfl⟩ := cell_int (by simpa [int_cells, bool_cells, ints_cells] using hf 0 _ rfl) (ne_at 0 (by omega))
  obtain ⟨b, rfl⟩ := cell_int (by simpa [int_cells, bool_cells, ints_cells] using hf 1 _ rfl) (ne_at 1 (by omega))
  obtain ⟨c, rfl⟩ := cell_int (by simpa [int_cells, bool_cells, ints_cells] using hf 2 _ rfl) (ne_at 2 (by omega))
  obtain ⟨e, rfl⟩ := cell_bool (by simpa [int_cells, bool_cells, ints_cells] using hf 3 _ rfl) (ne_at 3 (by omega))
  obtain ⟨y4, hy4⟩ := some_at 4 (by omega)
  obtain ⟨l, hL⟩ := lst_row (c0 := c4) (x := y4) (by rw [← hy4]; simpa [int_cells, bool_cells, ints_cells] using hf 4 _ rfl)
  exact ⟨a, b, c, e, c4, l, rfl, hL⟩
set_option maxRecDepth 100000 in
theorem open_ask {b0 : Nat} {v : Value} {d : DataW H} {p : List MemPlace} (hv : Value.okWide Try.prog W .any b0 79 v) (h : DataW.Trod enc Try.prog W 0 (fun _ => true) true 79 v d p) :
    ∃ a b c d u l, v = .agg #[.int .i64 a, .int .i64 b, .int .i64 c, .bool d, u] ∧ Sl W u l := by
  obtain ⟨a, b, c, e, u, l, h1, h2⟩ := open_asc hv h
  exact ⟨a, b, c, e, u, l, h1, h2.1⟩
end
end Go.Proofs.Ytefcdcneenjbgab
