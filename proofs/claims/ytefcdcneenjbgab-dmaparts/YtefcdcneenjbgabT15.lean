/-
  Laid together: OpenL, OpenR, OpenB, OpenI, OpenA.
-/
import Derived.Test.YtefcdcneenjbgabT14
import Derived.Deep.Slices
/-
  Lines, a line, an order that come in as arguments are written out.
-/
namespace Go.Proofs.Ytefcdcneenjbgab
open Go.ChangeShapes Go.WideShapes Go.ChangeAt Go.RowKit

theorem line_cells : Try.prog.cellsOf 68 = 5 := by kernel_rfl

section
variable {H : Type} {enc : TypeId × Value → H} {W : World}

set_option maxRecDepth 100000 in
/-- The cells of a line. -/
theorem line_open {fuel : Nat} {cs : List Value} {x : DataW H × List MemPlace} (h : DataW.trod enc Try.prog W 0 (fun _ => true) true fuel 68 cs = some x) :
    ∃ y : Ln, cs = [.int .i64 y.1, .int .i64 y.2.1, .int .i64 y.2.2.1, .bool y.2.2.2.1, .bool y.2.2.2.2] := by
  obtain ⟨xs, n, _, _, hl, hlen, hf⟩ := DataW.trod_struct Try.underlying68 h
  rw [line_cells] at hl
  obtain ⟨c0, c1, c2, c3, c4, rfl⟩ := array5 hl
  have some_at : ∀ i, i < 5 → xs[i]? ≠ none := fun i hi => by
    rw [List.getElem?_eq_getElem (by rw [hlen]; exact hi)]; simp
  obtain ⟨a, rfl⟩ := cell_int (by simpa [int_cells] using hf 0 _ rfl) (some_at 0 (by omega))
  obtain ⟨b, rfl⟩ := cell_int (by simpa [int_cells] using hf 1 _ rfl) (some_at 1 (by omega))
  obtain ⟨c, rfl⟩ := cell_int (by simpa [int_cells] using hf 2 _ rfl) (some_at 2 (by omega))
  obtain ⟨d, rfl⟩ := cell_bool (by simpa [bool_cells] using hf 3 _ rfl) (some_at 3 (by omega))
  obtain ⟨p, rfl⟩ := cell_bool (by simpa [bool_cells] using hf 4 _ rfl) (some_at 4 (by omega))
  exact ⟨(a, b, c, d, p), rfl⟩
set_option maxRecDepth 100000 in
theorem open_line {b0 : Nat} {v : Value} {d : DataW H} {p : List MemPlace} (hv : Value.okWide Try.prog W .any b0 68 v) (h : DataW.Trod enc Try.prog W 0 (fun _ => true) true 68 v d p) :
    ∃ a b c e n, v = .agg #[.int .i64 a, .int .i64 b, .int .i64 c, .bool e, .bool n] := by
  obtain ⟨cs, rfl, _⟩ := okWide_struct Try.underlying68 hv
  obtain ⟨fuel, hf⟩ := h
  obtain ⟨y, hc⟩ := line_open hf
  obtain ⟨l⟩ := cs
  simp only [Value.cells] at hc
  exact ⟨_, _, _, _, _, by rw [hc]⟩
theorem choose_len {P : Nat → Ln → Prop} : ∀ n, (∀ i, i < n → ∃ y, P i y) → ∃ l : List Ln, l.length = n ∧ ∀ i, i < n → P i (lth l i)
  | 0, _ => ⟨[], rfl, fun i hi => absurd hi (Nat.not_lt_zero _)⟩
  | n + 1, h => by
    obtain ⟨l, hl, hp⟩ := choose_len n fun i hi => h i (by omega)
    obtain ⟨y, hy⟩ := h n (by omega)
    refine ⟨l ++ [y], by simp [hl], fun i hi => ?_⟩
    by_cases e : i = n
    · subst e
      have : lth (l ++ [y]) i = y := by simp [lth, ← hl]
      rw [this]; exact hy
    · have : lth (l ++ [y]) i = lth l i := by
        have hi' : i < l.length := by omega
        simp [lth, List.getElem?_append_left hi']
      rw [this]; exact hp i (by omega)

set_option maxRecDepth 100000 in
/-- A cell that reads as a slice of lines. -/
theorem lines_row {fuel : Nat} {c0 : Value} {x : DataW H × List MemPlace} (h : DataW.trod enc Try.prog W 0 (fun _ => true) true fuel 40 [c0] = some x) : ∃ l, Ls W c0 l := by
  rcases Deep.open_slice Try.underlying40 h with ⟨hcs, _⟩ | ⟨a, len, cap, m, n, D, Pl, hcs, hb, hl, hm, hmm, _, hx⟩
  · simp only [List.cons.injEq, and_true] at hcs
    subst hcs
    exact ⟨[], Ls.nothing _⟩
  · simp only [List.cons.injEq, and_true] at hcs
    subst hcs
    simp only [if_true] at hmm
    rw [line_cells] at hx
    by_cases h0 : len = 0
    · subst h0
      exact ⟨[], Ls.nil _ _ _ hm⟩
    · obtain ⟨b, off, spot⟩ := a
      have each : ∀ i, i < len → ∃ y : Ln, ∀ j u, (j < 5 ∧ [Value.int .i64 y.1, .int .i64 y.2.1, .int .i64 y.2.2.1, .bool y.2.2.2.1, .bool y.2.2.2.2][j]? = some u) → W.cell? ((⟨b, off, spot⟩ : Addr).add (i * 5 + j)) = some u := by
        intro i hi
        obtain ⟨cs', h1, h2⟩ := hx i (by omega)
        obtain ⟨y, rfl⟩ := line_open h2
        obtain ⟨_, _, hcell⟩ := World.cells?_some h1
        refine ⟨y, fun j u ⟨hj, hu⟩ => ?_⟩
        have := hcell j (by omega)
        rw [Deep.add_add, hu] at this
        exact this
      obtain ⟨l, hlen, hp⟩ := choose_len (P := fun i y => ∀ j u, (j < 5 ∧ [Value.int .i64 y.1, .int .i64 y.2.1, .int .i64 y.2.2.1, .bool y.2.2.2.1, .bool y.2.2.2.2][j]? = some u) → W.cell? ((⟨b, off, spot⟩ : Addr).add (i * 5 + j)) = some u) len each
      have hc := hp 0 (by omega) 0 _ ⟨by omega, rfl⟩
      have hspot : spot = none := by simpa [Addr.add] using World.cell?_spot hc
      subst hspot
      have ha : ∀ i, Addr.add ⟨b, off, none⟩ i = ⟨b, off + i, none⟩ := fun i => by unfold Addr.add; split <;> simp_all
      refine ⟨l, _, cap, by rw [hlen], by omega, hm, .inr ⟨b, off, rfl, ?_, fun i hi => ?_⟩⟩
      · have := World.block_lt_of_cell? W _ hc
        simpa [Addr.add] using this
      · rw [hlen] at hi
        have hq := hp i hi
        refine ⟨?_, ?_, ?_, ?_, ?_⟩
        · have := hq 0 _ ⟨by omega, rfl⟩; rw [ha] at this; exact this
        · have := hq 1 _ ⟨by omega, rfl⟩; rw [ha, ← Nat.add_assoc] at this; exact this
        · have := hq 2 _ ⟨by omega, rfl⟩; rw [ha, ← Nat.add_assoc] at this; exact this
        · have := hq 3 _ ⟨by omega, rfl⟩; rw [ha, ← Nat.add_assoc] at this; exact this
        · have := hq 4 _ ⟨by omega, rfl⟩; rw [ha, ← Nat.add_assoc] at this; exact this
set_option maxRecDepth 100000 in
theorem open_lines {b0 : Nat} {v : Value} {d : DataW H} {p : List MemPlace} (hv : Value.okWide Try.prog W .any b0 40 v) (h : DataW.Trod enc Try.prog W 0 (fun _ => true) true 40 v d p) :
    ∃ l, Ls W v l := by
  obtain ⟨fuel, hf⟩ := h
  have hone : v.cells.toList = [v] := by
    simp only [Value.okWide, Try.underlying40, Cell.okWide] at hv
    cases v <;> simp_all [Value.cells, Cell.ok]
  rw [hone] at hf
  exact lines_row hf
end
end Go.Proofs.Ytefcdcneenjbgab
/-
  A ring that comes in as an argument is written out.
-/
namespace Go.Proofs.Ytefcdcneenjbgab
open Go.ChangeShapes Go.WideShapes Go.ChangeAt Go.RowKit

theorem ring_cells : Try.prog.cellsOf 42 = 3 := by kernel_rfl
section
variable {H : Type} {enc : TypeId × Value → H} {W : World}
set_option maxRecDepth 100000 in
/-- The cells of a ring. -/
theorem ring_open {fuel : Nat} {cs : List Value} {x : DataW H × List MemPlace} (h : DataW.trod enc Try.prog W 0 (fun _ => true) true fuel 42 cs = some x) :
    ∃ a b p, cs = [.int .i64 a, .int .i64 b, .int .i64 p] := by
  obtain ⟨xs, n, _, _, hl, hlen, hf⟩ := DataW.trod_struct Try.underlying42 h
  rw [ring_cells] at hl
  obtain ⟨c0, c1, c2, rfl⟩ := array3 hl
  have some_at : ∀ i, i < 3 → xs[i]? ≠ none := fun i hi => by
    rw [List.getElem?_eq_getElem (by rw [hlen]; exact hi)]; simp
  obtain ⟨a, rfl⟩ := cell_int (by simpa [int_cells] using hf 0 _ rfl) (some_at 0 (by omega))
  obtain ⟨b, rfl⟩ := cell_int (by simpa [int_cells] using hf 1 _ rfl) (some_at 1 (by omega))
  obtain ⟨p, rfl⟩ := cell_int (by simpa [int_cells] using hf 2 _ rfl) (some_at 2 (by omega))
  exact ⟨a, b, p, rfl⟩
set_option maxRecDepth 100000 in
theorem open_ring {b0 : Nat} {v : Value} {d : DataW H} {p : List MemPlace} (hv : Value.okWide Try.prog W .any b0 42 v) (h : DataW.Trod enc Try.prog W 0 (fun _ => true) true 42 v d p) :
    ∃ a b n, v = .agg #[.int .i64 a, .int .i64 b, .int .i64 n] := by
  obtain ⟨cs, rfl, _⟩ := okWide_struct Try.underlying42 hv
  obtain ⟨fuel, hf⟩ := h
  obtain ⟨a, b, n, hc⟩ := ring_open hf
  obtain ⟨l⟩ := cs
  simp only [Value.cells] at hc
  exact ⟨a, b, n, by rw [hc]⟩
end
end Go.Proofs.Ytefcdcneenjbgab
/-
  A bridge that comes in as an argument is written out.
-/
namespace Go.Proofs.Ytefcdcneenjbgab
open Go.ChangeShapes Go.WideShapes Go.ChangeAt Go.RowKit

theorem bri_cells : Try.prog.cellsOf 44 = 12 := by kernel_rfl
theorem lines_cells : Try.prog.cellsOf 40 = 1 := by kernel_rfl
theorem array12 {cs : List Value} (h : cs.length = 12) : ∃ c0 c1 c2 c3 c4 c5 c6 c7 c8 c9 c10 c11, cs = [c0, c1, c2, c3, c4, c5, c6, c7, c8, c9, c10, c11] := by
  match cs, h with
  | [c0, c1, c2, c3, c4, c5, c6, c7, c8, c9, c10, c11], _ => exact ⟨c0, c1, c2, c3, c4, c5, c6, c7, c8, c9, c10, c11, rfl⟩
section
variable {H : Type} {enc : TypeId × Value → H} {W : World}
set_option maxRecDepth 100000 in
theorem open_bri {b0 : Nat} {v : Value} {d : DataW H} {p : List MemPlace} (hv : Value.okWide Try.prog W .any b0 44 v) (h : DataW.Trod enc Try.prog W 0 (fun _ => true) true 44 v d p) :
    ∃ mo ba op oh ot fe fp fh ft st lo vc l, v = .agg #[.int .i64 mo, .int .i64 ba, vc, .int .i64 op, .int .i64 oh, .int .i64 ot, .bool st, .int .i64 fe, .int .i64 fp, .int .i64 fh, .int .i64 ft, .bool lo] ∧ Ls W vc l := by
  obtain ⟨cs, rfl, _⟩ := okWide_struct Try.underlying44 hv
  obtain ⟨fuel, hf⟩ := h
  obtain ⟨xs, n, _, _, hl, hlen, hf⟩ := DataW.trod_struct Try.underlying44 hf
  rw [bri_cells] at hl
  obtain ⟨l⟩ := cs
  simp only [Value.cells] at hl hf
  obtain ⟨c0, c1, c2, c3, c4, c5, c6, c7, c8, c9, c10, c11, rfl⟩ := array12 hl
  have some_at : ∀ i, i < 8 → ∃ y, xs[i]? = some y := fun i hi => by
    rw [List.getElem?_eq_getElem (by rw [hlen]; exact hi)]; simp
  have ne_at : ∀ i, i < 8 → xs[i]? ≠ none := fun i hi => by
    obtain ⟨y, hy⟩ := some_at i hi; rw [hy]; simp
  obtain ⟨mo, rfl⟩ := cell_int (by simpa [int_cells, bool_cells, lines_cells, ring_cells] using hf 0 _ rfl) (ne_at 0 (by omega))
  obtain ⟨ba, rfl⟩ := cell_int (by simpa [int_cells, bool_cells, lines_cells, ring_cells] using hf 1 _ rfl) (ne_at 1 (by omega))
  obtain ⟨y2, hy2⟩ := some_at 2 (by omega)
  obtain ⟨l, hL⟩ := lines_row (c0 := c2) (x := y2) (by rw [← hy2]; simpa [int_cells, bool_cells, lines_cells, ring_cells] using hf 2 _ rfl)
  obtain ⟨y3, hy3⟩ := some_at 3 (by omega)
  obtain ⟨op, oh, ot, e3⟩ := ring_open (cs := [c3, c4, c5]) (x := y3) (by rw [← hy3]; simpa [int_cells, bool_cells, lines_cells, ring_cells] using hf 3 _ rfl)
  obtain ⟨st, rfl⟩ := cell_bool (by simpa [int_cells, bool_cells, lines_cells, ring_cells] using hf 4 _ rfl) (ne_at 4 (by omega))
  obtain ⟨fe, rfl⟩ := cell_int (by simpa [int_cells, bool_cells, lines_cells, ring_cells] using hf 5 _ rfl) (ne_at 5 (by omega))
  obtain ⟨y6, hy6⟩ := some_at 6 (by omega)
  obtain ⟨fp, fh, ft, e6⟩ := ring_open (cs := [c8, c9, c10]) (x := y6) (by rw [← hy6]; simpa [int_cells, bool_cells, lines_cells, ring_cells] using hf 6 _ rfl)
  obtain ⟨lo, rfl⟩ := cell_bool (by simpa [int_cells, bool_cells, lines_cells, ring_cells] using hf 7 _ rfl) (ne_at 7 (by omega))
  simp only [List.cons.injEq, and_true] at e3 e6
  obtain ⟨rfl, rfl, rfl⟩ := e3
  obtain ⟨rfl, rfl, rfl⟩ := e6
  exact ⟨mo, ba, op, oh, ot, fe, fp, fh, ft, st, lo, c2, l, rfl, hL⟩
end
end Go.Proofs.Ytefcdcneenjbgab
/-
  A slice of numbers that comes in as an argument reads as a list, with its room (Slc).
-/
namespace Go.Proofs.Ytefcdcneenjbgab
open Go.ChangeShapes Go.WideShapes Go.ChangeAt Go.RowKit

section
variable {H : Type} {enc : TypeId × Value → H} {W : World}
set_option maxRecDepth 100000 in
theorem lst_row {fuel : Nat} {c0 : Value} {x : DataW H × List MemPlace} (h : DataW.trod enc Try.prog W 0 (fun _ => true) true fuel 37 [c0] = some x) : ∃ zs, Slc W c0 zs := by
  rcases open_ints Try.underlying37 Try.underlying3 int_cells h with ⟨hcs, _⟩ | ⟨a, len, cap, zs, hcs, _, hl, hm, hz, _, hcell, _⟩
  · simp only [List.cons.injEq, and_true] at hcs
    subst hcs
    exact ⟨[], Sl.nil _ _ _, _, _, rfl, by simp, by simp [maxLen]⟩
  · simp only [List.cons.injEq, and_true] at hcs
    subst hcs
    simp only [if_true] at hz
    by_cases h0 : len = 0
    · subst h0
      exact ⟨[], Sl.nil _ _ _, _, _, rfl, by simp, by omega⟩
    · obtain ⟨b, off, spot⟩ := a
      have hc := hcell 0 (by omega)
      have hspot : spot = none := by simpa [Addr.add] using World.cell?_spot hc
      subst hspot
      have hlen : (zs.take len).length = len := by simp; omega
      refine ⟨zs.take len, ⟨_, cap, by rw [hlen], by omega, .inr ⟨b, off, rfl, ?_, fun i hi => ?_⟩⟩, _, cap, by rw [hlen], by omega, by omega⟩
      · have := World.block_lt_of_cell? W _ hc
        simpa [Addr.add] using this
      · have ha : Addr.add ⟨b, off, none⟩ i = ⟨b, off + i, none⟩ := by unfold Addr.add; split <;> simp_all
        have := hcell i (by omega)
        rw [ha] at this
        rw [this]
        have hi' : i < len := by omega
        simp [nth, hi']
set_option maxRecDepth 100000 in
theorem open_lst {b0 : Nat} {v : Value} {d : DataW H} {p : List MemPlace} (hv : Value.okWide Try.prog W .any b0 37 v) (h : DataW.Trod enc Try.prog W 0 (fun _ => true) true 37 v d p) :
    ∃ l, Slc W v l := by
  obtain ⟨fuel, hf⟩ := h
  have hone : v.cells.toList = [v] := by
    simp only [Value.okWide, Try.underlying37, Cell.okWide] at hv
    cases v <;> simp_all [Value.cells, Cell.ok]
  rw [hone] at hf
  exact lst_row hf
end
end Go.Proofs.Ytefcdcneenjbgab
/-
  An ask that comes in as an argument is written out.
-/
namespace Go.Proofs.Ytefcdcneenjbgab
open Go.ChangeShapes Go.WideShapes Go.ChangeAt Go.RowKit

theorem ask_cells : Try.prog.cellsOf 79 = 5 := by kernel_rfl
theorem ints_cells : Try.prog.cellsOf 37 = 1 := by kernel_rfl
section
variable {H : Type} {enc : TypeId × Value → H} {W : World}
set_option maxRecDepth 100000 in
theorem open_asc {b0 : Nat} {v : Value} {d : DataW H} {p : List MemPlace} (hv : Value.okWide Try.prog W .any b0 79 v) (h : DataW.Trod enc Try.prog W 0 (fun _ => true) true 79 v d p) :
    ∃ a b c d u l, v = .agg #[.int .i64 a, .int .i64 b, .int .i64 c, .bool d, u] ∧ Slc W u l := by
  obtain ⟨cs, rfl, _⟩ := okWide_struct Try.underlying79 hv
  obtain ⟨fuel, hf⟩ := h
  obtain ⟨xs, n, _, _, hl, hlen, hf⟩ := DataW.trod_struct Try.underlying79 hf
  rw [ask_cells] at hl
  obtain ⟨l⟩ := cs
  simp only [Value.cells] at hl hf
  obtain ⟨c0, c1, c2, c3, c4, rfl⟩ := array5 hl
  have some_at : ∀ i, i < 5 → ∃ y, xs[i]? = some y := fun i hi => by
    rw [List.getElem?_eq_getElem (by rw [hlen]; exact hi)]; simp
  have ne_at : ∀ i, i < 5 → xs[i]? ≠ none := fun i hi => by
    obtain ⟨y, hy⟩ := some_at i hi; rw [hy]; simp
  obtain ⟨a, rfl⟩ := cell_int (by simpa [int_cells, bool_cells, ints_cells] using hf 0 _ rfl) (ne_at 0 (by omega))
  obtain ⟨b, rfl⟩ := cell_int (by simpa [int_cells, bool_cells, ints_cells] using hf 1 _ rfl) (ne_at 1 (by omega))
  obtain ⟨c, rfl⟩ := cell_int (by simpa [int_cells, bool_cells, ints_cells] using hf 2 _ rfl) (ne_at 2 (by omega))
  obtain ⟨e, rfl⟩ := cell_bool (by simpa [int_cells, bool_cells, ints_cells] using hf 3 _ rfl) (ne_at 3 (by omega))
  obtain ⟨y4, hy4⟩ := some_at 4 (by omega)
  obtain ⟨l, hL⟩ := lst_row (c0 := c4) (x := y4) (by rw [← hy4]; simpa [int_cells, bool_cells, ints_cells] using hf 4 _ rfl)
  exact ⟨a, b, c, e, c4, l, rfl, hL⟩
set_option maxRecDepth 100000 in
theorem open_ask {b0 : Nat} {v : Value} {d : DataW H} {p : List MemPlace} (hv : Value.okWide Try.prog W .any b0 79 v) (h : DataW.Trod enc Try.prog W 0 (fun _ => true) true 79 v d p) :
    ∃ a b c d u l, v = .agg #[.int .i64 a, .int .i64 b, .int .i64 c, .bool d, u] ∧ Sl W u l := by
  obtain ⟨a, b, c, e, u, l, h1, h2⟩ := open_asc hv h
  exact ⟨a, b, c, e, u, l, h1, h2.1⟩
end
end Go.Proofs.Ytefcdcneenjbgab
