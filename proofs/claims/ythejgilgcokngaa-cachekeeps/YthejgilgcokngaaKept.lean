/-
  The closed fact kept holds; Fill, Filled, Drop, Dropped where their answers are known.
-/
import Derived.Test.YthejgilgcokngaaFillC
import Derived.Test.YthejgilgcokngaaDropC
namespace Go.Proofs.Ythejgilgcokngaa
open Go.RowKit

theorem Ls.shape {w : World} {v : Value} {l : List Ln} (h : Ls w v l) : ∃ a cap, v = .slice a l.length cap ∧ Ls w (.slice a l.length cap) l := by
  have h' := h
  obtain ⟨a, cap, rfl, _⟩ := h
  exact ⟨a, cap, rfl, h'⟩
theorem fill_at {v : Value} {l : List Ln} {d p a : Int} {r x : Bool} {w : World} (h : Ls w v l) {e0 : Int} {c : List Ln} (hE : flE l (d, p, a, r, x) = e0) (hC : flC l (d, p, a, r, x) = c) :
    Calls Try.prog 35 #[v, .agg #[.int .i64 d, .int .i64 p, .int .i64 a, .bool r, .bool x]] w fun e w' => ∃ b cap, e = .returned (.tuple #[.slice b c.length cap, .int .i64 e0]) ∧ Ls w' (.slice b c.length cap) c ∧ Below w.heap.size w w' := by
  subst hE hC
  refine (fill_any v l d p a r x w h).mono ?_
  rintro e w' ⟨⟨v', rfl, hs⟩, hb⟩
  obtain ⟨b, cap, rfl, hs'⟩ := hs.shape
  exact ⟨b, cap, rfl, hs', hb⟩
theorem drop_at' {v : Value} {l : List Ln} {k d p : Int} {w : World} (h : Ls w v l) (k0 : -9223372036854775808 ≤ k) (k1 : k ≤ 9223372036854775807) {e0 : Int} {c : List Ln} (hE : drE l k = e0) (hC : drC l k d p = c) :
    Calls Try.prog 36 #[v, .agg #[.int .i64 k, .int .i64 d, .int .i64 p]] w fun e w' => ∃ b cap, e = .returned (.tuple #[.slice b c.length cap, .int .i64 e0]) ∧ Ls w' (.slice b c.length cap) c ∧ Below w.heap.size w w' := by
  subst hE hC
  refine (drop_any v l k d p w h k0 k1).mono ?_
  rintro e w' ⟨⟨v', rfl, hs⟩, hb⟩
  obtain ⟨b, cap, rfl, hs'⟩ := hs.shape
  exact ⟨b, cap, rfl, hs', hb⟩

def lA : Ln := (1, 2, 3, true, false)
def lB : Ln := (4, 2, 9, true, false)
theorem kA1 : flE [] (1, 2, 3, true, false) = 0 ∧ flC [] (1, 2, 3, true, false) = [lA] := by decide
theorem kA2 : flE [lA] (4, 2, 9, true, false) = 0 ∧ flC [lA] (4, 2, 9, true, false) = [lA, lB] := by decide
theorem kA3 : drE [lA, lB] 2 = 0 ∧ drC [lA, lB] 2 1 0 = [lB] := by decide
theorem kA4 : flE [lA, lB] (1, 2, 5, true, false) = 5 ∧ flC [lA, lB] (1, 2, 5, true, false) = [] := by decide
theorem kA5 : fndC [lA, lB] 4 2 = 1 ∧ fndC [lB] 4 2 = 0 ∧ chkC [lA, lB] = 0 := by decide

set_option maxHeartbeats 1000000 in
theorem kept_true (w : World) : Calls Try.prog 39 #[] w fun e w' => e = .returned (.bool true) ∧ Below w.heap.size w w' := by
  go_enter Try.func39, Try.ntmps39
  go_wp2_with fail
  refine (fill_at (Ls.nothing _) kA1.1 kA1.2).mono ?_
  rintro e w1 ⟨b1, c1, rfl, h1, B1⟩
  have HB1 : Hid _ := B1
  have H1 : Hid _ := h1
  clear B1 h1
  go_wp2_with fail
  refine (fill_at H1.out kA2.1 kA2.2).mono ?_
  rintro e w2 ⟨b2, c2, rfl, h2, B2⟩
  have HB2 : Hid (Below w.heap.size w w2) := bel_trans HB1.out B2
  have H2 : Hid (Ls w2 (.slice b2 [lA, lB].length c2) [lA, lB]) := h2
  clear B2 h2 HB1 H1
  go_wp2_with fail
  refine (drop_at' H2.out (by decide) (by decide) kA3.1 kA3.2).mono ?_
  rintro e w3 ⟨b3, c3, rfl, h3, B3⟩
  have HB3 : Hid (Below w.heap.size w w3) := bel_trans HB2.out B3
  have H3 : Hid (Ls w3 (.slice b3 [lB].length c3) [lB]) := h3
  have H2' : Hid (Ls w3 (.slice b2 [lA, lB].length c2) [lA, lB]) := H2.out.keep B3
  clear B3 h3 HB2 H2
  go_wp2_with fail
  refine (fill_at H2'.out kA4.1 kA4.2).mono ?_
  rintro e w4 ⟨b4, c4, rfl, h4, B4⟩
  have HB4 : Hid (Below w.heap.size w w4) := bel_trans HB3.out B4
  have H34 : Hid (Ls w4 (.slice b3 [lB].length c3) [lB]) := H3.out.keep B4
  have H24 : Hid (Ls w4 (.slice b2 [lA, lB].length c2) [lA, lB]) := H2'.out.keep B4
  clear B4 h4 HB3 H3 H2'
  go_wp2_with fail
  refine (cFind_any _ [lA, lB] 4 2 _ H24.out).mono ?_
  rw [kA5.1]
  rintro e w5 ⟨rfl, B5⟩
  have HB5 : Hid (Below w.heap.size w w5) := bel_trans HB4.out B5
  have H35 : Hid (Ls w5 (.slice b3 [lB].length c3) [lB]) := H34.out.keep B5
  have H25 : Hid (Ls w5 (.slice b2 [lA, lB].length c2) [lA, lB]) := H24.out.keep B5
  clear B5 HB4 H34 H24
  go_wp2_with fail
  refine (cFind_any _ [lB] 4 2 _ H35.out).mono ?_
  rw [kA5.2.1]
  rintro e w6 ⟨rfl, B6⟩
  have HB6 : Hid (Below w.heap.size w w6) := bel_trans HB5.out B6
  have H26 : Hid (Ls w6 (.slice b2 [lA, lB].length c2) [lA, lB]) := H25.out.keep B6
  clear B6 HB5 H35 H25
  go_wp2_with fail
  refine (cCheck_any _ [lA, lB] _ H26.out).mono ?_
  rw [kA5.2.2]
  rintro e w7 ⟨rfl, B7⟩
  have HB7 : Hid (Below w.heap.size w w7) := bel_trans HB6.out B7
  clear B7 HB6 H26
  go_wp2
  go_ret
  exact ⟨rfl, HB7.out⟩
end Go.Proofs.Ythejgilgcokngaa
