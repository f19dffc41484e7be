/-
  The closed fact kept holds; Fill, Filled, Drop, Dropped where their answers are known.
-/
import Derived.Test.YtemnklppplgcoabFillC
import Derived.Test.YtemnklppplgcoabDropC
namespace Go.Proofs.Ytemnklppplgcoab
open Go.RowKit

theorem Ls.shape {w : World} {v : Value} {l : List Ln} (h : Ls w v l) : ∃ a cap, v = .slice a l.length cap ∧ Ls w (.slice a l.length cap) l := by
  have h' := h
  obtain ⟨a, cap, rfl, _⟩ := h
  exact ⟨a, cap, rfl, h'⟩
theorem fill_at {v : Value} {l : List Ln} {d p a : Int} {r x : Bool} {w : World} (h : Ls w v l) {e0 : Int} {c : List Ln} (hE : flE l (d, p, a, r, x) = e0) (hC : flC l (d, p, a, r, x) = c) :
    Calls Try.prog 78 #[v, .agg #[.int .i64 d, .int .i64 p, .int .i64 a, .bool r, .bool x]] w fun e w' => ∃ b cap, e = .returned (.tuple #[.slice b c.length cap, .int .i64 e0]) ∧ Ls w' (.slice b c.length cap) c ∧ Below w.heap.size w w' := by
  subst hE hC
  refine (fill_any v l d p a r x w h).mono ?_
  rintro e w' ⟨⟨v', rfl, hs⟩, hb⟩
  obtain ⟨b, cap, rfl, hs'⟩ := hs.shape
  exact ⟨b, cap, rfl, hs', hb⟩
theorem drop_at' {v : Value} {l : List Ln} {k d p : Int} {w : World} (h : Ls w v l) (k0 : -9223372036854775808 ≤ k) (k1 : k ≤ 9223372036854775807) {e0 : Int} {c : List Ln} (hE : drE l k = e0) (hC : drC l k d p = c) :
    Calls Try.prog 37 #[v, .agg #[.int .i64 k, .int .i64 d, .int .i64 p]] w fun e w' => ∃ b cap, e = .returned (.tuple #[.slice b c.length cap, .int .i64 e0]) ∧ Ls w' (.slice b c.length cap) c ∧ Below w.heap.size w w' := by
  subst hE hC
  refine (drop_any v l k d p w h k0 k1).mono ?_
  rintro e w' ⟨⟨v', rfl, hs⟩, hb⟩
  obtain ⟨b, cap, rfl, hs'⟩ := hs.shape
  exact ⟨b, cap, rfl, hs', hb⟩

def lA : Ln := (1, 2, 3, true, false)
def lB : Ln := (4, 2, 9, true, false)
theorem kA1 : flE [] (1, 2, 3, true, false) = 0 ∧ flC [] (1, 2, 3, true, false) = [lA] := by decide
theorem kA2 : flE [lA] (4, 2, 9, true, false) = 0 ∧ flC [lA] (4, 2, 9, true, false) = [lA, lB] := by decide
theorem kA3 : drE [lA, lB] 2 = 0 ∧ drC [lA, lB] 2 1 0 = [lB] := by decide
theorem kA4 : flE [lA, lB] (1, 2, 5, true, false) = 5 ∧ flC [lA, lB] (1, 2, 5, true, false) = [] := by decide
theorem kA5 : fndC [lA, lB] 4 2 = 1 ∧ fndC [lB] 4 2 = 0 ∧ chkC [lA, lB] = 0 := by decide

end Go.Proofs.Ytemnklppplgcoab
