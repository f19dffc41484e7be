/-
  What the walk of drawbridgelaw.CacheKeeps needs of slices and cells.
-/
import Derived.Test.YthejgilgcokngaaKept
import Derived.Test.YthejgilgcokngaaEqualL
namespace Go.Proofs.Ythejgilgcokngaa
open Go.RowKit

/-- Ten cells that are read, and nothing that has turned. -/
theorem keep10 {W w' : World} {n b o : Nat} {u0 u1 u2 u3 u4 v0 v1 v2 v3 v4 : Value} (h0 : W.cell? ⟨n, 0, none⟩ = some u0) (h1 : W.cell? ⟨n, 1, none⟩ = some u1) (h2 : W.cell? ⟨n, 2, none⟩ = some u2) (h3 : W.cell? ⟨n, 3, none⟩ = some u3) (h4 : W.cell? ⟨n, 4, none⟩ = some u4)
    (g0 : W.cell? ⟨b, o, none⟩ = some v0) (g1 : W.cell? ⟨b, o + 1, none⟩ = some v1) (g2 : W.cell? ⟨b, o + 2, none⟩ = some v2) (g3 : W.cell? ⟨b, o + 3, none⟩ = some v3) (g4 : W.cell? ⟨b, o + 4, none⟩ = some v4)
    (hn : n < W.heap.size) (hm : b < W.heap.size) (hb : Below W.heap.size W w') :
    (w'.cell? ⟨n, 0, none⟩ = some u0 ∧ w'.cell? ⟨n, 1, none⟩ = some u1 ∧ w'.cell? ⟨n, 2, none⟩ = some u2 ∧ w'.cell? ⟨n, 3, none⟩ = some u3 ∧ w'.cell? ⟨n, 4, none⟩ = some u4) ∧
    (w'.cell? ⟨b, o, none⟩ = some v0 ∧ w'.cell? ⟨b, o + 1, none⟩ = some v1 ∧ w'.cell? ⟨b, o + 2, none⟩ = some v2 ∧ w'.cell? ⟨b, o + 3, none⟩ = some v3 ∧ w'.cell? ⟨b, o + 4, none⟩ = some v4) ∧ Below W.heap.size W w' := by
  obtain ⟨c, _⟩ := bcell hb
  exact ⟨⟨(c n 0 hn).trans h0, (c n 1 hn).trans h1, (c n 2 hn).trans h2, (c n 3 hn).trans h3, (c n 4 hn).trans h4⟩, ⟨(c b o hm).trans g0, (c b _ hm).trans g1, (c b _ hm).trans g2, (c b _ hm).trans g3, (c b _ hm).trans g4⟩, hb⟩
theorem limb10 {A B C : Prop} (h : A ∧ B ∧ C) : C := h.2.2

theorem run_from (a0 : Option Addr) (n c0 q : Nat) (w0 : World) (hq : q ≤ n) :
    (Instr.slice 57 (.slice a0 n c0) (some (.int .i64 (q : Int))) none none).run Try.prog w0 = .ok (.slice (if c0 = q then a0 else a0.map (·.add (q * 5))) (n - q) (c0 - q)) w0 := by
  obtain ⟨i, hi, hz, hsz, hby⟩ := infoLine
  have h0 : (0 : Int) ≤ (q : Int) ∧ (q : Int) ≤ (n : Int) := by omega
  simp [Instr.slice, Instr.sliceBounds, Instr.sliceBound, asIntOf, run_underlying Try.underlying57, sizeOf, typeInfo, hi, hsz, hq]
/-- l[q:] of lines, as an operation: what it gives. -/
theorem slice_from {a0 : Option Addr} {c0 q : Nat} {l : List Ln} {w : World} (h : Ls w (.slice a0 l.length c0) l) (hq : q ≤ l.length) (hz : l = [] ∨ q < l.length) :
    ∃ u cu, (∀ w0, (Instr.slice 57 (.slice a0 l.length c0) (some (.int .i64 (q : Int))) none none).run Try.prog w0 = .ok (.slice u (l.length - q) cu) w0) ∧ Ls w (.slice u (l.length - q) cu) (l.drop q) := by
  refine ⟨_, _, fun w0 => run_from a0 l.length c0 q w0 hq, ?_⟩
  have h' := h
  obtain ⟨a', cap', e, hl, hm, hc⟩ := h
  simp only [Value.slice.injEq] at e
  obtain ⟨rfl, _, rfl⟩ := e
  by_cases hl0 : l = []
  · subst hl0
    have : q = 0 := by simpa using hq
    subst this
    exact Ls.nil _ _ _ (by omega)
  · have hlt : q < l.length := by
      rcases hz with hz | hz
      · exact absurd hz hl0
      · exact hz
    rcases hc with hc | ⟨b, o, rfl, hb, _⟩
    · exact absurd hc hl0
    rw [if_neg (by omega), Option.map_some, add_off]
    exact h'.drop hq
end Go.Proofs.Ythejgilgcokngaa
