/-
  drawbridgelaw.CacheKeeps returns true at whatever lines, line and order; nothing that was there turns.
-/
import Derived.Test.YthejgilgcokngaaCacheKeepsBad
import Derived.Test.YthejgilgcokngaaCacheKeepsOk
import Derived.Test.YthejgilgcokngaaCacheKeepsNil
namespace Go.Proofs.Ythejgilgcokngaa
open Go.RowKit

theorem cacheKeeps_walk (v : Value) (l : List Ln) (d p a : Int) (r x : Bool) (k f g : Int) (w : World) (h : Ls w v l) (hk : -9223372036854775808 ≤ k ∧ k ≤ 9223372036854775807) :
    Calls Try.prog 12 #[v, .agg #[.int .i64 d, .int .i64 p, .int .i64 a, .bool r, .bool x], .agg #[.int .i64 k, .int .i64 f, .int .i64 g]] w fun e w' => e = .returned (.bool true) ∧ Below w.heap.size w w' := by
  obtain ⟨a0, c0, rfl, hs⟩ := h.shape
  by_cases hc : l = [] ∧ c0 = 0
  · obtain ⟨rfl, rfl⟩ := hc
    exact keeps_nil a0 d p a r x k f g w hs hk
  · by_cases hE0 : flE l (d, p, a, r, x) = 0
    · exact keeps_ok a0 c0 l d p a r x k f g w hs hk (fun h1 h2 => hc ⟨h1, h2⟩) hE0
    · exact keeps_bad a0 c0 l d p a r x k f g w hs hk hE0
end Go.Proofs.Ythejgilgcokngaa
