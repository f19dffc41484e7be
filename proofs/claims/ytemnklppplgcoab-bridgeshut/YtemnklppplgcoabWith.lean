/-
  The closed fact 'walked' of the statements answers true; nothing that was there turns.
-/
import Derived.Test.YtemnklppplgcoabWalk2
import Derived.Test.YtemnklppplgcoabWithA
namespace Go.Proofs.Ytemnklppplgcoab
open Go.RowKit

/-- The memory of the closed fact walked. -/
def wkm : List Int := wth [16, 49, 17, 143, 25, 155] 3
theorem wkm_len : wkm.length = 512 := wth_len _ _
theorem wkd_1 : wkd wkm 2 1 false = ((true, true, false, true, 9), 0, 0) := by decide +kernel
theorem wkd_2 : wkd wkm 2 1 true = ((false, false, false, false, 0), 5, 0) := by decide +kernel
theorem wkd_3 : wkd wkm 2 13 true = ((true, true, true, true, 13), 0, 0) := by decide +kernel
theorem wkd_4 : wkd wkm 2 2 false = ((false, false, false, false, 0), 3, 0) := by decide +kernel

/-- Walk, where its answer is known. -/
theorem walk_at {v : Value} {zs : List Int} {root page : Int} {wr : Bool} {w : World} {b r x l : Bool} {p f c : Int} (hk : wkd zs root page wr = ((b, r, x, l, p), f, c)) (h : Sl w v zs) :
    Calls Try.prog 77 #[.agg #[v], .int .i64 root, .int .i64 page, .bool wr] w fun e w' => e = .returned (.tuple #[.agg #[.bool b, .bool r, .bool x, .bool l, .int .i64 p], .int .i64 f, .int .i64 c]) ∧ Below w.heap.size w w' := by
  refine (walk_any v zs root page wr w h).mono ?_
  rintro e w' ⟨⟨b', r', x', l', p', f', c', rfl, hk'⟩, hb⟩
  rw [hk] at hk'
  simp only [Prod.mk.injEq] at hk'
  obtain ⟨⟨rfl, rfl, rfl, rfl, rfl⟩, rfl, rfl⟩ := hk'
  exact ⟨rfl, hb⟩

end Go.Proofs.Ytemnklppplgcoab
