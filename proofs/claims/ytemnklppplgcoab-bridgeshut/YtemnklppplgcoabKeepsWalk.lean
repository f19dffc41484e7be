/-
  The walk of drawbridgelaw.MemKeeps: it answers true, whatever memory and numbers it is given; nothing that was there turns.
-/
import Derived.Test.YtemnklppplgcoabStored
namespace Go.Proofs.Ytemnklppplgcoab
open Go.RowKit

theorem Sl.shape {w : World} {v : Value} {zs : List Int} (h : Sl w v zs) : ∃ a cap, v = .slice a zs.length cap := by
  obtain ⟨a, cap, h, _⟩ := h; exact ⟨a, cap, h⟩
theorem at_in (k : Int) (w : World) :
    Calls Try.prog 34 #[.int .i64 k, .int .i64 512] w fun e w' => ∃ i, e = .returned (.int .i64 i) ∧ placeB i = true ∧ w' = w :=
  (at_any k w).mono fun e w' ⟨he, hw⟩ => ⟨k % 512, he, by simp [placeB]; omega, hw⟩

/-- A store over a slice turns no number. -/
theorem Sl.setSlice {w : World} {v : Value} {zs : List Int} (h : Sl w v zs) {p : Addr} {a : Option Addr} {n c : Nat} (hp : w.cell? p = some (.slice a n c)) (u : Value) : Sl (w.setCell p u) v zs := by
  obtain ⟨a, cap, rfl, hl, h⟩ := h
  refine ⟨a, cap, rfl, hl, ?_⟩
  rcases h with h | ⟨b, o, rfl, hlt, hc⟩
  · exact .inl h
  · refine .inr ⟨b, o, rfl, by simpa [World.setCell] using hlt, fun i hi => ?_⟩
    have hq := hc i hi
    have hne : p ≠ ⟨b, o + i, none⟩ := fun e => by rw [e, hq] at hp; simp at hp
    rw [World.cell?_setCell_other (h := hne)]
    exact hq

end Go.Proofs.Ytemnklppplgcoab
