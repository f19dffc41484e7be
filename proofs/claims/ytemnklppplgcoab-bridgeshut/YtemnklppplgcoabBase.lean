/-
  What the walks of this seat share: when a slice of ints reads as a list of numbers in a world (Sl), and that nothing of it turns while the world only grows (Below).
-/
import Derived.Test.YtemnklppplgcoabRows
import Derived.WalkKit
import Derived.WalkSpells
import Derived.WalkLawsBesides
import Derived.Below
import Derived.WalkSmall
import Derived.Deep.QuietTactic
import Derived.BigQuiet
import Derived.Deep.Draws
namespace Go.Proofs.Ytemnklppplgcoab
open Go.RowKit

/-- The number at a place: a plain name, so that the walk's own rules leave it standing. -/
def nth (zs : List Int) (i : Nat) : Int := zs.getD i 0

theorem getElem?_nth {zs : List Int} {i : Nat} (h : i < zs.length) : zs[i]? = some (nth zs i) := by simp [nth, h]

/-- A slice reads as a list of numbers in a world. -/
def Sl (w : World) (v : Value) (zs : List Int) : Prop :=
  ∃ a cap, v = .slice a zs.length cap ∧ zs.length ≤ maxLen ∧
    (zs = [] ∨ ∃ b o, a = some ⟨b, o, none⟩ ∧ b < w.heap.size ∧ ∀ i, i < zs.length → w.cell? ⟨b, o + i, none⟩ = some (.int .i64 (nth zs i)))

theorem Sl.keep {w w' : World} {v : Value} {zs : List Int} (h : Sl w v zs) (hb : Below w.heap.size w w') : Sl w' v zs := by
  obtain ⟨a, cap, rfl, hl, h⟩ := h
  refine ⟨a, cap, rfl, hl, ?_⟩
  rcases h with h | ⟨b, o, rfl, hlt, hc⟩
  · exact .inl h
  · exact .inr ⟨b, o, rfl, Nat.lt_of_lt_of_le hlt hb.size, fun i hi => by rw [hb.cell (p := ⟨b, o + i, none⟩) hlt]; exact hc i hi⟩

theorem Sl.nil (w : World) (a : Option Addr) (cap : Nat) : Sl w (.slice a 0 cap) [] := ⟨a, cap, rfl, by simp [maxLen], .inl rfl⟩

/-- A block that holds the numbers and no more. -/
theorem sl_block {w : World} {b n cap : Nat} {t : TypeId} {fr : Nat × Nat} {cs : Array Value} {zs : List Int} (hb : w.heap[b]? = some (.cells cs t fr)) (hcs : cs.toList = zs.map (fun z => Value.int .i64 z)) (hn : n = zs.length) (hm : zs.length ≤ maxLen) :
    Sl w (.slice (some ⟨b, 0, none⟩) n cap) zs := by
  subst hn
  refine ⟨_, cap, rfl, hm, .inr ⟨b, 0, rfl, ?_, fun i hi => ?_⟩⟩
  · rcases Nat.lt_or_ge b w.heap.size with h | h
    · exact h
    · rw [Array.getElem?_eq_none h] at hb; exact absurd hb (by simp)
  · rw [Nat.zero_add, cell_of_row w b i cs t fr hb, ← Array.getElem?_toList, hcs, List.getElem?_map, List.getElem?_eq_getElem hi]
    simp [nth, hi]

theorem heap_push (w : World) (o : Obj) : (w.alloc o).heap = w.heap.push o := rfl

theorem heap_at {w : World} {o : Obj} {n : Nat} (h : n = w.heap.size) : (w.alloc o).heap[n]? = some o := by subst h; exact heap_alloc_new w o
theorem heap_past {w : World} {o : Obj} {n : Nat} {x : Option Obj} (h : n < w.heap.size) (k : w.heap[n]? = x) : (w.alloc o).heap[n]? = x := by rw [heap_alloc_old w o h]; exact k
theorem heap_drawn {w : World} {m n : Nat} {x : Option Obj} (k : w.heap[n]? = x) : (w.drewN m).heap[n]? = x := k

/-- Nothing old has turned: a new block; some draws; a store into a new block. -/
theorem bel_alloc {a w : World} (h : Below a.heap.size a w) (o : Obj) : Below a.heap.size a (w.alloc o) := h.alloc h.size o
theorem bel_drewN {a w : World} (h : Below a.heap.size a w) (n : Nat) : Below a.heap.size a (w.drewN n) := below_drewN h n
theorem bel_trans {a b c : World} (h : Below a.heap.size a b) (k : Below b.heap.size b c) : Below a.heap.size a c := h.trans (k.mono h.size)

/-- Old cells and marks behind a call that only grows the world. -/
theorem bcell {W w1 : World} (hb : Below W.heap.size W w1) : (∀ b o, b < W.heap.size → w1.cell? ⟨b, o, none⟩ = W.cell? ⟨b, o, none⟩) ∧ (∀ b o, b < W.heap.size → w1.frozen? ⟨b, o, none⟩ = W.frozen? ⟨b, o, none⟩) :=
  ⟨fun b o h => hb.cell (p := ⟨b, o, none⟩) h, fun b o h => hb.frozen (p := ⟨b, o, none⟩) h⟩

theorem ret_bool {a b : Bool} (h : a = b) : Ending.returned (.bool a) = .returned (.bool b) := by rw [h]
theorem ret_int {k : IntKind} {a b : Int} (h : a = b) : Ending.returned (.int k a) = .returned (.int k b) := by rw [h]

/-- Two lists of one length that agree at every place are one. -/
theorem list_ext_getD {xs ys : List Int} (hl : xs.length = ys.length) (h : ∀ i, i < xs.length → nth xs i = nth ys i) : xs = ys := by
  apply List.ext_getElem hl
  intro i h1 h2
  have := h i h1
  simpa [nth, List.getD_eq_getElem?_getD, List.getElem?_eq_getElem h1, List.getElem?_eq_getElem h2] using this

theorem ne_of_getD {xs ys : List Int} {i : Nat} (h : ¬ nth xs i = nth ys i) : xs ≠ ys := fun e => h (by rw [e])
end Go.Proofs.Ytemnklppplgcoab
