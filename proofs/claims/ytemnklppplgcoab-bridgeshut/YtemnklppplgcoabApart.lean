/-
  No line lies in a block that holds a bridge: so a store into a bridge turns no line.
-/
import Derived.Test.YtemnklppplgcoabBox12
import Derived.Test.YtemnklppplgcoabCross
namespace Go.Proofs.Ytemnklppplgcoab
open Go.RowKit

/-- No line of these lies in this block. -/
def Apart (v : Value) (l : List Ln) (n : Nat) : Prop := l = [] ∨ ∀ b o k c, v = .slice (some ⟨b, o, none⟩) k c → b ≠ n

/-- The cells of a bridge are no line's. -/
theorem atL_bridge {w : World} {n o : Nat} {t : TypeId} {x : Ln} {i0 i1 i3 i4 i5 i7 i8 i9 i10 : Int} {p6 p11 : Bool} {sa : Option Addr} {sn sc : Nat}
    (h : Box w n t #[.int .i64 i0, .int .i64 i1, .slice sa sn sc, .int .i64 i3, .int .i64 i4, .int .i64 i5, .bool p6, .int .i64 i7, .int .i64 i8, .int .i64 i9, .int .i64 i10, .bool p11]) (hx : AtL w n o x) : False := by
  obtain ⟨_, _, h2, h3, h4⟩ := hx
  rw [h.cell] at h2 h3 h4
  by_cases ho : o < 8
  · obtain rfl | rfl | rfl | rfl | rfl | rfl | rfl | rfl : o = 0 ∨ o = 1 ∨ o = 2 ∨ o = 3 ∨ o = 4 ∨ o = 5 ∨ o = 6 ∨ o = 7 := by omega
    all_goals simp at h2 h3 h4
  · rw [Array.getElem?_eq_none (by simp; omega)] at h4
    simp at h4
theorem Ls.apart {w : World} {v : Value} {l : List Ln} (hl : Ls w v l) {n : Nat} {t : TypeId} {i0 i1 i3 i4 i5 i7 i8 i9 i10 : Int} {p6 p11 : Bool} {sa : Option Addr} {sn sc : Nat}
    (h : Box w n t #[.int .i64 i0, .int .i64 i1, .slice sa sn sc, .int .i64 i3, .int .i64 i4, .int .i64 i5, .bool p6, .int .i64 i7, .int .i64 i8, .int .i64 i9, .int .i64 i10, .bool p11]) : Apart v l n := by
  obtain ⟨a, cap, rfl, _, _, hl⟩ := hl
  rcases hl with rfl | ⟨b, o, rfl, _, hc⟩
  · exact .inl rfl
  · by_cases h0 : l = []
    · exact .inl h0
    · refine .inr fun b' o' k c e => ?_
      simp only [Value.slice.injEq, Option.some.injEq, Addr.mk.injEq, and_true] at e
      obtain ⟨⟨rfl, rfl⟩, -⟩ := e
      rintro rfl
      exact atL_bridge h (hc 0 (List.length_pos_iff.2 h0))
/-- New memory is apart from what was there. -/
theorem Ls.putAt {w : World} {v : Value} {l : List Ln} (h : Ls w v l) {n : Nat} (ha : Apart v l n) (i : Nat) (u : Value) : Ls (w.setCell ⟨n, i, none⟩ u) v l := by
  obtain ⟨a, cap, rfl, hl, hm, h⟩ := h
  refine ⟨a, cap, rfl, hl, hm, ?_⟩
  rcases h with h | ⟨b, o, rfl, hlt, hc⟩
  · exact .inl h
  · rcases ha with ha | ha
    · exact .inl ha
    · refine .inr ⟨b, o, rfl, by simpa [World.setCell] using hlt, fun j hj => (hc j hj).other fun j' _ e => ?_⟩
      simp only [Addr.mk.injEq] at e
      exact ha b o _ _ rfl e.1.symm
theorem Ls.put12 {w : World} {v : Value} {l : List Ln} (h : Ls w v l) {n : Nat} (ha : Apart v l n) (u0 u1 u2 u3 u4 u5 u6 u7 u8 u9 u10 u11 : Value) :
    Ls ((((((((((((w.setCell ⟨n, 0, none⟩ u0).setCell ⟨n, 1, none⟩ u1).setCell ⟨n, 2, none⟩ u2).setCell ⟨n, 3, none⟩ u3).setCell ⟨n, 4, none⟩ u4).setCell ⟨n, 5, none⟩ u5).setCell ⟨n, 6, none⟩ u6).setCell ⟨n, 7, none⟩ u7).setCell ⟨n, 8, none⟩ u8).setCell ⟨n, 9, none⟩ u9).setCell ⟨n, 10, none⟩ u10).setCell ⟨n, 11, none⟩ u11) v l :=
  (((((((((((h.putAt ha 0 u0).putAt ha 1 u1).putAt ha 2 u2).putAt ha 3 u3).putAt ha 4 u4).putAt ha 5 u5).putAt ha 6 u6).putAt ha 7 u7).putAt ha 8 u8).putAt ha 9 u9).putAt ha 10 u10).putAt ha 11 u11
theorem Apart.lt {v : Value} {l : List Ln} {w : World} {n : Nat} (h : Ls w v l) (hn : w.heap.size ≤ n) : Apart v l n := by
  obtain ⟨a, cap, rfl, _, _, h⟩ := h
  rcases h with rfl | ⟨b, o, rfl, hlt, _⟩
  · exact .inl rfl
  · refine .inr fun b' o' k c e => ?_
    simp only [Value.slice.injEq, Option.some.injEq, Addr.mk.injEq, and_true] at e
    omega
theorem Ls.drew {w : World} {v : Value} {l : List Ln} (h : Ls w v l) : Ls w.drew v l := h
theorem Ls.drewN {w : World} {v : Value} {l : List Ln} (h : Ls w v l) (n : Nat) : Ls (w.drewN n) v l := h
end Go.Proofs.Ytemnklppplgcoab
