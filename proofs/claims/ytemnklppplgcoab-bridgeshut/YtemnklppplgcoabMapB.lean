/-
  A map of the call's own, as what stands at each number: for map[int]bool (Seen), and for any map keyed by int (OwnM).
-/
import Derived.Test.YtemnklppplgcoabLines
import Derived.Maps.OwnOps
import Derived.Maps.OwnSet
namespace Go.Proofs.Ytemnklppplgcoab
open Go.RowKit

/-- A map's element is read as it stands. -/
def Rv (v : Value) : Option (DataW Value × List MemPlace) := some (.held v, [])
theorem law_int : Maps.Keyed Try.prog 3 := Maps.int_keyed Try.underlying3
theorem key_int {z : Int} (h0 : 0 ≤ z) (h1 : z < 1000) : keyOf Try.prog 3 (.int .i64 z) = some (.int .i64 z) := Maps.keyOf_int_mk Try.underlying3 (WalkArith.wf_i64 (by omega))
theorem key_all {z : Int} (h0 : -9223372036854775808 ≤ z) (h1 : z ≤ 9223372036854775807) : keyOf Try.prog 3 (.int .i64 z) = some (.int .i64 z) := Maps.keyOf_int_mk Try.underlying3 (WalkArith.wf_i64 (by omega))
theorem zero_bool (w : World) : (zeroValue 4).run Try.prog w = .ok (.bool false) w := by kernel_rfl

theorem grown_none {w w' : World} (h : Below w.heap.size w w') : w.grownBy w' none := ⟨h.os, h.tape, h.output, h.size, fun k hk _ => h.block k hk⟩

/-- Block b is a map[int]bool that holds true at these numbers and no others. -/
def Seen (w : World) (b n : Nat) (ks : List Int) : Prop :=
  ∃ D, w.ownsMap Try.prog 3 Rv b n D ∧ ∀ z, D.atKey (.int .i64 z) (.held (.bool false)) = .held (.bool (decide (z ∈ ks)))

theorem Seen.new (w : World) : Seen (w.alloc (.map #[] 0)) w.heap.size 0 [] := ⟨_, World.ownsMap_made _ _ _ _, fun z => by simp [DataW.atKey]⟩
theorem Seen.keep {w w' : World} {b n : Nat} {ks : List Int} (h : Seen w b n ks) (hb : Below w.heap.size w w') : Seen w' b n ks := by
  obtain ⟨D, h1, h2⟩ := h
  exact ⟨D, h1.kept (grown_none hb) (by simp), h2⟩
theorem Seen.lt {w : World} {b n : Nat} {ks : List Int} (h : Seen w b n ks) : b < w.heap.size := by obtain ⟨D, h1, _⟩ := h; exact h1.lt

theorem wpList_seen {w : World} {ops : Array Oper} {rest : List Oper} {o : Oper} {a : Act} {Q : Exit → Act → World → Prop} (hg : o.guard = none) (m x : Operand) (hop : o.op = Op.lookup 111 m x false) (b n : Nat) (ks : List Int)
    (hm : a.eval m = .map (some b)) (h : Seen w b n ks) (z : Int) (hx : a.eval x = .int .i64 z) (h0 : 0 ≤ z) (h1 : z < 1000)
    (hK : wpList Try.prog ops Q rest (a.put o.dst (.bool (decide (z ∈ ks)))) w) : wpList Try.prog ops Q (o :: rest) a w := by
  refine wpList_plain hg fun K' hK' => ?_
  obtain ⟨D, hown, hD⟩ := h
  obtain ⟨v, ps, hrun, hv⟩ := hown.lookup law_int Try.underlying111 (zero_bool w) (zd := .held (.bool false)) (zp := []) rfl (key_int h0 h1)
  rw [hD z] at hv
  simp only [Rv, Option.some.injEq, Prod.mk.injEq, DataW.held.injEq] at hv
  unfold Oper.wp
  simp [execOp, hop, hm, hx, hrun, Result.andThen]
  rw [hv.1]
  exact hK' _ _ hK

theorem wpList_see {w : World} {ops : Array Oper} {rest : List Oper} {o : Oper} {a : Act} {Q : Exit → Act → World → Prop} (hg : o.guard = none) (m x v : Operand) (hop : o.op = Op.mapUpdate 111 m x v) (b n : Nat) (ks : List Int)
    (hm : a.eval m = .map (some b)) (h : Seen w b n ks) (z : Int) (hx : a.eval x = .int .i64 z) (hv : a.eval v = .bool true) (h0 : 0 ≤ z) (h1 : z < 1000) (hn : n < 1000)
    (hK : ∀ w', Seen w' b (n + 1) (z :: ks) → w.grownBy w' (some b) → wpList Try.prog ops Q rest (a.put o.dst undef) w') : wpList Try.prog ops Q (o :: rest) a w := by
  obtain ⟨D, hown, hD⟩ := h
  refine wpList_mapUpdate_own w hg m x v 111 hop 3 4 law_int Try.underlying111 Rv b n D hm hown (by unfold maxLen; omega) _ _ _ hx hv (key_int h0 h1) (.held (.bool true)) [] rfl ?_
  intro w' hown' hgr
  refine hK w' ⟨_, hown', fun y => ?_⟩ hgr
  by_cases e : y = z
  · subst e
    rw [Maps.atKey_put_same hown.isMap (law_int.key (key_int h0 h1))]
    simp
  · rw [Maps.atKey_put_other (by simpa using e), hD y]
    simp [e]
end Go.Proofs.Ytemnklppplgcoab
