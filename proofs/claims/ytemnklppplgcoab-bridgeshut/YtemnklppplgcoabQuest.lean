/-
  Package cache: questions and its closures: at each kind of order stands what is asked of a line; nothing that was there turns.
-/
import Derived.Test.YtemnklppplgcoabIs
import Derived.Test.YtemnklppplgcoabMapB
namespace Go.Proofs.Ytemnklppplgcoab
open Go.RowKit

theorem q0_any (d1 p1 a : Int) (r x : Bool) (w : World) :
    Calls Try.prog 91 #[.agg #[.int .i64 d1, .int .i64 p1, .int .i64 a, .bool r, .bool x]] w fun e w' => e = .returned (.bool false) ∧ ∃ o, w' = w.alloc o := by
  go_enter Try.func91, Try.ntmps91
  go_wp2
  go_ret
  exact ⟨rfl, _, rfl⟩
theorem q1_any (d1 p1 a : Int) (r x : Bool) (w : World) :
    Calls Try.prog 92 #[.agg #[.int .i64 d1, .int .i64 p1, .int .i64 a, .bool r, .bool x]] w fun e w' => e = .returned (.bool true) ∧ ∃ o, w' = w.alloc o := by
  go_enter Try.func92, Try.ntmps92
  go_wp2
  go_ret
  exact ⟨rfl, _, rfl⟩
theorem q2_any (n : Nat) (d d1 p1 a : Int) (r x : Bool) (w : World) (h1 : w.cell? ⟨n, 1, none⟩ = some (.int .i64 d)) (l1 : n < w.heap.size) :
    Calls Try.prog 93 #[.agg #[.int .i64 d1, .int .i64 p1, .int .i64 a, .bool r, .bool x], .pointer (some ⟨n, 0, none⟩)] w fun e w' => e = .returned (.bool (decide (d1 = d))) ∧ ∃ o, w' = w.alloc o := by
  by_cases e1 : d1 = d
  · have q1 : (d1 == d) = true := by simpa using e1
    rw [decide_eq_true e1]
    clear e1
    go_enter Try.func93, Try.ntmps93
    go_wp2
    go_ret
    exact ⟨by simp, _, rfl⟩
  · have q1 : (d1 == d) = false := by simpa using e1
    rw [decide_eq_false e1]
    clear e1
    go_enter Try.func93, Try.ntmps93
    go_wp2
    go_ret
    exact ⟨by simp, _, rfl⟩

/-- Block b is a map keyed by int whose elements are read as they stand. -/
abbrev OwnM (w : World) (b n : Nat) (D : DataW Value) : Prop := w.ownsMap Try.prog 3 Rv b n D

theorem wpList_insert_M {w : World} {ops : Array Oper} {rest : List Oper} {o : Oper} {a : Act} {Q : Exit → Act → World → Prop} (hg : o.guard = none) (m x v : Operand) (hop : o.op = Op.insert 103 m x v) (b n : Nat) (D : DataW Value)
    (hm : a.eval m = .map (some b)) (hown : OwnM w b n D) (z : Int) (val : Value) (hx : a.eval x = .int .i64 z) (hv : a.eval v = val) (h0 : 0 ≤ z) (h1 : z < 1000) (hn : n < 1000)
    (hK : ∀ w', OwnM w' b (n + 1) (D.put (.int .i64 z) (.held val)) → w.grownBy w' (some b) → wpList Try.prog ops Q rest (a.put o.dst undef) w') : wpList Try.prog ops Q (o :: rest) a w := by
  refine wpList_plain hg fun K' hK' => ?_
  obtain ⟨w', hrun, r1, r2⟩ := hown.update law_int Try.underlying103 (by unfold maxLen; omega) (key_int h0 h1) (val := val) (d := .held val) (ps := []) rfl
  unfold Oper.wp
  simp [execOp, hop, hm, hx, hv, hrun, Result.andThen]
  exact hK' _ _ (hK w' r1 r2)

/-- What questions lays. -/
def qsD (n u v : Nat) : DataW Value :=
  ((((DataW.map []).put (.int .i64 0) (.held (.func (.func 91) #[] #[]))).put (.int .i64 1) (.held (.func (.func 92) #[] #[]))).put (.int .i64 2) (.held (.func (.func 93) #[] #[.pointer (some ⟨n, 0, none⟩)]))).put (.int .i64 3) (.held (.func (.func 90) #[] #[.pointer (some ⟨u, 0, none⟩), .pointer (some ⟨v, 0, none⟩)]))
/-- Block b holds the questions of this order. -/
def Asks (w : World) (b : Nat) (d p : Int) : Prop :=
  ∃ n u v, OwnM w b 4 (qsD n u v) ∧ (w.cell? ⟨n, 1, none⟩ = some (.int .i64 d) ∧ n < w.heap.size) ∧ (w.cell? ⟨u, 0, none⟩ = some (.int .i64 d) ∧ u < w.heap.size) ∧ (w.cell? ⟨v, 0, none⟩ = some (.int .i64 p) ∧ v < w.heap.size)

theorem grown_cell {w w' : World} {b n o : Nat} {x : Option Value} (h : w.cell? ⟨n, o, none⟩ = x) (hg : w.grownBy w' (some b)) (hne : ¬ n = b) (hl : n < w.heap.size) : w'.cell? ⟨n, o, none⟩ = x := by
  rw [← h]
  exact World.cell?_of_block (a := ⟨n, o, none⟩) (hg.block n hl (by simpa using hne))

theorem Blk.grown {w w' : World} {n b : Nat} {cs : Array Value} (h : Blk w n cs) (hg : w.grownBy w' (some b)) (hne : ¬ n = b) : Blk w' n cs := by
  have hl := h.lt
  obtain ⟨t, fr, h⟩ := h
  exact ⟨t, fr, by rw [hg.block n hl (by simpa using hne)]; exact h⟩

set_option maxHeartbeats 1000000 in
theorem questions_any (k d p : Int) (w : World) :
    Calls Try.prog 70 #[.agg #[.int .i64 k, .int .i64 d, .int .i64 p]] w fun e w' => (∃ b, e = .returned (.map (some b)) ∧ Asks w' b d p) ∧ Below w.heap.size w w' := by
  have hmm := @run_makeMap Try.prog
  have hmf : ∀ (fn : Fn) (first cap : Array Value) (w : World), (Instr.makeFunc fn first cap).run Try.prog w = .ok (.func fn first cap) w := fun _ _ _ _ => rfl
  go_enter Try.func70, Try.ntmps70
  go_wp2_with (first | (refine wpList_insert_M rfl (.tmp 3) _ _ rfl (w.heap.size + 1) 0 (DataW.map []) rfl (by have := World.ownsMap_made (w.alloc (.cells #[.int .i64 k, .int .i64 d, .int .i64 p] 23)) Try.prog 3 Rv; simpa using this) 0 _ rfl rfl (by omega) (by omega) (by omega) ?_))
  intro w1 o1 g1
  have b1 : Hid (Below w.heap.size w w1) := (bel_alloc (bel_alloc (Below.refl _ _) _) _).grown g1 (by simp; omega) (fun j hj => by cases hj; omega)
  have s1 : Hid (w.heap.size + 1 + 1 ≤ w1.heap.size) := by show _ ≤ _; have := g1.size; simpa using this
  have k1 := ((Blk.new w #[.int .i64 k, .int .i64 d, .int .i64 p] 23 (0, 0)).past (.map #[] 0)).grown g1 (by omega)
  clear g1
  go_wp2_with (first | (refine wpList_insert_M rfl (.tmp 3) _ _ rfl (w.heap.size + 1) 1 _ rfl o1 1 _ rfl rfl (by omega) (by omega) (by omega) ?_))
  intro w2 o2 g2
  have b2 : Hid (Below w.heap.size w w2) := b1.out.grown g2 b1.out.size (fun j hj => by cases hj; omega)
  have s2 : Hid (w.heap.size + 1 + 1 ≤ w2.heap.size) := Nat.le_trans s1.out g2.size
  have k2 := k1.grown g2 (by omega)
  clear g2 b1 s1 k1 o1
  go_wp2_with (first | (refine wpList_insert_M rfl (.tmp 3) _ _ rfl (w.heap.size + 1) 2 _ rfl o2 2 _ rfl rfl (by omega) (by omega) (by omega) ?_))
  intro w3 o3 g3
  have b3 : Hid (Below w.heap.size w w3) := b2.out.grown g3 b2.out.size (fun j hj => by cases hj; omega)
  have s3 : Hid (w.heap.size + 1 + 1 ≤ w3.heap.size) := Nat.le_trans s2.out g3.size
  have k3 := k2.grown g3 (by omega)
  clear g3 b2 s2 k2 o2
  obtain ⟨c0, c1, c2⟩ := k3.three
  have l3 := k3.lt
  go_wp2_with (first | (go_at_call 69; refine (isOf_any d p w3).mono ?_; rintro e wq ⟨rfl, rfl⟩) | (refine wpList_insert_M rfl (.tmp 3) _ _ rfl (w.heap.size + 1) 3 _ rfl ((o3.alloc _).alloc _) 3 _ rfl rfl (by omega) (by omega) (by omega) ?_))
  intro w4 o4 g4
  have b4 : Hid (Below w.heap.size w w4) := (bel_alloc (bel_alloc b3.out _) _).grown g4 (by have := s3.out; simp; omega) (fun j hj => by cases hj; omega)
  have e3 := s3.out
  have hu : w4.cell? ⟨w3.heap.size, 0, none⟩ = some (.int .i64 d) := grown_cell (by simp [go_sem]) g4 (by omega) (by simp; omega)
  have hv : w4.cell? ⟨w3.heap.size + 1, 0, none⟩ = some (.int .i64 p) := grown_cell (by simp [go_sem]) g4 (by omega) (by simp)
  have z4 : w3.heap.size + 1 + 1 ≤ w4.heap.size := by have := g4.size; simpa using this
  have HA : Hid (Asks w4 (w.heap.size + 1) d p) := ⟨w.heap.size, w3.heap.size, w3.heap.size + 1, o4, ⟨(((k3.past _).past _).grown g4 (by omega)).three.2.1, by omega⟩, ⟨hu, by omega⟩, ⟨hv, by omega⟩⟩
  clear o4 g4 hu hv k3 o3
  go_wp2
  go_ret
  exact ⟨⟨_, rfl, HA.out⟩, b4.out⟩

theorem zero_func (w : World) : (zeroValue 100).run Try.prog w = .ok .nilFunc w := by kernel_rfl
theorem isKey_int (z : Int) : WideAt.IsKeyLit (.int .i64 z) := trivial
theorem qs_is (n u v : Nat) : Maps.IsMap (qsD n u v) := (((Maps.isMap_empty.put _ _).put _ _).put _ _).put _ _
theorem qs_0 (n u v : Nat) (x : DataW Value) : (qsD n u v).atKey (.int .i64 0) x = .held (.func (.func 91) #[] #[]) ∧ Maps.has (qsD n u v) (.int .i64 0) = true := ⟨rfl, rfl⟩
theorem qs_1 (n u v : Nat) (x : DataW Value) : (qsD n u v).atKey (.int .i64 1) x = .held (.func (.func 92) #[] #[]) ∧ Maps.has (qsD n u v) (.int .i64 1) = true := ⟨rfl, rfl⟩
theorem qs_2 (n u v : Nat) (x : DataW Value) : (qsD n u v).atKey (.int .i64 2) x = .held (.func (.func 93) #[] #[.pointer (some ⟨n, 0, none⟩)]) ∧ Maps.has (qsD n u v) (.int .i64 2) = true := ⟨rfl, rfl⟩
theorem qs_3 (n u v : Nat) (x : DataW Value) : (qsD n u v).atKey (.int .i64 3) x = .held (.func (.func 90) #[] #[.pointer (some ⟨u, 0, none⟩), .pointer (some ⟨v, 0, none⟩)]) ∧ Maps.has (qsD n u v) (.int .i64 3) = true := ⟨rfl, rfl⟩
theorem qs_no (n u v : Nat) (x : DataW Value) {z : Int} (h : ¬ (0 ≤ z ∧ z ≤ 3)) : (qsD n u v).atKey (.int .i64 z) x = x ∧ Maps.has (qsD n u v) (.int .i64 z) = false := by
  have hh : Maps.has (qsD n u v) (.int .i64 z) = false := by
    unfold qsD
    rw [Maps.has_put_other (by simp; omega), Maps.has_put_other (by simp; omega), Maps.has_put_other (by simp; omega), Maps.has_put_other (by simp; omega)]
    rfl
  exact ⟨Maps.atKey_of_not_has hh x, hh⟩

theorem look_ok {w : World} {b : Nat} {D : DataW Value} (h : OwnM w b 4 D) {z : Int} (h0 : -9223372036854775808 ≤ z) (h1 : z ≤ 9223372036854775807) {f : Value} {t : Bool} (hD : D.atKey (.int .i64 z) (.held .nilFunc) = .held f ∧ Maps.has D (.int .i64 z) = t) :
    (Instr.lookup 103 (.map (some b)) (.int .i64 z) true).run Try.prog w = .ok (.tuple #[f, .bool t]) w := by
  obtain ⟨v, ps, hrun, hv⟩ := h.look_ok law_int Try.underlying103 (zero_func w) (zd := .held .nilFunc) (zp := []) rfl (key_all h0 h1)
  rw [hD.1] at hv
  rw [hD.2] at hrun
  simp only [Rv, Option.some.injEq, Prod.mk.injEq, DataW.held.injEq] at hv
  rw [hrun, hv.1]
theorem Asks.at0 {w : World} {b : Nat} {d p : Int} (h : Asks w b d p) : (Instr.lookup 103 (.map (some b)) (.int .i64 0) true).run Try.prog w = .ok (.tuple #[.func (.func 91) #[] #[], .bool true]) w := by
  obtain ⟨n, u, v, h, _⟩ := h; exact look_ok h (by decide) (by decide) (qs_0 n u v _)
theorem Asks.at1 {w : World} {b : Nat} {d p : Int} (h : Asks w b d p) : (Instr.lookup 103 (.map (some b)) (.int .i64 1) true).run Try.prog w = .ok (.tuple #[.func (.func 92) #[] #[], .bool true]) w := by
  obtain ⟨n, u, v, h, _⟩ := h; exact look_ok h (by decide) (by decide) (qs_1 n u v _)
theorem Asks.at2 {w : World} {b : Nat} {d p : Int} (h : Asks w b d p) : ∃ n, (Instr.lookup 103 (.map (some b)) (.int .i64 2) true).run Try.prog w = .ok (.tuple #[.func (.func 93) #[] #[.pointer (some ⟨n, 0, none⟩)], .bool true]) w ∧ w.cell? ⟨n, 1, none⟩ = some (.int .i64 d) ∧ n < w.heap.size := by
  obtain ⟨n, u, v, h, hn, _⟩ := h; exact ⟨n, look_ok h (by decide) (by decide) (qs_2 n u v _), hn⟩
theorem Asks.at3 {w : World} {b : Nat} {d p : Int} (h : Asks w b d p) : ∃ u v, (Instr.lookup 103 (.map (some b)) (.int .i64 3) true).run Try.prog w = .ok (.tuple #[.func (.func 90) #[] #[.pointer (some ⟨u, 0, none⟩), .pointer (some ⟨v, 0, none⟩)], .bool true]) w ∧ (w.cell? ⟨u, 0, none⟩ = some (.int .i64 d) ∧ u < w.heap.size) ∧ (w.cell? ⟨v, 0, none⟩ = some (.int .i64 p) ∧ v < w.heap.size) := by
  obtain ⟨n, u, v, h, _, hu, hv⟩ := h; exact ⟨u, v, look_ok h (by decide) (by decide) (qs_3 n u v _), hu, hv⟩
theorem Asks.no {w : World} {b : Nat} {d p : Int} (h : Asks w b d p) {z : Int} (h0 : -9223372036854775808 ≤ z) (h1 : z ≤ 9223372036854775807) (hz : ¬ (0 ≤ z ∧ z ≤ 3)) : (Instr.lookup 103 (.map (some b)) (.int .i64 z) true).run Try.prog w = .ok (.tuple #[.nilFunc, .bool false]) w := by
  obtain ⟨n, u, v, h, _⟩ := h; exact look_ok h h0 h1 (qs_no n u v _ hz)
end Go.Proofs.Ytemnklppplgcoab
