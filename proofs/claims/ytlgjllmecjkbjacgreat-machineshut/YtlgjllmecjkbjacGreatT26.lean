/-
  Laid together: AppendE, ToldL, ToldS, Hps, MRunB, MRun.
-/
import Derived.Test.YtlgjllmecjkbjacGreatT25
/-
  append of a row that may be empty, to a row of its own that may be nil: numbers (I), touches (T).
-/
namespace Go.Proofs.YtlgjllmecjkbjacGreat
open Go.RowKit
end Go.Proofs.YtlgjllmecjkbjacGreat
/-
  A slice of what is told, raw (four cells each), reads as a list in a world (Qs); append of such to a row of its own (OwnQ); what they mean (Tos).
-/
namespace Go.Proofs.YtlgjllmecjkbjacGreat
open Go.RowKit
structure Tq where
  done : Bool
  da : Option Addr
  dn : Nat
  dc : Nat
  f : Int
  ta : Option Addr
  tn : Nat
  tc : Nat
def qth (l : List Tq) (i : Nat) : Tq := (l[i]?).getD ⟨false, none, 0, 0, 0, none, 0, 0⟩
def cellsQ (x : Tq) : List Value := [.bool x.done, .slice x.da x.dn x.dc, .int .i64 x.f, .slice x.ta x.tn x.tc]
def AtQ (w : World) (b o : Nat) (x : Tq) : Prop :=
  w.cell? ⟨b, o, none⟩ = some (.bool x.done) ∧ w.cell? ⟨b, o + 1, none⟩ = some (.slice x.da x.dn x.dc) ∧ w.cell? ⟨b, o + 2, none⟩ = some (.int .i64 x.f) ∧ w.cell? ⟨b, o + 3, none⟩ = some (.slice x.ta x.tn x.tc)
def Qs (w : World) (v : Value) (l : List Tq) : Prop :=
  ∃ a cap, v = .slice a l.length cap ∧ l.length ≤ cap ∧ cap ≤ maxLen ∧
    (l = [] ∨ ∃ b o, a = some ⟨b, o, none⟩ ∧ b < w.heap.size ∧ ∀ i, i < l.length → AtQ w b (o + i * 4) (qth l i))
theorem AtQ.keep {w w' : World} {b o : Nat} {x : Tq} (h : AtQ w b o x) (hb : Below w.heap.size w w') (hl : b < w.heap.size) : AtQ w' b o x := by
  obtain ⟨c, _⟩ := bcell hb
  unfold AtQ
  rw [c _ _ hl, c _ _ hl, c _ _ hl, c _ _ hl]
  exact h
theorem Qs.keep {w w' : World} {v : Value} {l : List Tq} (h : Qs w v l) (hb : Below w.heap.size w w') : Qs w' v l := by
  obtain ⟨a, cap, rfl, hl, hm, h⟩ := h
  refine ⟨a, cap, rfl, hl, hm, ?_⟩
  rcases h with h | ⟨b, o, rfl, hlt, hc⟩
  · exact .inl h
  · exact .inr ⟨b, o, rfl, Nat.lt_of_lt_of_le hlt hb.size, fun i hi => (hc i hi).keep hb hlt⟩
theorem Qs.alloc {w : World} {v : Value} {l : List Tq} (h : Qs w v l) (o : Obj) : Qs (w.alloc o) v l := h.keep (bel_alloc (Below.refl _ _) _)
theorem Qs.nil (w : World) (a : Option Addr) (cap : Nat) (h : cap ≤ maxLen) : Qs w (.slice a 0 cap) [] := ⟨a, cap, rfl, Nat.zero_le _, h, .inl rfl⟩
theorem Qs.nothing (w : World) : Qs w (.slice none 0 0) [] := Qs.nil w _ _ (Nat.zero_le _)
theorem infoTold : ∃ i, Tryz.prog.info? 40 = some i ∧ i.zero = some (.agg #[.bool false, .slice none 0 0, .int .i64 0, .slice none 0 0]) ∧ i.size = 4 ∧ i.bytes = 64 := by
  have h : (Tryz.prog.info? 40).map (fun i => (i.zero, i.size, i.bytes)) = some (some (.agg #[.bool false, .slice none 0 0, .int .i64 0, .slice none 0 0]), 4, 64) := by kernel_rfl
  cases hi : Tryz.prog.info? 40 with
  | none => rw [hi] at h; simp at h
  | some i => rw [hi] at h; simp at h; exact ⟨i, rfl, h.1, h.2.1, h.2.2⟩
theorem cellsQ_len (x : Tq) : (cellsQ x).length = 4 := rfl
theorem flatQ_len (l : List Tq) : (l.flatMap cellsQ).length = l.length * 4 := by
  induction l with
  | nil => rfl
  | cons x t ih => rw [List.flatMap_cons, List.length_append, ih, cellsQ_len, List.length_cons]; omega
theorem qth_succ (x : Tq) (t : List Tq) (i : Nat) : qth (x :: t) (i + 1) = qth t i := by simp [qth]
theorem flatQ_at (l : List Tq) : ∀ (i r : Nat), i < l.length → r < 4 → (l.flatMap cellsQ)[i * 4 + r]? = (cellsQ (qth l i))[r]? := by
  induction l with
  | nil => intro i r hi _; exact absurd hi (Nat.not_lt_zero _)
  | cons x t ih =>
    intro i r hi hr
    rw [List.flatMap_cons]
    cases i with
    | zero =>
      rw [Nat.zero_mul, Nat.zero_add, List.getElem?_append_left (by rw [cellsQ_len]; exact hr)]
      rfl
    | succ i =>
      rw [List.getElem?_append_right (by rw [cellsQ_len]; omega), cellsQ_len, qth_succ, ← ih i r (by simpa using hi) hr]
      congr 1; omega
def OwnQ (w : World) (base : Nat) (v : Value) (l : List Tq) : Prop := w.ownsRow base 40 4 v l.length (l.flatMap cellsQ)
theorem OwnQ.lit (w : World) (base : Nat) (h : base ≤ w.heap.size) : OwnQ (w.alloc (.cells #[] 40)) base (.slice (some ⟨w.heap.size, 0, none⟩) 0 0) [] :=
  World.ownsRow_lit (base := base) (e := 40) (size := 4) w #[] 0 h (by simp [maxLen]) rfl
theorem OwnQ.litAt {w : World} {n : Nat} (e : n = w.heap.size) (base : Nat) (h : base ≤ w.heap.size) : OwnQ (w.alloc (.cells #[] 40)) base (.slice (some ⟨n, 0, none⟩) 0 0) [] := by
  subst e; exact OwnQ.lit w base h
theorem OwnQ.nothing (w : World) (base : Nat) : OwnQ w base (.slice none 0 0) [] := World.ownsRow_nil w base _ _
theorem OwnQ.alloc {w : World} {base : Nat} {v : Value} {l : List Tq} (h : OwnQ w base v l) (o : Obj) : OwnQ (w.alloc o) base v l := World.ownsRow.alloc h o
theorem OwnQ.drew {w : World} {base : Nat} {v : Value} {l : List Tq} (h : OwnQ w base v l) : OwnQ w.drew base v l := h
theorem OwnQ.ls {w : World} {base : Nat} {v : Value} {l : List Tq} (h : OwnQ w base v l) : Qs w v l := by
  have h' := h
  rcases h.2 with ⟨rfl, h0⟩ | ⟨g, cap, cur, rfl, hb, hg, hnc, hcm, hcs, htake⟩
  · obtain rfl : l = [] := List.eq_nil_of_length_eq_zero h0
    exact Qs.nothing w
  · refine ⟨_, cap, rfl, hnc, hcm, .inr ⟨g, 0, rfl, ?_, fun i hi => ?_⟩⟩
    · exact (h.lt g rfl).2
    · have hc : ∀ r, r < 4 → w.cell? ⟨g, 0 + i * 4 + r, none⟩ = (cellsQ (qth l i))[r]? := fun r hr => by
        rw [Nat.zero_add]
        have := h.cellAt (i * 4 + r) (by omega)
        rw [this, flatQ_at l i r hi hr]
      exact ⟨hc 0 (by omega), hc 1 (by omega), hc 2 (by omega), hc 3 (by omega)⟩
theorem OwnQ.base {w : World} {base : Nat} {v : Value} {l : List Tq} (h : OwnQ w base v l) : ∀ k, v.ownBlock = some k → base ≤ k := fun k hk => (World.ownsRow.lt h k hk).1
theorem OwnQ.lt {w : World} {base : Nat} {v : Value} {l : List Tq} (h : OwnQ w base v l) : ∀ k, v.ownBlock = some k → k < w.heap.size := fun k hk => (World.ownsRow.lt h k hk).2
theorem OwnQ.keep {w w' : World} {base : Nat} {v : Value} {l : List Tq} (h : OwnQ w base v l) (hb : ∀ k, v.ownBlock = some k → w'.heap[k]? = w.heap[k]?) : OwnQ w' base v l := by
  obtain ⟨h1, h2⟩ := h
  refine ⟨h1, ?_⟩
  rcases h2 with h2 | ⟨g, cap, cur, rfl, hb0, hg, r⟩
  · exact .inl h2
  · exact .inr ⟨g, cap, cur, rfl, hb0, by rw [hb g (by simp [Value.ownBlock])]; exact hg, r⟩
theorem OwnQ.shape {w : World} {base : Nat} {v : Value} {l : List Tq} (h : OwnQ w base v l) : ∃ a c, v = .slice a l.length c := by
  rcases h.2 with ⟨rfl, h0⟩ | ⟨g, cap, cur, rfl, hb, hg, hnc, hcm, hcs, htake⟩
  · obtain rfl : l = [] := List.eq_nil_of_length_eq_zero h0
    exact ⟨_, _, rfl⟩
  · exact ⟨_, _, rfl⟩
theorem OwnQ.below {w w' : World} {base : Nat} {v : Value} {l : List Tq} (h : OwnQ w base v l) (hb : Below w.heap.size w w') : OwnQ w' base v l := h.keep fun k hk => hb.block k (h.lt k hk)
theorem OwnQ.set {w : World} {base n : Nat} {v : Value} {l : List Tq} (h : OwnQ w base v l) {p : Addr} (hp : p.block = n) (hn : n < base) (u : Value) : OwnQ (w.setCell p u) base v l :=
  h.keep fun k hk => heap_setCell_other w p k u (by have := h.base k hk; omega)
structure Mean (w : World) (base : Nat) (x : Tq) (t : To) : Prop where
  done : x.done = t.done
  f : x.f = t.f
  dat : Sl w (.slice x.da x.dn x.dc) t.dat
  tch : Ts w (.slice x.ta x.tn x.tc) t.tch
  fd : Fresh base (.slice x.da x.dn x.dc)
  ft : Fresh base (.slice x.ta x.tn x.tc)
theorem Mean.keep {w w' : World} {base : Nat} {x : Tq} {t : To} (h : Mean w base x t) (hb : Below w.heap.size w w') : Mean w' base x t := ⟨h.done, h.f, h.dat.keep hb, h.tch.keep hb, h.fd, h.ft⟩
theorem Mean.mono {w : World} {a b : Nat} {x : Tq} {t : To} (h : Mean w b x t) (k : a ≤ b) : Mean w a x t := ⟨h.done, h.f, h.dat, h.tch, h.fd.mono k, h.ft.mono k⟩
def toth (l : List To) (i : Nat) : To := (l[i]?).getD ⟨false, [], 0, []⟩
def Means (w : World) (base : Nat) (qs : List Tq) (ts : List To) : Prop := qs.length = ts.length ∧ ∀ i, i < qs.length → Mean w base (qth qs i) (toth ts i)
theorem Means.keep {w w' : World} {base : Nat} {x : List Tq} {t : List To} (h : Means w base x t) (hb : Below w.heap.size w w') : Means w' base x t := ⟨h.1, fun i hi => (h.2 i hi).keep hb⟩
theorem Means.mono {w : World} {a b : Nat} {x : List Tq} {t : List To} (h : Means w b x t) (k : a ≤ b) : Means w a x t := ⟨h.1, fun i hi => (h.2 i hi).mono k⟩
theorem Means.nil (w : World) (base : Nat) : Means w base [] [] := ⟨rfl, fun _ hi => absurd hi (Nat.not_lt_zero _)⟩
theorem Means.append {w : World} {base : Nat} {x y : List Tq} {t u : List To} (h : Means w base x t) (k : Means w base y u) : Means w base (x ++ y) (t ++ u) := by
  refine ⟨by rw [List.length_append, List.length_append, h.1, k.1], fun i hi => ?_⟩
  rw [List.length_append] at hi
  by_cases hl : i < x.length
  · have e1 : qth (x ++ y) i = qth x i := by unfold qth; rw [List.getElem?_append_left hl]
    have e2 : toth (t ++ u) i = toth t i := by unfold toth; rw [List.getElem?_append_left (by rw [← h.1]; exact hl)]
    rw [e1, e2]; exact h.2 i hl
  · have e1 : qth (x ++ y) i = qth y (i - x.length) := by unfold qth; rw [List.getElem?_append_right (by omega)]
    have e2 : toth (t ++ u) i = toth u (i - x.length) := by unfold toth; rw [List.getElem?_append_right (by rw [← h.1]; omega), h.1]
    rw [e1, e2]; exact k.2 _ (by omega)
theorem Means.one {w : World} {base : Nat} {x : Tq} {t : To} (h : Mean w base x t) : Means w base [x] [t] := ⟨rfl, fun i hi => by
  obtain rfl : i = 0 := by simpa using hi
  exact h⟩
end Go.Proofs.YtlgjllmecjkbjacGreat
/-
  What is told, in a block of its own that is written place by place; errors too.
-/
namespace Go.Proofs.YtlgjllmecjkbjacGreat
open Go.RowKit
theorem flatQ_set (x : Tq) : ∀ (qs : List Tq) (k : Nat), k < qs.length → ((((qs.flatMap cellsQ).set (k * 4) (.bool x.done)).set (k * 4 + 1) (.slice x.da x.dn x.dc)).set (k * 4 + 2) (.int .i64 x.f)).set (k * 4 + 3) (.slice x.ta x.tn x.tc) = (qs.set k x).flatMap cellsQ
  | [], k, h => absurd h (Nat.not_lt_zero _)
  | q :: t, 0, _ => by simp [cellsQ]
  | q :: t, k + 1, h => by
    have ih := flatQ_set x t k (by simpa using h)
    rw [List.set_cons_succ, List.flatMap_cons, List.flatMap_cons, ← ih]
    have e0 : (k + 1) * 4 = k * 4 + 1 + 1 + 1 + 1 := by omega
    rw [e0]
    simp [cellsQ]
def told4 (qs : List Tq) : Array Value := (qs.flatMap cellsQ).toArray
theorem Box.setQ {w : World} {n : Nat} {t : TypeId} {qs : List Tq} (h : Box w n t (told4 qs)) {k : Nat} (hk : k < qs.length) (x : Tq) :
    Box ((((w.setCell ⟨n, k * 4, none⟩ (.bool x.done)).setCell ⟨n, k * 4 + 1, none⟩ (.slice x.da x.dn x.dc)).setCell ⟨n, k * 4 + 2, none⟩ (.int .i64 x.f)).setCell ⟨n, k * 4 + 3, none⟩ (.slice x.ta x.tn x.tc)) n t (told4 (qs.set k x)) := by
  have h4 := (((h.set (k * 4) (.bool x.done)).set (k * 4 + 1) (.slice x.da x.dn x.dc)).set (k * 4 + 2) (.int .i64 x.f)).set (k * 4 + 3) (.slice x.ta x.tn x.tc)
  have e : ((((told4 qs).setIfInBounds (k * 4) (.bool x.done)).setIfInBounds (k * 4 + 1) (.slice x.da x.dn x.dc)).setIfInBounds (k * 4 + 2) (.int .i64 x.f)).setIfInBounds (k * 4 + 3) (.slice x.ta x.tn x.tc) = told4 (qs.set k x) := by
    unfold told4
    rw [← flatQ_set x qs k hk]
    simp only [List.setIfInBounds_toArray]
  rw [e] at h4
  exact h4
theorem Box.qs {w : World} {n : Nat} {t : TypeId} {qs : List Tq} (h : Box w n t (told4 qs)) (hm : qs.length ≤ maxLen) : Qs w (.slice (some ⟨n, 0, none⟩) qs.length qs.length) qs := by
  refine ⟨_, qs.length, rfl, Nat.le_refl _, hm, .inr ⟨n, 0, rfl, h.lt, fun i hi => ?_⟩⟩
  have hc : ∀ r, r < 4 → w.cell? ⟨n, 0 + i * 4 + r, none⟩ = (cellsQ (qth qs i))[r]? := fun r hr => by
    rw [Nat.zero_add, h.cell, told4, List.getElem?_toArray, flatQ_at qs i r hi hr]
  exact ⟨hc 0 (by omega), hc 1 (by omega), hc 2 (by omega), hc 3 (by omega)⟩
theorem Box.atQ {w : World} {n : Nat} {t : TypeId} {qs : List Tq} (h : Box w n t (told4 qs)) {i : Nat} (hi : i < qs.length) : AtQ w n (i * 4) (qth qs i) := by
  have hc : ∀ r, r < 4 → w.cell? ⟨n, i * 4 + r, none⟩ = (cellsQ (qth qs i))[r]? := fun r hr => by
    rw [h.cell, told4, List.getElem?_toArray, flatQ_at qs i r hi hr]
  exact ⟨hc 0 (by omega), hc 1 (by omega), hc 2 (by omega), hc 3 (by omega)⟩
def said1 (zs : List Int) : Array Value := (zs.map (fun z => Value.int .i64 z)).toArray
theorem Box.setE {w : World} {n : Nat} {t : TypeId} {zs : List Int} (h : Box w n t (said1 zs)) (k : Nat) (z : Int) : Box (w.setCell ⟨n, k, none⟩ (.int .i64 z)) n t (said1 (zs.set k z)) := by
  have h1 := h.set k (.int .i64 z)
  have e : (said1 zs).setIfInBounds k (.int .i64 z) = said1 (zs.set k z) := by
    unfold said1
    rw [List.map_set, List.setIfInBounds_toArray]
  rw [e] at h1
  exact h1
theorem Box.sl {w : World} {n : Nat} {t : TypeId} {zs : List Int} (h : Box w n t (said1 zs)) (hm : zs.length ≤ maxLen) : Sl w (.slice (some ⟨n, 0, none⟩) zs.length zs.length) zs :=
  sl_block h (by simp [said1]) rfl hm
theorem Box.atE {w : World} {n : Nat} {t : TypeId} {zs : List Int} (h : Box w n t (said1 zs)) {i : Nat} (hi : i < zs.length) : w.cell? ⟨n, i, none⟩ = some (.int .i64 (nth zs i)) := by
  rw [h.cell, said1, List.getElem?_toArray, List.getElem?_map, getElem?_nth hi]; rfl
def q0 : Tq := ⟨false, none, 0, 0, 0, none, 0, 0⟩
theorem told4_zero (n : Nat) : madeCells (#[.bool false, .slice none 0 0, .int .i64 0, .slice none 0 0] : Array Value) (n * 4) = told4 (List.replicate n q0) := by
  apply Array.ext_getElem?
  intro i
  by_cases hi : i < n * 4
  · have h := flatQ_at (List.replicate n q0) (i / 4) (i % 4) (by simp; omega) (by omega)
    have e : i / 4 * 4 + i % 4 = i := by omega
    have e2 : qth (List.replicate n q0) (i / 4) = q0 := by unfold qth; rw [List.getElem?_replicate, if_pos (by omega)]; rfl
    rw [e, e2] at h
    unfold told4 madeCells
    rw [Array.getElem?_map, Array.getElem?_range, if_pos hi, List.getElem?_toArray, h]
    have h4 : i % 4 = 0 ∨ i % 4 = 1 ∨ i % 4 = 2 ∨ i % 4 = 3 := by omega
    rcases h4 with h4 | h4 | h4 | h4 <;> simp [h4, cellsQ, q0]
  · rw [Array.getElem?_eq_none (by rw [size_madeCells]; omega), Array.getElem?_eq_none (by simp only [told4, List.size_toArray, flatQ_len, List.length_replicate]; omega)]
theorem said1_zero (n : Nat) : madeCells (#[.int .i64 0] : Array Value) (n * 1) = said1 (List.replicate n 0) := by
  apply Array.ext_getElem?
  intro i
  by_cases hi : i < n * 1
  · unfold said1 madeCells
    rw [Array.getElem?_map, Array.getElem?_range, if_pos hi, List.getElem?_toArray, List.getElem?_map, List.getElem?_replicate, if_pos (by omega)]
    have h4 : i % 1 = 0 := by omega
    simp [h4]
  · rw [Array.getElem?_eq_none (by rw [size_madeCells]; omega), Array.getElem?_eq_none (by simp [said1]; omega)]
end Go.Proofs.YtlgjllmecjkbjacGreat
/-
  A row of happenings.
-/
namespace Go.Proofs.YtlgjllmecjkbjacGreat
open Go.RowKit
def hpth (l : List Hp) (i : Nat) : Hp := (l[i]?).getD ⟨0, 0, 0, 0, 0, false, []⟩
def AtHp (w : World) (b o : Nat) (x : Hp) : Prop :=
  ∃ u, w.cell? ⟨b, o, none⟩ = some (.int .i64 x.kind) ∧ w.cell? ⟨b, o + 1, none⟩ = some (.int .i64 x.num) ∧ w.cell? ⟨b, o + 2, none⟩ = some (.int .i64 x.d) ∧ w.cell? ⟨b, o + 3, none⟩ = some (.int .i64 x.a) ∧ w.cell? ⟨b, o + 4, none⟩ = some (.int .i64 x.n) ∧ w.cell? ⟨b, o + 5, none⟩ = some (.bool x.wr) ∧ w.cell? ⟨b, o + 6, none⟩ = some u ∧ Slc w u x.ds
def Hps (w : World) (v : Value) (l : List Hp) : Prop :=
  ∃ a cap, v = .slice a l.length cap ∧ l.length ≤ cap ∧ cap ≤ maxLen ∧
    (l = [] ∨ ∃ b o, a = some ⟨b, o, none⟩ ∧ b < w.heap.size ∧ ∀ i, i < l.length → AtHp w b (o + i * 7) (hpth l i))
theorem Hps.nil (w : World) (a : Option Addr) (cap : Nat) (h : cap ≤ maxLen) : Hps w (.slice a 0 cap) [] := ⟨a, cap, rfl, Nat.zero_le _, h, .inl rfl⟩
theorem AtHp.keep {w w' : World} {b o : Nat} {x : Hp} (h : AtHp w b o x) (hb : Below w.heap.size w w') (hl : b < w.heap.size) : AtHp w' b o x := by
  obtain ⟨c, _⟩ := bcell hb
  obtain ⟨u, h0, h1, h2, h3, h4, h5, h6, h7⟩ := h
  exact ⟨u, (c b _ hl).trans h0, (c b _ hl).trans h1, (c b _ hl).trans h2, (c b _ hl).trans h3, (c b _ hl).trans h4, (c b _ hl).trans h5, (c b _ hl).trans h6, ⟨h7.1.keep hb, h7.2⟩⟩
theorem Hps.keep {w w' : World} {v : Value} {l : List Hp} (h : Hps w v l) (hb : Below w.heap.size w w') : Hps w' v l := by
  obtain ⟨a, cap, rfl, hl, hm, h⟩ := h
  refine ⟨a, cap, rfl, hl, hm, h.imp id ?_⟩
  rintro ⟨b, o, rfl, hbl, hc⟩
  exact ⟨b, o, rfl, Nat.lt_of_lt_of_le hbl hb.size, fun i hi => (hc i hi).keep hb hbl⟩
theorem Hps.shape {w : World} {v : Value} {l : List Hp} (h : Hps w v l) : ∃ a cap, v = .slice a l.length cap := by
  obtain ⟨a, cap, h, _⟩ := h; exact ⟨a, cap, h⟩
end Go.Proofs.YtlgjllmecjkbjacGreat
/-
  Package machine: what holds while Run goes through a script.
-/
namespace Go.Proofs.YtlgjllmecjkbjacGreat
open Go.RowKit
def rnE (m : Mc) (l : List Hp) : Int := if chkM m = 0 then (if l.length ≤ 120 then 0 else 1) else chkM m
def rnX (m : Mc) (l : List Hp) : Mc × List To × List Int := if rnE m l = 0 then rnM m l else (M0, [], [])
theorem hpth_get {l : List Hp} {i : Nat} (h : i < l.length) : l[i]? = some (hpth l i) := by simp [hpth, h]
theorem take_hp {l : List Hp} {i : Nat} (h : i < l.length) : l.take (i + 1) = l.take i ++ [hpth l i] := by
  rw [List.take_add_one, hpth_get h]; rfl
theorem Mean.kept {w w' : World} {base : Nat} {may : Nat → Prop} {x : Tq} {t : To} (h : Mean w base x t) (k : KeptB may w w') (hm : ∀ q, may q → q < base) : Mean w' base x t :=
  ⟨h.done, h.f, h.dat.kept k (fun q hq hb => by have := h.fd q hq; have := hm q hb; omega), h.tch.kept k (fun q hq hb => by have := h.ft q hq; have := hm q hb; omega), h.fd, h.ft⟩
theorem qth_set_same {qs : List Tq} {k : Nat} (h : k < qs.length) (x : Tq) : qth (qs.set k x) k = x := by unfold qth; rw [List.getElem?_set_self h]; rfl
theorem qth_set_other {qs : List Tq} {k j : Nat} (h : ¬ j = k) (x : Tq) : qth (qs.set k x) j = qth qs j := by unfold qth; rw [List.getElem?_set_ne (fun e => h e.symm)]
theorem toth_left {a b : List To} {j : Nat} (h : j < a.length) : toth (a ++ b) j = toth a j := by unfold toth; rw [List.getElem?_append_left h]
theorem toth_last {a : List To} {x : To} {j : Nat} (h : j = a.length) : toth (a ++ [x]) j = x := by subst h; unfold toth; rw [List.getElem?_append_right (Nat.le_refl _)]; simp
theorem nth_left {a b : List Int} {j : Nat} (h : j < a.length) : nth (a ++ b) j = nth a j := by unfold nth; rw [List.getD_eq_getElem?_getD, List.getD_eq_getElem?_getD, List.getElem?_append_left h]
theorem nth_last {a : List Int} {x : Int} {j : Nat} (h : j = a.length) : nth (a ++ [x]) j = x := by subst h; unfold nth; rw [List.getD_eq_getElem?_getD, List.getElem?_append_right (Nat.le_refl _)]; simp
def RunBad (N n9 n10 n11 : Nat) (q : Nat) : Prop := q < N ∨ q = n9 ∨ q = n10 ∨ q = n11
structure RunI (m : Mc) (l : List Hp) (w : World) (N n9 n10 n11 NB : Nat) (i : Nat) (wx : World) : Prop where
  now : ∃ cs, Box wx n9 33 cs ∧ IsM wx (rnM m (l.take i)).1 cs ∧ OffRow (RunBad N n9 n10 n11) cs
  told : ∃ qs, Box wx n10 40 (told4 qs) ∧ qs.length = l.length ∧ ∀ j, j < i → Mean wx NB (qth qs j) (toth (rnM m (l.take i)).2.1 j)
  said : ∃ es, Box wx n11 41 (said1 es) ∧ es.length = l.length ∧ ∀ j, j < i → nth es j = nth (rnM m (l.take i)).2.2 j
  bel : Below w.heap.size w wx
  lo : NB ≤ wx.heap.size
  i : i ≤ l.length
def RunW (b : Bool) (w5 : World) (n9 : Nat) (cs1 : Array Value) : World := if b = true then w5.setRow n9 cs1 else w5
set_option maxHeartbeats 1000000 in
theorem RunI.step {m : Mc} {l : List Hp} {w : World} {N n9 n10 n11 NB i : Nat} {wx w5 : World} (h : RunI m l w N n9 n10 n11 NB i wx) (hi : i < l.length) (hb : Below wx.heap.size wx w5) {cs1 : Array Value} {x : Tq} {E : Int} {t : To}
    (hx : ∀ now y T, now = (rnM m (l.take i)).1 → hpR now (hpth l i) = (y, T) → E = hpE now (hpth l i) ∧ t = T ∧ (E = 0 → IsM w5 y cs1))
    (ho : OffRow (fun q => q < wx.heap.size) cs1) (ht : Mean w5 wx.heap.size x t)
    (hw : w.heap.size ≤ n9 ∧ w.heap.size ≤ n10 ∧ w.heap.size ≤ n11) (hn : n9 < NB ∧ n10 < NB ∧ n11 < NB ∧ N ≤ NB) (hd : ¬ n9 = n10 ∧ ¬ n9 = n11 ∧ ¬ n10 = n11) {b : Bool} (hE : b = decide (E = 0)) :
    RunI m l w N n9 n10 n11 NB (i + 1) ((((((RunW b w5 n9 cs1).setCell ⟨n10, i * 4, none⟩ (.bool x.done)).setCell ⟨n10, i * 4 + 1, none⟩ (.slice x.da x.dn x.dc)).setCell ⟨n10, i * 4 + 2, none⟩ (.int .i64 x.f)).setCell ⟨n10, i * 4 + 3, none⟩ (.slice x.ta x.tn x.tc)).setCell ⟨n11, i, none⟩ (.int .i64 E)) := by
  obtain ⟨⟨cs, B9, M9, O9⟩, ⟨qs, B10, L10, F10⟩, ⟨es, B11, L11, F11⟩, hbel, hlo, hil⟩ := h
  obtain ⟨⟨y, T⟩, hR⟩ : ∃ R, hpR (rnM m (l.take i)).1 (hpth l i) = R := ⟨_, rfl⟩
  obtain ⟨rfl, rfl, hy⟩ := hx _ y T rfl hR
  have e1 : (rnM m (l.take (i + 1))) = ((if hpE (rnM m (l.take i)).1 (hpth l i) = 0 then y else (rnM m (l.take i)).1), (rnM m (l.take i)).2.1 ++ [t], (rnM m (l.take i)).2.2 ++ [hpE (rnM m (l.take i)).1 (hpth l i)]) := by
    rw [take_hp hi, rnM_snoc, hR]
  obtain ⟨hl1, hl2⟩ := rnM_len (l.take i) m
  have hti : (l.take i).length = i := by rw [List.length_take]; omega
  rw [hti] at hl1 hl2
  obtain ⟨now, hnow⟩ : ∃ now, (rnM m (l.take i)).1 = now := ⟨_, rfl⟩
  rw [hnow] at hR hy e1 M9 hE
  obtain ⟨ts, hts⟩ : ∃ ts, (rnM m (l.take i)).2.1 = ts := ⟨_, rfl⟩
  obtain ⟨zs, hzs⟩ : ∃ zs, (rnM m (l.take i)).2.2 = zs := ⟨_, rfl⟩
  rw [hts] at e1 F10 hl1
  rw [hzs] at e1 F11 hl2
  have B9 := B9.keep hb
  have B10 := B10.keep hb
  have B11 := B11.keep hb
  have M9 := M9.keep hb
  have hs5 := hb.size
  rw [hnow]
  obtain ⟨w6, hw6⟩ : ∃ w6, RunW b w5 n9 cs1 = w6 := ⟨_, rfl⟩
  rw [hw6]
  have K6 : KeptB (fun q => q = n9) w5 w6 := by
    rw [← hw6]
    unfold RunW
    split
    · exact (KeptB.refl (fun q => q = n9) w5).setRow (n := n9) (.inl rfl) _
    · exact KeptB.refl _ _
  have N6 : ∃ cs', Box w6 n9 33 cs' ∧ IsM w6 (if hpE now (hpth l i) = 0 then y else now) cs' ∧ OffRow (RunBad N n9 n10 n11) cs' := by
    by_cases h0 : hpE now (hpth l i) = 0
    · have hbt : b = true := by rw [hE]; exact decide_eq_true h0
      have e6 : w6 = w5.setRow n9 cs1 := by rw [← hw6, hbt]; rfl
      rw [if_pos h0]
      have o1 : OffRow (RunBad N n9 n10 n11) cs1 := ho.less (fun q hq => by unfold RunBad at hq; omega)
      exact ⟨cs1, by rw [e6]; exact B9.setRow cs1, (hy h0).kept K6 o1 (fun q hq => .inr (.inl hq)), o1⟩
    · have hbt : b = false := by rw [hE]; exact decide_eq_false h0
      have e6 : w6 = w5 := by rw [← hw6, hbt]; rfl
      rw [if_neg h0, e6]
      exact ⟨cs, B9, M9, O9⟩
  have hs6 := K6.size
  have B10 := B10.kept K6 (fun e => hd.1 e.symm)
  have B11 := B11.kept K6 (fun e => hd.2.1 e.symm)
  have Q10 := B10.setQ (k := i) (by omega) x
  have K7 : KeptB (fun q => q = n10 ∨ q = n11) w6 (((((w6.setCell ⟨n10, i * 4, none⟩ (.bool x.done)).setCell ⟨n10, i * 4 + 1, none⟩ (.slice x.da x.dn x.dc)).setCell ⟨n10, i * 4 + 2, none⟩ (.int .i64 x.f)).setCell ⟨n10, i * 4 + 3, none⟩ (.slice x.ta x.tn x.tc)).setCell ⟨n11, i, none⟩ (.int .i64 (hpE now (hpth l i)))) :=
    (((((KeptB.refl _ _).setCell (p := ⟨n10, i * 4, none⟩) (.inl (.inl rfl)) _).setCell (p := ⟨n10, i * 4 + 1, none⟩) (.inl (.inl rfl)) _).setCell (p := ⟨n10, i * 4 + 2, none⟩) (.inl (.inl rfl)) _).setCell (p := ⟨n10, i * 4 + 3, none⟩) (.inl (.inl rfl)) _).setCell (p := ⟨n11, i, none⟩) (.inl (.inr rfl)) _
  have Q10 := Q10.other (p := ⟨n11, i, none⟩) (by dsimp only; omega) (.int .i64 (hpE now (hpth l i)))
  have Q11 := ((((B11.other (p := ⟨n10, i * 4, none⟩) (by dsimp only; omega) (.bool x.done)).other (p := ⟨n10, i * 4 + 1, none⟩) (by dsimp only; omega) (.slice x.da x.dn x.dc)).other (p := ⟨n10, i * 4 + 2, none⟩) (by dsimp only; omega) (.int .i64 x.f)).other (p := ⟨n10, i * 4 + 3, none⟩) (by dsimp only; omega) (.slice x.ta x.tn x.tc)).setE i (hpE now (hpth l i))
  obtain ⟨cs', C9, D9, O9'⟩ := N6
  have k5 : ∀ (q : Tq) (T : To), Mean w5 NB q T → Mean _ NB q T := fun q T hq => (hq.kept K6 (fun q hq => by omega)).kept K7 (fun q hq => by omega)
  refine ⟨⟨cs', C9.kept K7 (by omega), ?_, O9'⟩, ⟨qs.set i x, Q10, by rw [List.length_set]; exact L10, fun j hj => ?_⟩, ⟨es.set i _, Q11, by rw [List.length_set]; exact L11, fun j hj => ?_⟩, ?_, ?_, by omega⟩
  · rw [e1]
    exact D9.kept K7 O9' (fun q hq => by unfold RunBad; omega)
  · rw [e1]
    by_cases hji : j = i
    · subst hji
      rw [qth_set_same (by omega), toth_last hl1.symm]
      exact k5 x t (ht.mono hlo)
    · rw [qth_set_other hji, toth_left (by omega)]
      exact k5 _ _ ((F10 j (by omega)).keep hb)
  · rw [e1]
    by_cases hji : j = i
    · subst hji
      rw [nth_set_same (by omega), nth_last hl2.symm]
    · rw [nth_set_other (fun e => hji e.symm), nth_left (by omega)]
      exact F11 j (by omega)
  · have b5 : Below w.heap.size w w5 := bel_trans hbel hb
    have b6 : Below w.heap.size w w6 := by
      rw [← hw6]
      unfold RunW
      split
      · exact bel_setRow (n := n9) hw.1 b5 cs1
      · exact b5
    exact bel_set (p := ⟨n11, i, none⟩) hw.2.2 (bel_set (p := ⟨n10, i * 4 + 3, none⟩) hw.2.1 (bel_set (p := ⟨n10, i * 4 + 2, none⟩) hw.2.1 (bel_set (p := ⟨n10, i * 4 + 1, none⟩) hw.2.1 (bel_set (p := ⟨n10, i * 4, none⟩) hw.2.1 b6 _) _) _) _) _
  · have := K7.size; omega
end Go.Proofs.YtlgjllmecjkbjacGreat
/-
  Package machine: Run: what it answers, of anything, in memory of its own; nothing that was there turns.
-/
namespace Go.Proofs.YtlgjllmecjkbjacGreat
open Go.RowKit
def Tos (w : World) (base : Nat) (v : Value) (ts : List To) : Prop := ∃ qs, Qs w v qs ∧ Means w base qs ts
abbrev RunC (m : Mc) (l : List Hp) (w : World) (e : Ending) (w' : World) : Prop :=
  ∃ cs1 a1 c1 a2 c2, e = .returned (.tuple #[.agg cs1, .slice a1 (rnX m l).2.1.length c1, .slice a2 (rnX m l).2.2.length c2, .int .i64 (rnE m l)]) ∧ IsM w' (rnX m l).1 cs1 ∧ Tos w' w.heap.size (.slice a1 (rnX m l).2.1.length c1) (rnX m l).2.1 ∧ Sl w' (.slice a2 (rnX m l).2.2.length c2) (rnX m l).2.2 ∧
    OffRow (fun q => q < w.heap.size) cs1 ∧ Fresh w.heap.size (.slice a1 (rnX m l).2.1.length c1) ∧ Fresh w.heap.size (.slice a2 (rnX m l).2.2.length c2) ∧ Below w.heap.size w w'
theorem rnX_bad {m : Mc} {l : List Hp} (h : ¬ rnE m l = 0) : rnX m l = (M0, [], []) := by rw [rnX, if_neg h]
theorem rnX_ok {m : Mc} {l : List Hp} (h : rnE m l = 0) : rnX m l = rnM m l := by rw [rnX, if_pos h]
theorem rnE_ok {m : Mc} {l : List Hp} (h : chkM m = 0) (k : l.length ≤ 120) : rnE m l = 0 := by rw [rnE, if_pos h, if_pos k]
theorem ret_run {m : Mc} {l : List Hp} {a : Value} {x : Int} (h : x = rnE m l) (k : ¬ rnE m l = 0) : Ending.returned (.tuple #[a, .slice none 0 0, .slice none 0 0, .int .i64 x]) = .returned (.tuple #[a, .slice none (rnX m l).2.1.length 0, .slice none (rnX m l).2.2.length 0, .int .i64 (rnE m l)]) := by rw [rnX_bad k, h]; rfl
theorem infoErrno : ∃ i, Tryz.prog.info? 41 = some i ∧ i.zero = some (.int .i64 0) ∧ i.size = 1 ∧ i.bytes = 8 := by
  have h : (Tryz.prog.info? 41).map (fun i => (i.zero, i.size, i.bytes)) = some (some (.int .i64 0), 1, 8) := by kernel_rfl
  cases hi : Tryz.prog.info? 41 with
  | none => rw [hi] at h; simp at h
  | some i => rw [hi] at h; simp at h; exact ⟨i, rfl, h.1, h.2.1, h.2.2⟩
theorem makeTold (n : Nat) (hn : n ≤ 120) (w : World) : (Instr.makeSlice 57 (.int .i64 n) (.int .i64 n)).run Tryz.prog w = .ok (.slice (some ⟨w.heap.size, 0, none⟩) n n) (w.alloc (.cells (told4 (List.replicate n q0)) 40)) := by
  obtain ⟨i, hi, hz, hs, hb⟩ := infoTold
  have h := run_make (P := Tryz.prog) w 57 40 i _ Tryz.underlying57 hi hz .i64 .i64 n n (by omega) (by omega) (by rw [hb]; omega) (by omega)
  rw [hs] at h
  simp only [Int.toNat_natCast] at h
  rw [← told4_zero]
  exact h
theorem makeSaid (n : Nat) (hn : n ≤ 120) (w : World) : (Instr.makeSlice 58 (.int .i64 n) (.int .i64 n)).run Tryz.prog w = .ok (.slice (some ⟨w.heap.size, 0, none⟩) n n) (w.alloc (.cells (said1 (List.replicate n 0)) 41)) := by
  obtain ⟨i, hi, hz, hs, hb⟩ := infoErrno
  have h := run_make (P := Tryz.prog) w 58 41 i _ Tryz.underlying58 hi hz .i64 .i64 n n (by omega) (by omega) (by rw [hb]; omega) (by omega)
  rw [hs] at h
  simp only [Int.toNat_natCast] at h
  rw [← said1_zero]
  exact h
def RunA (n : Nat) (W : World) (a b : Value) (wx : World) : Prop :=
  ∃ n10 n11, a = .slice (some ⟨n10, 0, none⟩) n n ∧ b = .slice (some ⟨n11, 0, none⟩) n n ∧ Box wx n10 40 (told4 (List.replicate n q0)) ∧ Box wx n11 41 (said1 (List.replicate n 0)) ∧ ¬ n10 = n11 ∧ W.heap.size ≤ n10 ∧ W.heap.size ≤ n11 ∧ Below W.heap.size W wx
set_option maxRecDepth 10000 in
set_option maxHeartbeats 4000000 in
theorem mRun_bad {m : Mc} {l : List Hp} {cs : Array Value} {v : Value} {w : World} (hm : IsM w m cs) (hl : Hps w v l) (hE : ¬ chkM m = 0) :
    Calls Tryz.prog 22 #[.agg cs, v] w fun e w' => RunC m l w e w' := by
  have HZ : Hid (rnE m l = chkM m) := if_neg hE
  have HE : Hid (¬ rnE m l = 0) := by show ¬ _; rw [HZ.out]; exact hE
  have HM : Hid (IsM w m cs) := hm
  have HL : Hid (Hps w v l) := hl
  obtain ⟨va, vk, rfl⟩ := hl.shape
  have hc16 : cs.size = 16 := hm.size.1
  have HI : (Tryz.prog.info? 33).map (·.size) = some cs.size := by rw [infoM, hc16]
  have X0 := (Box.newAt (w := w) (n := w.heap.size) rfl 33 cs).past (.cells #[.slice none 0 0, .int .i64 0, .slice none 0 0, .bool false, .int .i64 0, .int .i64 0, .slice none 0 0, .int .i64 0, .int .i64 0, .int .i64 0, .bool false, .int .i64 0, .int .i64 0, .int .i64 0, .int .i64 0, .bool false] 33)
  have X1 : Box ((w.alloc (.cells cs 33)).alloc (.cells #[.slice none 0 0, .int .i64 0, .slice none 0 0, .bool false, .int .i64 0, .int .i64 0, .slice none 0 0, .int .i64 0, .int .i64 0, .int .i64 0, .bool false, .int .i64 0, .int .i64 0, .int .i64 0, .int .i64 0, .bool false] 33)) (w.heap.size + 1) 33 zeroM := Box.newAt (w := w.alloc (.cells cs 33)) (n := w.heap.size + 1) (by simp) 33 _
  have BW : Hid (Below w.heap.size w ((w.alloc (.cells cs 33)).alloc (.cells #[.slice none 0 0, .int .i64 0, .slice none 0 0, .bool false, .int .i64 0, .int .i64 0, .slice none 0 0, .int .i64 0, .int .i64 0, .int .i64 0, .bool false, .int .i64 0, .int .i64 0, .int .i64 0, .int .i64 0, .bool false] 33))) := bel_alloc (bel_alloc (Below.refl w.heap.size w) _) _
  have hsz : ((w.alloc (.cells cs 33)).alloc (.cells #[.slice none 0 0, .int .i64 0, .slice none 0 0, .bool false, .int .i64 0, .int .i64 0, .slice none 0 0, .int .i64 0, .int .i64 0, .int .i64 0, .bool false, .int .i64 0, .int .i64 0, .int .i64 0, .int .i64 0, .bool false] 33)).heap.size = w.heap.size + 1 + 1 := by simp
  clear hm hl
  go_enter Tryz.func22, Tryz.ntmps22
  go_upto_region 1 with fail
  (try simp only [Value.cells])
  generalize ((w.alloc (.cells cs 33)).alloc (.cells #[.slice none 0 0, .int .i64 0, .slice none 0 0, .bool false, .int .i64 0, .int .i64 0, .slice none 0 0, .int .i64 0, .int .i64 0, .int .i64 0, .bool false, .int .i64 0, .int .i64 0, .int .i64 0, .int .i64 0, .bool false] 33)) = W at *
  go_wp2_with (first
    | fail
    | (refine wpList_load_row rfl 33 (.tmp 2) rfl w.heap.size rfl _ _ _ _ X0 Tryz.underlying33 rfl HI ?_))
  refine (mCheck_row (HM.out.keep BW.out)).mono ?_
  rintro e w1 ⟨rfl, b1⟩
  have X0 := X0.keep b1
  have X1 := X1.keep b1
  have B1 : Hid (Below w.heap.size w w1) := bel_trans BW.out b1
  have z1 : w.heap.size + 1 + 1 ≤ w1.heap.size := by rw [← hsz]; exact b1.size
  clear b1 BW hsz
  obtain ⟨z, hz⟩ : ∃ z, chkM m = z := ⟨_, rfl⟩
  rw [hz] at HZ hE ⊢
  clear hz
  have q : (z != 0) = true := by simpa using hE
  clear hE
  go_wp2_with (first
    | fail
    | (refine wpList_store_row rfl 33 (.tmp 4) (.tmp 21) rfl (w.heap.size + 1) zeroM rfl rfl _ _ X1 (by rw [infoM]; rfl) rfl (by simp [zeroM, Value.oneCell']) ?_))
  have l1 := Box.loadM (X1.setRow zeroM) rfl
  refine bodyPost_ret (v := .tuple #[.agg zeroM, .slice none 0 0, .slice none 0 0, .int .i64 z]) (by simp [results, Tryz.results22, asAddr, l1]) rfl ⟨zeroM, none, 0, none, 0, ret_run HZ.out.symm HE.out, by rw [rnX_bad HE.out]; exact isM_zero _, by rw [rnX_bad HE.out]; exact ⟨[], Qs.nothing _, Means.nil _ _⟩, by rw [rnX_bad HE.out]; exact Sl.nil _ none 0, off_zeroM _, Fresh.none _ _ _, Fresh.none _ _ _, bel_setRow (by omega) B1.out _⟩
set_option maxRecDepth 10000 in
set_option maxHeartbeats 4000000 in
theorem mRun_many {m : Mc} {l : List Hp} {cs : Array Value} {v : Value} {w : World} (hm : IsM w m cs) (hl : Hps w v l) (hE : chkM m = 0) (hn : ¬ l.length ≤ 120) :
    Calls Tryz.prog 22 #[.agg cs, v] w fun e w' => RunC m l w e w' := by
  have HZ : Hid (rnE m l = 1) := by show _ = _; rw [rnE, if_pos hE, if_neg hn]
  have HE : Hid (¬ rnE m l = 0) := by show ¬ _; rw [HZ.out]; decide
  have HM : Hid (IsM w m cs) := hm
  have HL : Hid (Hps w v l) := hl
  obtain ⟨va, vk, rfl⟩ := hl.shape
  have hc16 : cs.size = 16 := hm.size.1
  have HI : (Tryz.prog.info? 33).map (·.size) = some cs.size := by rw [infoM, hc16]
  have X0 := (Box.newAt (w := w) (n := w.heap.size) rfl 33 cs).past (.cells #[.slice none 0 0, .int .i64 0, .slice none 0 0, .bool false, .int .i64 0, .int .i64 0, .slice none 0 0, .int .i64 0, .int .i64 0, .int .i64 0, .bool false, .int .i64 0, .int .i64 0, .int .i64 0, .int .i64 0, .bool false] 33)
  have X1 : Box ((w.alloc (.cells cs 33)).alloc (.cells #[.slice none 0 0, .int .i64 0, .slice none 0 0, .bool false, .int .i64 0, .int .i64 0, .slice none 0 0, .int .i64 0, .int .i64 0, .int .i64 0, .bool false, .int .i64 0, .int .i64 0, .int .i64 0, .int .i64 0, .bool false] 33)) (w.heap.size + 1) 33 zeroM := Box.newAt (w := w.alloc (.cells cs 33)) (n := w.heap.size + 1) (by simp) 33 _
  have BW : Hid (Below w.heap.size w ((w.alloc (.cells cs 33)).alloc (.cells #[.slice none 0 0, .int .i64 0, .slice none 0 0, .bool false, .int .i64 0, .int .i64 0, .slice none 0 0, .int .i64 0, .int .i64 0, .int .i64 0, .bool false, .int .i64 0, .int .i64 0, .int .i64 0, .int .i64 0, .bool false] 33))) := bel_alloc (bel_alloc (Below.refl w.heap.size w) _) _
  have hsz : ((w.alloc (.cells cs 33)).alloc (.cells #[.slice none 0 0, .int .i64 0, .slice none 0 0, .bool false, .int .i64 0, .int .i64 0, .slice none 0 0, .int .i64 0, .int .i64 0, .int .i64 0, .bool false, .int .i64 0, .int .i64 0, .int .i64 0, .int .i64 0, .bool false] 33)).heap.size = w.heap.size + 1 + 1 := by simp
  clear hm hl
  go_enter Tryz.func22, Tryz.ntmps22
  go_upto_region 1 with fail
  (try simp only [Value.cells])
  generalize ((w.alloc (.cells cs 33)).alloc (.cells #[.slice none 0 0, .int .i64 0, .slice none 0 0, .bool false, .int .i64 0, .int .i64 0, .slice none 0 0, .int .i64 0, .int .i64 0, .int .i64 0, .bool false, .int .i64 0, .int .i64 0, .int .i64 0, .int .i64 0, .bool false] 33)) = W at *
  go_wp2_with (first
    | fail
    | (refine wpList_load_row rfl 33 (.tmp 2) rfl w.heap.size rfl _ _ _ _ X0 Tryz.underlying33 rfl HI ?_))
  refine (mCheck_row (HM.out.keep BW.out)).mono ?_
  rintro e w1 ⟨rfl, b1⟩
  have X0 := X0.keep b1
  have X1 := X1.keep b1
  have B1 : Hid (Below w.heap.size w w1) := bel_trans BW.out b1
  have z1 : w.heap.size + 1 + 1 ≤ w1.heap.size := by rw [← hsz]; exact b1.size
  clear b1 BW hsz
  rw [hE]
  clear hE
  have q : ((0 : Int) != 0) = false := rfl
  have q1 : (l.length : Int) > 120 := by omega
  go_wp2_with (first
    | fail
    | (refine wpList_store_row rfl 33 (.tmp 4) (.tmp 26) rfl (w.heap.size + 1) zeroM rfl rfl _ _ X1 (by rw [infoM]; rfl) rfl (by simp [zeroM, Value.oneCell']) ?_))
  have l1 := Box.loadM (X1.setRow zeroM) rfl
  refine bodyPost_ret (v := .tuple #[.agg zeroM, .slice none 0 0, .slice none 0 0, .int .i64 1]) (by simp [results, Tryz.results22, asAddr, l1]) rfl ⟨zeroM, none, 0, none, 0, ret_run HZ.out.symm HE.out, by rw [rnX_bad HE.out]; exact isM_zero _, by rw [rnX_bad HE.out]; exact ⟨[], Qs.nothing _, Means.nil _ _⟩, by rw [rnX_bad HE.out]; exact Sl.nil _ none 0, off_zeroM _, Fresh.none _ _ _, Fresh.none _ _ _, bel_setRow (by omega) B1.out _⟩
set_option maxRecDepth 10000 in
set_option maxHeartbeats 4000000 in
theorem mRun_ok {m : Mc} {l : List Hp} {cs : Array Value} {v : Value} {w : World} (hm : IsM w m cs) (hl : Hps w v l) (hE : chkM m = 0) (hn : l.length ≤ 120) :
    Calls Tryz.prog 22 #[.agg cs, v] w fun e w' => RunC m l w e w' := by
  have HZ : Hid (rnE m l = 0) := rnE_ok hE hn
  have HE : Hid (chkM m = 0) := hE
  have HM : Hid (IsM w m cs) := hm
  have HL : Hid (Hps w v l) := hl
  obtain ⟨va, vk, rfl⟩ := hl.shape
  have hc16 : cs.size = 16 := hm.size.1
  have HI : (Tryz.prog.info? 33).map (·.size) = some cs.size := by rw [infoM, hc16]
  have X0 := (Box.newAt (w := w) (n := w.heap.size) rfl 33 cs).past (.cells #[.slice none 0 0, .int .i64 0, .slice none 0 0, .bool false, .int .i64 0, .int .i64 0, .slice none 0 0, .int .i64 0, .int .i64 0, .int .i64 0, .bool false, .int .i64 0, .int .i64 0, .int .i64 0, .int .i64 0, .bool false] 33)
  have X1 : Box ((w.alloc (.cells cs 33)).alloc (.cells #[.slice none 0 0, .int .i64 0, .slice none 0 0, .bool false, .int .i64 0, .int .i64 0, .slice none 0 0, .int .i64 0, .int .i64 0, .int .i64 0, .bool false, .int .i64 0, .int .i64 0, .int .i64 0, .int .i64 0, .bool false] 33)) (w.heap.size + 1) 33 zeroM := Box.newAt (w := w.alloc (.cells cs 33)) (n := w.heap.size + 1) (by simp) 33 _
  have BW : Hid (Below w.heap.size w ((w.alloc (.cells cs 33)).alloc (.cells #[.slice none 0 0, .int .i64 0, .slice none 0 0, .bool false, .int .i64 0, .int .i64 0, .slice none 0 0, .int .i64 0, .int .i64 0, .int .i64 0, .bool false, .int .i64 0, .int .i64 0, .int .i64 0, .int .i64 0, .bool false] 33))) := bel_alloc (bel_alloc (Below.refl w.heap.size w) _) _
  have hsz : ((w.alloc (.cells cs 33)).alloc (.cells #[.slice none 0 0, .int .i64 0, .slice none 0 0, .bool false, .int .i64 0, .int .i64 0, .slice none 0 0, .int .i64 0, .int .i64 0, .int .i64 0, .bool false, .int .i64 0, .int .i64 0, .int .i64 0, .int .i64 0, .bool false] 33)).heap.size = w.heap.size + 1 + 1 := by simp
  clear hm hl
  go_enter Tryz.func22, Tryz.ntmps22
  go_upto_region 1 with fail
  (try simp only [Value.cells])
  generalize ((w.alloc (.cells cs 33)).alloc (.cells #[.slice none 0 0, .int .i64 0, .slice none 0 0, .bool false, .int .i64 0, .int .i64 0, .slice none 0 0, .int .i64 0, .int .i64 0, .int .i64 0, .bool false, .int .i64 0, .int .i64 0, .int .i64 0, .int .i64 0, .bool false] 33)) = W at *
  go_wp2_with (first
    | fail
    | (refine wpList_load_row rfl 33 (.tmp 2) rfl w.heap.size rfl _ _ _ _ X0 Tryz.underlying33 rfl HI ?_))
  refine (mCheck_row (HM.out.keep BW.out)).mono ?_
  rintro e w1 ⟨rfl, b1⟩
  have X0 := X0.keep b1
  have X1 := X1.keep b1
  have B1 : Hid (Below w.heap.size w w1) := bel_trans BW.out b1
  have z1 : w.heap.size + 1 + 1 ≤ w1.heap.size := by rw [← hsz]; exact b1.size
  clear b1 BW hsz
  rw [hE]
  clear hE
  have q : ((0 : Int) != 0) = false := rfl
  have q1 : ¬ (l.length : Int) > 120 := by omega
  go_wp2_with (first
    | fail
    | (refine wpList_load_row rfl 33 (.tmp 2) rfl w.heap.size rfl _ _ _ _ X0 Tryz.underlying33 rfl HI ?_))
  refine (mCopy_row (HM.out.keep B1.out) HE.out).mono ?_
  rintro e w2 ⟨cc, rfl, CS, OC, b2⟩
  have X1 := X1.keep b2
  have B2 : Hid (Below w.heap.size w w2) := bel_trans B1.out b2
  have z2 : w1.heap.size ≤ w2.heap.size := b2.size
  obtain ⟨hk16, hka⟩ := CS.size
  clear b2 X0 HI
  obtain ⟨n9, hn9⟩ : ∃ n, n = w2.heap.size := ⟨_, rfl⟩
  have X9 : Box (w2.alloc (.cells #[.slice none 0 0, .int .i64 0, .slice none 0 0, .bool false, .int .i64 0, .int .i64 0, .slice none 0 0, .int .i64 0, .int .i64 0, .int .i64 0, .bool false, .int .i64 0, .int .i64 0, .int .i64 0, .int .i64 0, .bool false] 33)) n9 33 zeroM := Box.newAt hn9 _ _
  have e9 : w2.heap.size = n9 := hn9.symm
  have HN9 : Hid (n9 = w2.heap.size) := hn9
  clear hn9
  go_upto_region 7 with (first
    | fail
    | (refine wpList_store_row rfl 33 (.tmp 9) (.tmp 28) rfl n9 cc rfl rfl _ _ X9 (by rw [infoM, hk16]) (by rw [hk16]; rfl) hka ?_))
  have hn9 := HN9.out
  clear e9
  have X9 := X9.setRow cc
  have X1 := (X1.past (.cells #[.slice none 0 0, .int .i64 0, .slice none 0 0, .bool false, .int .i64 0, .int .i64 0, .slice none 0 0, .int .i64 0, .int .i64 0, .int .i64 0, .bool false, .int .i64 0, .int .i64 0, .int .i64 0, .int .i64 0, .bool false] 33)).otherRow (show w.heap.size + 1 ≠ n9 by omega) cc
  have CS := (CS.keep (bel_alloc (Below.refl _ _) (.cells #[.slice none 0 0, .int .i64 0, .slice none 0 0, .bool false, .int .i64 0, .int .i64 0, .slice none 0 0, .int .i64 0, .int .i64 0, .int .i64 0, .bool false, .int .i64 0, .int .i64 0, .int .i64 0, .int .i64 0, .bool false] 33))).kept ((KeptB.refl (fun q => q = n9) _).setRow (n := n9) (.inl rfl) cc) OC (fun q hq => by omega)
  have B3 : Hid (Below w.heap.size w ((w2.alloc (.cells #[.slice none 0 0, .int .i64 0, .slice none 0 0, .bool false, .int .i64 0, .int .i64 0, .slice none 0 0, .int .i64 0, .int .i64 0, .int .i64 0, .bool false, .int .i64 0, .int .i64 0, .int .i64 0, .int .i64 0, .bool false] 33)).setRow n9 cc)) := bel_setRow (by omega) (bel_alloc B2.out _) _
  have z9 : w2.heap.size ≤ n9 := by omega
  clear hn9
  have z3 : n9 < ((w2.alloc (.cells #[.slice none 0 0, .int .i64 0, .slice none 0 0, .bool false, .int .i64 0, .int .i64 0, .slice none 0 0, .int .i64 0, .int .i64 0, .int .i64 0, .bool false, .int .i64 0, .int .i64 0, .int .i64 0, .int .i64 0, .bool false] 33)).setRow n9 cc).heap.size := X9.lt
  clear B1 B2 q q1 hc16
  generalize ((w2.alloc (.cells #[.slice none 0 0, .int .i64 0, .slice none 0 0, .bool false, .int .i64 0, .int .i64 0, .slice none 0 0, .int .i64 0, .int .i64 0, .int .i64 0, .bool false, .int .i64 0, .int .i64 0, .int .i64 0, .int .i64 0, .bool false] 33)).setRow n9 cc) = w3 at *
  have hm := makeTold l.length hn
  have hm8 := makeSaid l.length hn
  simp only [Act.put]
  go_cut [10, 11] from 29 to 34 (fun a b wx => RunA l.length w3 a b wx)
  case first =>
    go_region
    all_goals
      go_wp2
      go_meet
      first
        | exact ⟨_, _, rfl, rfl, Box.past (Box.newAt rfl _ _) _, Box.newAt (by simp) _ _, by omega, by omega, by omega, bel_alloc (bel_alloc (Below.drew (Below.refl _ _)) _) _⟩
        | exact ⟨_, _, rfl, rfl, Box.newAt (by simp) _ _, Box.past (Box.newAt rfl _ _) _, by omega, by omega, by omega, bel_alloc (bel_alloc (Below.drew (Below.refl _ _)) _) _⟩
  case rest =>
    obtain ⟨n10, n11, rfl, rfl, X10, X11, hd, l10, l11, b4⟩ := hcut
    have X1 := X1.keep b4
    have X9 := X9.keep b4
    have CS := CS.keep b4
    have hI : RunI m l w (w.heap.size + 1 + 1) n9 n10 n11 wc.heap.size 0 wc := ⟨⟨cc, X9, CS, OC.less (fun q hq => by unfold RunBad at hq; omega)⟩, ⟨_, X10, by simp, fun j hj => absurd hj (Nat.not_lt_zero _)⟩, ⟨_, X11, by simp, fun j hj => absurd hj (Nat.not_lt_zero _)⟩, bel_trans B3.out b4, Nat.le_refl _, Nat.zero_le _⟩
    have t9 := X9.lt
    have t10 := X10.lt
    have t11 := X11.lt
    have X1L : Hid (Box wc (w.heap.size + 1) 33 zeroM) := X1
    have HI0 : Hid (RunI m l w (w.heap.size + 1 + 1) n9 n10 n11 wc.heap.size 0 wc) := hI
    have g9 : w.heap.size + 1 + 1 ≤ n9 := by omega
    have g10 : n9 < n10 := by omega
    have g11 : n9 < n11 := by omega
    clear hI b4 CS OC X1 X9 X10 X11 hm hm8 B3 hk16 hka
    obtain ⟨NB, hNB⟩ : ∃ n, n = wc.heap.size := ⟨_, rfl⟩
    rw [← hNB] at HI0 t9 t10 t11
    go_wp2
    go_loopw [12, 13, 14, 15, 16, 37] (fun _ _ _ _ _ s wx => ∃ i : Nat, s = .int .i64 i ∧ RunI m l w (w.heap.size + 1 + 1) n9 n10 n11 NB i wx ∧ KeptB (fun q => q = n9 ∨ q = n10 ∨ q = n11) wc wx) (fun _ _ _ _ _ s _ => l.length - (intOf s).toNat)
    case atStart => exact ⟨0, rfl, HI0.out, KeptB.refl _ _⟩
    case round =>
      obtain ⟨i, rfl, hR, hK⟩ := hrel
      have HR : Hid (RunI m l w (w.heap.size + 1 + 1) n9 n10 n11 NB i wr) := hR
      have HK : Hid (KeptB (fun q => q = n9 ∨ q = n10 ∨ q = n11) wc wr) := hK
      have hil := hR.i
      clear hR hK
      by_cases hlt : i < l.length
      · obtain ⟨cs0, X9, M9, O9⟩ := HR.out.now
        obtain ⟨qs, X10, L10, -⟩ := HR.out.told
        obtain ⟨es, X11, L11, -⟩ := HR.out.said
        have HB : Hid (Below w.heap.size w wr) := HR.out.bel
        have hNB2 : NB ≤ wr.heap.size := HR.out.lo
        obtain ⟨hs0, ha0⟩ := M9.size
        obtain ⟨b, o, hva, hbl, hA⟩ : ∃ b o, va = some ⟨b, o, none⟩ ∧ b < w.heap.size ∧ AtHp w b (o + i * 7) (hpth l i) := by
          obtain ⟨a', c', e', -, -, q⟩ := HL.out
          simp only [Value.slice.injEq] at e'
          rcases q with q | ⟨b', o', q, q2, q3⟩
          · rw [q] at hlt; simp at hlt
          · exact ⟨b', o', by rw [e'.1, q], q2, q3 i hlt⟩
        subst hva
        obtain ⟨X, hX⟩ : ∃ X, hpth l i = X := ⟨_, rfl⟩
        have HX : Hid (hpth l i = X) := hX
        rw [hX] at hA
        clear hX
        obtain ⟨u, q0, q1, q2, q3, q4, q5, q6, hS⟩ := hA.keep HB.out hbl
        have HSd : Hid (Sl wr u X.ds) := hS.1
        obtain ⟨da, dn, dc, rfl⟩ : ∃ a k c, u = .slice a k c := let ⟨a, c, e, _⟩ := hS.1; ⟨a, _, c, e⟩
        have hlt1 : (i : Int) < (l.length : Int) := by omega
        have sb : b < wr.heap.size := Nat.lt_of_lt_of_le hbl HB.out.size
        obtain ⟨now, hnow⟩ : ∃ now, (rnM m (l.take i)).1 = now := ⟨_, rfl⟩
        have HNOW : Hid ((rnM m (l.take i)).1 = now) := hnow
        rw [hnow] at M9
        clear hnow hA hS
        have X9a := X9.past (.cells #[.int .i64 X.kind, .int .i64 X.num, .int .i64 X.d, .int .i64 X.a, .int .i64 X.n, .bool X.wr, .slice da dn dc] 37)
        go_wp2_with (first
          | fail
          | (refine wpList_load_row rfl 33 (.tmp 9) rfl n9 rfl _ _ _ _ X9a Tryz.underlying33 rfl (by rw [infoM, hs0]) ?_))
        have BX : Hid (Below wr.heap.size wr (wr.alloc (.cells #[.int .i64 X.kind, .int .i64 X.num, .int .i64 X.d, .int .i64 X.a, .int .i64 X.n, .bool X.wr, .slice da dn dc] 37))) := bel_alloc (Below.refl _ _) _
        refine (mDo_row (m := now) (x := X) (M9.keep BX.out) ⟨_, _, _, rfl, HSd.out.keep BX.out⟩).mono ?_
        rintro e w4 ⟨cs1, cs2, rfl, hM, hT, o1, o2, b4⟩
        have B4 : Hid (Below wr.heap.size wr w4) := bel_trans BX.out b4
        obtain ⟨hs1, ha1⟩ := hM.size
        obtain ⟨⟨Y, T⟩, hYT⟩ : ∃ R, hpR now X = R := ⟨_, rfl⟩
        have HYT : Hid (hpR now X = (Y, T)) := hYT
        rw [hYT] at hM hT
        obtain ⟨a4, n4, c4, a5, n5, c5, rfl, hd4, ht5⟩ := hT
        dsimp only at hM hd4 ht5
        obtain ⟨E, hE⟩ : ∃ E, hpE now X = E := ⟨_, rfl⟩
        have HEE : Hid (hpE now X = E) := hE
        rw [hE]
        clear hE hYT b4 X9a q0 q1 q2 q3 q4 q5 q6
        have z4 : wr.heap.size ≤ w4.heap.size := B4.out.size
        obtain ⟨n14, hn14⟩ : ∃ n, w4.heap.size = n := ⟨_, rfl⟩
        obtain ⟨n15, hn15⟩ : ∃ n, n14 + 1 = n := ⟨_, rfl⟩
        have X14 : Box ((w4.alloc (.cells #[.slice none 0 0, .int .i64 0, .slice none 0 0, .bool false, .int .i64 0, .int .i64 0, .slice none 0 0, .int .i64 0, .int .i64 0, .int .i64 0, .bool false, .int .i64 0, .int .i64 0, .int .i64 0, .int .i64 0, .bool false] 33)).alloc (.cells #[.bool false, .slice none 0 0, .int .i64 0, .slice none 0 0] 40)) n14 33 zeroM := (Box.newAt hn14.symm _ _).past _
        have X15 : Box ((w4.alloc (.cells #[.slice none 0 0, .int .i64 0, .slice none 0 0, .bool false, .int .i64 0, .int .i64 0, .slice none 0 0, .int .i64 0, .int .i64 0, .int .i64 0, .bool false, .int .i64 0, .int .i64 0, .int .i64 0, .int .i64 0, .bool false] 33)).alloc (.cells #[.bool false, .slice none 0 0, .int .i64 0, .slice none 0 0] 40)) n15 40 zeroT := Box.newAt (by simp; omega) _ _
        have h45 : n14 ≠ n15 := by omega
        have X9 := ((((X9.keep B4.out).past (.cells #[.slice none 0 0, .int .i64 0, .slice none 0 0, .bool false, .int .i64 0, .int .i64 0, .slice none 0 0, .int .i64 0, .int .i64 0, .int .i64 0, .bool false, .int .i64 0, .int .i64 0, .int .i64 0, .int .i64 0, .bool false] 33)).past (.cells #[.bool false, .slice none 0 0, .int .i64 0, .slice none 0 0] 40)).otherRow (show n9 ≠ n14 by omega) cs1).otherRow (show n9 ≠ n15 by omega) #[.bool T.done, .slice a4 n4 c4, .int .i64 T.f, .slice a5 n5 c5]
        have X10 := ((((X10.keep B4.out).past (.cells #[.slice none 0 0, .int .i64 0, .slice none 0 0, .bool false, .int .i64 0, .int .i64 0, .slice none 0 0, .int .i64 0, .int .i64 0, .int .i64 0, .bool false, .int .i64 0, .int .i64 0, .int .i64 0, .int .i64 0, .bool false] 33)).past (.cells #[.bool false, .slice none 0 0, .int .i64 0, .slice none 0 0] 40)).otherRow (show n10 ≠ n14 by omega) cs1).otherRow (show n10 ≠ n15 by omega) #[.bool T.done, .slice a4 n4 c4, .int .i64 T.f, .slice a5 n5 c5]
        have X11 := ((((X11.keep B4.out).past (.cells #[.slice none 0 0, .int .i64 0, .slice none 0 0, .bool false, .int .i64 0, .int .i64 0, .slice none 0 0, .int .i64 0, .int .i64 0, .int .i64 0, .bool false, .int .i64 0, .int .i64 0, .int .i64 0, .int .i64 0, .bool false] 33)).past (.cells #[.bool false, .slice none 0 0, .int .i64 0, .slice none 0 0] 40)).otherRow (show n11 ≠ n14 by omega) cs1).otherRow (show n11 ≠ n15 by omega) #[.bool T.done, .slice a4 n4 c4, .int .i64 T.f, .slice a5 n5 c5]
        have B5 : Hid (Below wr.heap.size wr ((((w4.alloc (.cells #[.slice none 0 0, .int .i64 0, .slice none 0 0, .bool false, .int .i64 0, .int .i64 0, .slice none 0 0, .int .i64 0, .int .i64 0, .int .i64 0, .bool false, .int .i64 0, .int .i64 0, .int .i64 0, .int .i64 0, .bool false] 33)).alloc (.cells #[.bool false, .slice none 0 0, .int .i64 0, .slice none 0 0] 40)).setRow n14 cs1).setRow n15 #[.bool T.done, .slice a4 n4 c4, .int .i64 T.f, .slice a5 n5 c5])) := bel_setRow (by omega) (bel_setRow (by omega) (bel_alloc (bel_alloc B4.out _) _) _) _
        have K5 : KeptB (fun q => q = n14 ∨ q = n15) w4 ((((w4.alloc (.cells #[.slice none 0 0, .int .i64 0, .slice none 0 0, .bool false, .int .i64 0, .int .i64 0, .slice none 0 0, .int .i64 0, .int .i64 0, .int .i64 0, .bool false, .int .i64 0, .int .i64 0, .int .i64 0, .int .i64 0, .bool false] 33)).alloc (.cells #[.bool false, .slice none 0 0, .int .i64 0, .slice none 0 0] 40)).setRow n14 cs1).setRow n15 #[.bool T.done, .slice a4 n4 c4, .int .i64 T.f, .slice a5 n5 c5]) := (((KeptB.refl _ _).alloc _).alloc _ |>.setRow (n := n14) (.inl (.inl rfl)) _).setRow (n := n15) (.inl (.inr rfl)) _
        have K5B : Below w4.heap.size w4 ((((w4.alloc (.cells #[.slice none 0 0, .int .i64 0, .slice none 0 0, .bool false, .int .i64 0, .int .i64 0, .slice none 0 0, .int .i64 0, .int .i64 0, .int .i64 0, .bool false, .int .i64 0, .int .i64 0, .int .i64 0, .int .i64 0, .bool false] 33)).alloc (.cells #[.bool false, .slice none 0 0, .int .i64 0, .slice none 0 0] 40)).setRow n14 cs1).setRow n15 #[.bool T.done, .slice a4 n4 c4, .int .i64 T.f, .slice a5 n5 c5]) := bel_setRow (by omega) (bel_setRow (by omega) (bel_alloc (bel_alloc (Below.refl _ _) _) _) _) _
        have hM := hM.keep K5B
        have hd4 := hd4.keep K5B
        have ht5 := ht5.keep K5B
        have Z14 := X14
        have Z15 := X15.otherRow h45.symm cs1
        have X14 := (X14.setRow cs1).otherRow h45 #[.bool T.done, .slice a4 n4 c4, .int .i64 T.f, .slice a5 n5 c5]
        have X15 := Z15.setRow #[.bool T.done, .slice a4 n4 c4, .int .i64 T.f, .slice a5 n5 c5]
        clear K5 K5B
        go_upto_region 12 with (first
          | fail
          | (refine wpList_store_row rfl 33 (.tmp 14) (.tmp 46) rfl n14 cs1 rfl rfl _ _ Z14 (by rw [infoM, hs1]) (by rw [hs1]; rfl) ha1 ?_)
          | (refine wpList_store_row rfl 40 (.tmp 15) (.tmp 47) rfl n15 _ rfl rfl _ _ Z15 infoTo rfl (by simp [Value.oneCell']) ?_))
        have h159 : n15 ≠ n9 := by omega
        clear Z14 Z15 hn14 hn15
        generalize ((((w4.alloc (.cells #[.slice none 0 0, .int .i64 0, .slice none 0 0, .bool false, .int .i64 0, .int .i64 0, .slice none 0 0, .int .i64 0, .int .i64 0, .int .i64 0, .bool false, .int .i64 0, .int .i64 0, .int .i64 0, .int .i64 0, .bool false] 33)).alloc (.cells #[.bool false, .slice none 0 0, .int .i64 0, .slice none 0 0] 40)).setRow n14 cs1).setRow n15 #[.bool T.done, .slice a4 n4 c4, .int .i64 T.f, .slice a5 n5 c5]) = w5 at *
        have HST : Hid (∀ b : Bool, b = decide (E = 0) → RunI m l w (w.heap.size + 1 + 1) n9 n10 n11 NB (i + 1) ((((((RunW b w5 n9 cs1).setCell ⟨n10, i * 4, none⟩ (.bool T.done)).setCell ⟨n10, i * 4 + 1, none⟩ (.slice a4 n4 c4)).setCell ⟨n10, i * 4 + 2, none⟩ (.int .i64 T.f)).setCell ⟨n10, i * 4 + 3, none⟩ (.slice a5 n5 c5)).setCell ⟨n11, i, none⟩ (.int .i64 E))) := fun b hb =>
          RunI.step (x := ⟨T.done, a4, n4, c4, T.f, a5, n5, c5⟩) (t := T) HR.out hlt B5.out (fun now' y T' e1 e2 => by
            have e3 : now' = now := e1.trans HNOW.out
            rw [e3, HX.out, HYT.out] at e2
            simp only [Prod.mk.injEq] at e2
            obtain ⟨rfl, rfl⟩ := e2
            rw [e3, HX.out]
            exact ⟨HEE.out.symm, rfl, fun _ => hM⟩)
            (o1.less (fun q hq => by simp; omega)) ⟨rfl, rfl, hd4, ht5, (Off.fresh (o2 1 _ rfl)).mono (by simp), (Off.fresh (o2 3 _ rfl)).mono (by simp)⟩ ⟨by omega, by omega, by omega⟩ ⟨by omega, by omega, by omega, by omega⟩ ⟨by omega, by omega, hd⟩ hb
        have HKT : Hid (∀ w', KeptB (fun q => q = n9 ∨ q = n10 ∨ q = n11) w5 w' → KeptB (fun q => q = n9 ∨ q = n10 ∨ q = n11) wc w') := fun w' hk => (HK.out.below B5.out).trans hk (fun _ _ h => h)
        clear hM hd4 ht5 o1 o2 M9 O9 ha0
        by_cases h0 : E = 0
        · subst h0
          have q : ((0 : Int) == 0) = true := rfl
          have X10 := X10.otherRow (show n10 ≠ n9 by omega) cs1
          have X11 := X11.otherRow (show n11 ≠ n9 by omega) cs1
          have X15 := X15.otherRow h159 cs1
          go_upto_region 14 with (first
            | fail
            | (refine wpList_load_row rfl 33 (.tmp 14) rfl n14 rfl _ _ _ _ X14 Tryz.underlying33 rfl (by rw [infoM, hs1]) ?_)
            | (refine wpList_store_row rfl 33 (.tmp 9) (.tmp 51) rfl n9 cs1 rfl rfl _ _ X9 (by rw [infoM, hs1]) (by rw [hs1]; exact hs0) ha1 ?_))
          have HS : Hid (RunI m l w (w.heap.size + 1 + 1) n9 n10 n11 NB (i + 1) _ ∧ KeptB (fun q => q = n9 ∨ q = n10 ∨ q = n11) wc _) := ⟨HST.out true rfl, HKT.out _ ((((((KeptB.refl _ w5).setRow (n := n9) (.inl (.inl rfl)) cs1).setCell (p := ⟨n10, i * 4, none⟩) (.inl (.inr (.inl rfl))) (.bool T.done)).setCell (p := ⟨n10, i * 4 + 1, none⟩) (.inl (.inr (.inl rfl))) (.slice a4 n4 c4)).setCell (p := ⟨n10, i * 4 + 2, none⟩) (.inl (.inr (.inl rfl))) (.int .i64 T.f)).setCell (p := ⟨n10, i * 4 + 3, none⟩) (.inl (.inr (.inl rfl))) (.slice a5 n5 c5) |>.setCell (p := ⟨n11, i, none⟩) (.inl (.inr (.inr rfl))) (.int .i64 0))⟩
          clear HST HKT X9 X14 q
          obtain ⟨y0, y1, y2, y3⟩ := X10.atQ (i := i) (by omega)
          have y4 := X11.atE (i := i) (by omega)
          have mk10 := X10.marksOf
          have mk11 := X11.marksOf
          have s10 := X10.lt
          have s11 := X11.lt
          have u0 : ¬ n10 = n11 := hd
          have u1 : ¬ n11 = n10 := fun e => hd e.symm
          obtain ⟨zz0, zz1, zz2, zz3, -, -, -, -, zz4⟩ := X15.four
          clear X10 X11 X15
          go_wp2_with fail
          exact ⟨⟨i + 1, by go_num, HS.out.1, HS.out.2⟩, by simp [intOf]; omega⟩
        · have q : (E == 0) = false := by simpa using h0
          have HS : Hid (RunI m l w (w.heap.size + 1 + 1) n9 n10 n11 NB (i + 1) _ ∧ KeptB (fun q => q = n9 ∨ q = n10 ∨ q = n11) wc _) := ⟨HST.out false (by simpa using h0), HKT.out _ (((((KeptB.refl _ w5).setCell (p := ⟨n10, i * 4, none⟩) (.inl (.inr (.inl rfl))) (.bool T.done)).setCell (p := ⟨n10, i * 4 + 1, none⟩) (.inl (.inr (.inl rfl))) (.slice a4 n4 c4)).setCell (p := ⟨n10, i * 4 + 2, none⟩) (.inl (.inr (.inl rfl))) (.int .i64 T.f)).setCell (p := ⟨n10, i * 4 + 3, none⟩) (.inl (.inr (.inl rfl))) (.slice a5 n5 c5) |>.setCell (p := ⟨n11, i, none⟩) (.inl (.inr (.inr rfl))) (.int .i64 E))⟩
          clear HST HKT X9 X14 h0
          go_upto_region 14 with fail
          obtain ⟨y0, y1, y2, y3⟩ := X10.atQ (i := i) (by omega)
          have y4 := X11.atE (i := i) (by omega)
          have mk10 := X10.marksOf
          have mk11 := X11.marksOf
          have s10 := X10.lt
          have s11 := X11.lt
          have u0 : ¬ n10 = n11 := hd
          have u1 : ¬ n11 = n10 := fun e => hd e.symm
          obtain ⟨zz0, zz1, zz2, zz3, -, -, -, -, zz4⟩ := X15.four
          clear X10 X11 X15
          go_wp2_with fail
          exact ⟨⟨i + 1, by go_num, HS.out.1, HS.out.2⟩, by simp [intOf]; omega⟩
      · obtain rfl : i = l.length := by omega
        have X1 := X1L.out.kept HK.out (by omega)
        obtain ⟨⟨cs1, X9, M9, O9⟩, ⟨qs, X10, L10, F10⟩, ⟨es, X11, L11, F11⟩, hbel, hlo, -⟩ := HR.out
        obtain ⟨hs1, ha1⟩ := M9.size
        go_wp2_with (first
          | fail
          | (refine wpList_load_row rfl 33 (.tmp 9) rfl n9 rfl _ _ _ _ X9 Tryz.underlying33 rfl (by rw [infoM, hs1]) ?_)
          | (refine wpList_store_row rfl 33 (.tmp 4) (.tmp 61) rfl (w.heap.size + 1) cs1 rfl rfl _ _ X1 (by rw [infoM, hs1]) (by rw [hs1]; rfl) ha1 ?_))
        have l1 := Box.loadM (X1.setRow cs1) hs1
        have K9 : KeptB (fun q => q = w.heap.size + 1) wr (wr.setRow (w.heap.size + 1) cs1) := (KeptB.refl (fun q => q = w.heap.size + 1) wr).setRow (n := w.heap.size + 1) (.inl rfl) _
        rw [List.take_length] at M9 F10 F11
        have hX := rnX_ok HZ.out
        obtain ⟨k1, k2⟩ := rnM_len l m
        have hes : es = (rnM m l).2.2 := list_ext_getD (by omega) (fun j hj => F11 j (by omega))
        have hq1 : (rnX m l).2.1.length = l.length := by rw [hX]; exact k1
        have hq2 : (rnX m l).2.2.length = l.length := by rw [hX]; exact k2
        refine bodyPost_ret (v := .tuple #[.agg cs1, .slice (some ⟨n10, 0, none⟩) l.length l.length, .slice (some ⟨n11, 0, none⟩) l.length l.length, .int .i64 0]) (by simp [results, Tryz.results22, asAddr, l1]) rfl ⟨cs1, some ⟨n10, 0, none⟩, l.length, some ⟨n11, 0, none⟩, l.length, by rw [hq1, hq2, HZ.out], ?_, ?_, ?_, ?_, ?_, ?_, ?_⟩
        · rw [hX]; exact M9.kept K9 O9 (fun q hq => by unfold RunBad; omega)
        · have Y10 := X10.kept K9 (by omega)
          have Q := Y10.qs (by unfold maxLen; omega)
          rw [L10] at Q
          rw [hq1, hX]
          refine ⟨qs, Q, ⟨by omega, fun j hj => ?_⟩⟩
          exact ((F10 j (by omega)).kept K9 (fun q hq => by omega)).mono (by omega)
        · have Y11 := X11.kept K9 (by omega)
          have Q := Y11.sl (by unfold maxLen; omega)
          rw [L11] at Q
          rw [hq2, hX, ← hes]
          exact Q
        · exact O9.less (fun q hq => by unfold RunBad; omega)
        · exact fresh_at (by omega) _ _ _
        · exact fresh_at (by omega) _ _ _
        · exact bel_setRow (by omega) hbel _
theorem mRun_row {m : Mc} {l : List Hp} {cs : Array Value} {v : Value} {w : World} (hm : IsM w m cs) (hl : Hps w v l) : Calls Tryz.prog 22 #[.agg cs, v] w fun e w' => RunC m l w e w' := by
  by_cases h : chkM m = 0
  · by_cases hn : l.length ≤ 120
    · exact mRun_ok hm hl h hn
    · exact mRun_many hm hl h hn
  · exact mRun_bad hm hl h
end Go.Proofs.YtlgjllmecjkbjacGreat
