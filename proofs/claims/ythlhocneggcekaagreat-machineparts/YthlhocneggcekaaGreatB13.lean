/-
  Laid together: Cross, Apart, KeptB, MHapB, HCheck.
-/
import Derived.Test.YthlhocneggcekaaGreatB1
import Derived.Test.YthlhocneggcekaaGreatB2
import Derived.Test.YthlhocneggcekaaGreatB3
import Derived.Test.YthlhocneggcekaaGreatB4
import Derived.Test.YthlhocneggcekaaGreatB5
import Derived.Test.YthlhocneggcekaaGreatB6
import Derived.Test.YthlhocneggcekaaGreatB7
import Derived.Test.YthlhocneggcekaaGreatB8
import Derived.Test.YthlhocneggcekaaGreatB9
import Derived.Test.YthlhocneggcekaaGreatB10
import Derived.Test.YthlhocneggcekaaGreatB11
import Derived.Test.YthlhocneggcekaaGreatB12
import Derived.Test.YthlhocneggcekaaGreatRows
import Derived.WalkKit
import Derived.WalkSpells
import Derived.WalkLawsBesides
import Derived.Below
import Derived.WalkSmall
import Derived.Deep.QuietTactic
import Derived.BigQuiet
import Derived.Deep.Draws
import Derived.Maps.OwnOps
import Derived.Maps.OwnSet
import Derived.Deep.AppendLies
import Derived.Deep.RegionWith
import Derived.LoopN
import Derived.Deep.CutRange
import Derived.Deep.RegionHeld3
import Derived.Deep.DrawnRows
import Derived.Laws.CopyOwn
import Derived.Deep.RegionHeld
namespace Go.Proofs.YthlhocneggcekaaGreat
open Go.RowKit
theorem AtL.other {w : World} {b o : Nat} {x : Ln} (h : AtL w b o x) {p : Addr} {u : Value} (hp : ∀ j, j < 5 → p ≠ ⟨b, o + j, none⟩) : AtL (w.setCell p u) b o x := by
  obtain ⟨h0, h1, h2, h3, h4⟩ := h
  refine ⟨?_, ?_, ?_, ?_, ?_⟩
  · rw [World.cell?_setCell_other (h := (by simpa using hp 0 (by omega) : p ≠ ⟨b, o, none⟩))]; exact h0
  · rw [World.cell?_setCell_other (h := hp 1 (by omega))]; exact h1
  · rw [World.cell?_setCell_other (h := hp 2 (by omega))]; exact h2
  · rw [World.cell?_setCell_other (h := hp 3 (by omega))]; exact h3
  · rw [World.cell?_setCell_other (h := hp 4 (by omega))]; exact h4
theorem Ls.other {w : World} {v : Value} {l : List Ln} (h : Ls w v l) {p : Addr} {u : Value} (hp : ∀ b o x, AtL w b o x → ∀ j, j < 5 → p ≠ ⟨b, o + j, none⟩) : Ls (w.setCell p u) v l := by
  obtain ⟨a, cap, rfl, hl, hm, h⟩ := h
  refine ⟨a, cap, rfl, hl, hm, ?_⟩
  rcases h with h | ⟨b, o, rfl, hlt, hc⟩
  · exact .inl h
  · exact .inr ⟨b, o, rfl, by simpa [World.setCell] using hlt, fun i hi => (hc i hi).other (hp b _ _ (hc i hi))⟩
theorem Ls.setSlice {w : World} {v : Value} {l : List Ln} (h : Ls w v l) {p : Addr} {a : Option Addr} {n c : Nat} (hp : w.cell? p = some (.slice a n c)) (u : Value) : Ls (w.setCell p u) v l := by
  refine h.other fun b o x hx j hj e => ?_
  obtain ⟨h0, h1, h2, h3, h4⟩ := hx
  rw [e] at hp
  obtain rfl | rfl | rfl | rfl | rfl : j = 0 ∨ j = 1 ∨ j = 2 ∨ j = 3 ∨ j = 4 := by omega
  · rw [Nat.add_zero, h0] at hp; simp at hp
  · rw [h1] at hp; simp at hp
  · rw [h2] at hp; simp at hp
  · rw [h3] at hp; simp at hp
  · rw [h4] at hp; simp at hp
def Apart (v : Value) (l : List Ln) (n : Nat) : Prop := l = [] ∨ ∀ b o k c, v = .slice (some ⟨b, o, none⟩) k c → b ≠ n
theorem atL_bridge {w : World} {n o : Nat} {t : TypeId} {x : Ln} {i0 i1 i3 i4 i5 i7 i8 i9 i10 : Int} {p6 p11 : Bool} {sa : Option Addr} {sn sc : Nat}
    (h : Box w n t #[J i0, J i1, .slice sa sn sc, J i3, J i4, J i5, .bool p6, J i7, J i8, J i9, J i10, .bool p11]) (hx : AtL w n o x) : False := by
  obtain ⟨_, _, h2, h3, h4⟩ := hx
  rw [h.cell] at h2 h3 h4
  by_cases ho : o < 8
  · obtain rfl | rfl | rfl | rfl | rfl | rfl | rfl | rfl : o = 0 ∨ o = 1 ∨ o = 2 ∨ o = 3 ∨ o = 4 ∨ o = 5 ∨ o = 6 ∨ o = 7 := by omega
    all_goals simp at h2 h3 h4
  · rw [Array.getElem?_eq_none (by simp; omega)] at h4
    simp at h4
theorem Ls.apart {w : World} {v : Value} {l : List Ln} (hl : Ls w v l) {n : Nat} {t : TypeId} {i0 i1 i3 i4 i5 i7 i8 i9 i10 : Int} {p6 p11 : Bool} {sa : Option Addr} {sn sc : Nat}
    (h : Box w n t #[J i0, J i1, .slice sa sn sc, J i3, J i4, J i5, .bool p6, J i7, J i8, J i9, J i10, .bool p11]) : Apart v l n := by
  obtain ⟨a, cap, rfl, _, _, hl⟩ := hl
  rcases hl with rfl | ⟨b, o, rfl, _, hc⟩
  · exact .inl rfl
  · by_cases h0 : l = []
    · exact .inl h0
    · refine .inr fun b' o' k c e => ?_
      simp only [Value.slice.injEq, Option.some.injEq, Addr.mk.injEq, and_true] at e
      obtain ⟨⟨rfl, rfl⟩, -⟩ := e
      rintro rfl
      exact atL_bridge h (hc 0 (List.length_pos_iff.2 h0))
theorem Ls.putAt {w : World} {v : Value} {l : List Ln} (h : Ls w v l) {n : Nat} (ha : Apart v l n) (i : Nat) (u : Value) : Ls (w.setCell ⟨n, i, none⟩ u) v l := by
  obtain ⟨a, cap, rfl, hl, hm, h⟩ := h
  refine ⟨a, cap, rfl, hl, hm, ?_⟩
  rcases h with h | ⟨b, o, rfl, hlt, hc⟩
  · exact .inl h
  · rcases ha with ha | ha
    · exact .inl ha
    · refine .inr ⟨b, o, rfl, by simpa [World.setCell] using hlt, fun j hj => (hc j hj).other fun j' _ e => ?_⟩
      simp only [Addr.mk.injEq] at e
      exact ha b o _ _ rfl e.1.symm
theorem Ls.put12 {w : World} {v : Value} {l : List Ln} (h : Ls w v l) {n : Nat} (ha : Apart v l n) (u0 u1 u2 u3 u4 u5 u6 u7 u8 u9 u10 u11 : Value) :
    Ls ((((((((((((w.setCell ⟨n, 0, none⟩ u0).setCell ⟨n, 1, none⟩ u1).setCell ⟨n, 2, none⟩ u2).setCell ⟨n, 3, none⟩ u3).setCell ⟨n, 4, none⟩ u4).setCell ⟨n, 5, none⟩ u5).setCell ⟨n, 6, none⟩ u6).setCell ⟨n, 7, none⟩ u7).setCell ⟨n, 8, none⟩ u8).setCell ⟨n, 9, none⟩ u9).setCell ⟨n, 10, none⟩ u10).setCell ⟨n, 11, none⟩ u11) v l :=
  (((((((((((h.putAt ha 0 u0).putAt ha 1 u1).putAt ha 2 u2).putAt ha 3 u3).putAt ha 4 u4).putAt ha 5 u5).putAt ha 6 u6).putAt ha 7 u7).putAt ha 8 u8).putAt ha 9 u9).putAt ha 10 u10).putAt ha 11 u11
theorem Ls.drew {w : World} {v : Value} {l : List Ln} (h : Ls w v l) : Ls w.drew v l := h
theorem Ls.drewN {w : World} {v : Value} {l : List Ln} (h : Ls w v l) (n : Nat) : Ls (w.drewN n) v l := h
structure KeptB (may : Nat → Prop) (w w' : World) : Prop where
  os : w'.os = w.os
  tape : w'.tape = w.tape
  output : w'.output = w.output
  size : w.heap.size ≤ w'.heap.size
  block : ∀ k, k < w.heap.size → ¬ may k → w'.heap[k]? = w.heap[k]?
theorem KeptB.refl (may : Nat → Prop) (w : World) : KeptB may w w := ⟨rfl, rfl, rfl, Nat.le_refl _, fun _ _ _ => rfl⟩
theorem KeptB.below {may : Nat → Prop} {a b c : World} (h : KeptB may a b) (k : Below b.heap.size b c) : KeptB may a c :=
  ⟨k.os.trans h.os, k.tape.trans h.tape, k.output.trans h.output, Nat.le_trans h.size k.size, fun i hi hm => (k.block i (Nat.lt_of_lt_of_le hi h.size)).trans (h.block i hi hm)⟩
theorem KeptB.alloc {may : Nat → Prop} {a w : World} (h : KeptB may a w) (o : Obj) : KeptB may a (w.alloc o) := h.below (bel_alloc (Below.refl _ _) _)
theorem KeptB.drew {may : Nat → Prop} {a w : World} (h : KeptB may a w) : KeptB may a w.drew := ⟨h.os, h.tape, h.output, h.size, h.block⟩
theorem KeptB.setCell {may : Nat → Prop} {a w : World} (h : KeptB may a w) {p : Addr} (hp : may p.block ∨ a.heap.size ≤ p.block) (u : Value) : KeptB may a (w.setCell p u) :=
  ⟨h.os, h.tape, h.output, by simpa [World.setCell] using h.size, fun k hk hm => (Below.heap_setCell _ _ _ _ (by rintro rfl; rcases hp with hp | hp; exact hm hp; omega)).trans (h.block k hk hm)⟩
theorem KeptB.grown {may : Nat → Prop} {a w w' : World} {row : Option Nat} (h : KeptB may a w) (hg : w.grownBy w' row) (hr : ∀ k, row = some k → may k ∨ a.heap.size ≤ k) : KeptB may a w' :=
  ⟨hg.os.trans h.os, hg.tape.trans h.tape, hg.output.trans h.output, Nat.le_trans h.size hg.size, fun k hk hm => (hg.block k (Nat.lt_of_lt_of_le hk h.size) (fun e => by rcases hr k e.symm with q | q; exact hm q; omega)).trans (h.block k hk hm)⟩
theorem KeptB.trans {may may' : Nat → Prop} {a b c : World} (h : KeptB may a b) (k : KeptB may' b c) (hm : ∀ q, q < a.heap.size → may' q → may q) : KeptB may a c :=
  ⟨k.os.trans h.os, k.tape.trans h.tape, k.output.trans h.output, Nat.le_trans h.size k.size, fun i hi hn => (k.block i (Nat.lt_of_lt_of_le hi h.size) (fun e => hn (hm i hi e))).trans (h.block i hi hn)⟩
theorem KeptB.of_below {may : Nat → Prop} {a b : World} (h : Below a.heap.size a b) : KeptB may a b := (KeptB.refl may a).below h
theorem KeptB.low {may : Nat → Prop} {a w : World} (h : KeptB may a w) {B : Nat} (hB : B ≤ a.heap.size) (hm : ∀ q, q < B → ¬ may q) : Below B a w :=
  ⟨h.os, h.tape, h.output, h.size, fun k hk => h.block k (by omega) (hm k hk)⟩
theorem Box.kept {may : Nat → Prop} {a w : World} {n : Nat} {t : TypeId} {cs : Array Value} (hb : Box a n t cs) (h : KeptB may a w) (hm : ¬ may n) : Box w n t cs := (h.block n hb.lt hm).trans hb
theorem Sl.kept {may : Nat → Prop} {a w : World} {v : Value} {zs : List Int} (hs : Sl a v zs) (h : KeptB may a w) (hm : ∀ q, v.ownBlock = some q → ¬ may q) : Sl w v zs := by
  obtain ⟨ad, cap, rfl, hl, hs⟩ := hs
  refine ⟨ad, cap, rfl, hl, ?_⟩
  rcases hs with hs | ⟨b, o, rfl, hlt, hc⟩
  · exact .inl hs
  · have hbl := h.block b hlt (hm b (by simp [Value.ownBlock]))
    exact .inr ⟨b, o, rfl, Nat.lt_of_lt_of_le hlt h.size, fun i hi => by rw [World.cell?_of_block (a := ⟨b, o + i, none⟩) hbl]; exact hc i hi⟩
theorem Sl.keptO {may : Nat → Prop} {a w : World} {v : Value} {zs : List Int} (hs : Sl a v zs) (h : KeptB may a w) (hm : zs = [] ∨ ∀ q, v.ownBlock = some q → ¬ may q) : Sl w v zs := by
  rcases hm with rfl | hm
  · obtain ⟨ad, cap, rfl, hl, _⟩ := hs
    exact ⟨ad, cap, rfl, hl, .inl rfl⟩
  · exact hs.kept h hm
theorem Sl.block {w : World} {a : Option Addr} {n c : Nat} {zs : List Int} (h : Sl w (.slice a n c) zs) : zs = [] ∨ ∀ q, (Value.slice a n c).ownBlock = some q → q < w.heap.size := by
  obtain ⟨a', c', e, _, h⟩ := h
  simp only [Value.slice.injEq] at e
  obtain ⟨rfl, -, -⟩ := e
  rcases h with h | ⟨b, o, rfl, hb, _⟩
  · exact .inl h
  · exact .inr fun q hq => by simp [Value.ownBlock] at hq; omega
theorem Ts.kept {may : Nat → Prop} {a w : World} {v : Value} {l : List Tc} (hs : Ts a v l) (h : KeptB may a w) (hm : ∀ q, v.ownBlock = some q → ¬ may q) : Ts w v l := by
  obtain ⟨ad, cap, rfl, hl, hc, hs⟩ := hs
  refine ⟨ad, cap, rfl, hl, hc, ?_⟩
  rcases hs with hs | ⟨b, o, rfl, hlt, hc⟩
  · exact .inl hs
  · have hbl := h.block b hlt (hm b (by simp [Value.ownBlock]))
    have hcell : ∀ j, w.cell? ⟨b, j, none⟩ = a.cell? ⟨b, j, none⟩ := fun j => World.cell?_of_block (a := ⟨b, j, none⟩) hbl
    refine .inr ⟨b, o, rfl, Nat.lt_of_lt_of_le hlt h.size, fun i hi => ?_⟩
    unfold AtT
    rw [hcell, hcell, hcell, hcell, hcell]
    exact hc i hi
theorem Ls.kept {may : Nat → Prop} {a w : World} {v : Value} {l : List Ln} (hs : Ls a v l) (h : KeptB may a w) (hm : ∀ q, v.ownBlock = some q → ¬ may q) : Ls w v l := by
  obtain ⟨ad, cap, rfl, hl, hc, hs⟩ := hs
  refine ⟨ad, cap, rfl, hl, hc, ?_⟩
  rcases hs with hs | ⟨b, o, rfl, hlt, hc⟩
  · exact .inl hs
  · have hbl := h.block b hlt (hm b (by simp [Value.ownBlock]))
    have hcell : ∀ j, w.cell? ⟨b, j, none⟩ = a.cell? ⟨b, j, none⟩ := fun j => World.cell?_of_block (a := ⟨b, j, none⟩) hbl
    refine .inr ⟨b, o, rfl, Nat.lt_of_lt_of_le hlt h.size, fun i hi => ?_⟩
    unfold AtL
    rw [hcell, hcell, hcell, hcell, hcell]
    exact hc i hi
theorem OwnI.kept {may : Nat → Prop} {a w : World} {base : Nat} {v : Value} {l : List Int} (ho : OwnI a base v l) (h : KeptB may a w) (hm : ∀ q, v.ownBlock = some q → ¬ may q) : OwnI w base v l :=
  ho.keep fun k hk => h.block k (ho.lt k hk) (hm k hk)
theorem OwnT.kept {may : Nat → Prop} {a w : World} {base : Nat} {v : Value} {l : List Tc} (ho : OwnT a base v l) (h : KeptB may a w) (hm : ∀ q, v.ownBlock = some q → ¬ may q) : OwnT w base v l :=
  ho.keep fun k hk => h.block k (ho.lt k hk) (hm k hk)
theorem OwnI.neBox {w : World} {base n : Nat} {v : Value} {l : List Int} {t : TypeId} {cs : Array Value} (h : OwnI w base v l) (hb : Box w n t cs) (ht : ¬ t = 3) : v.ownBlock ≠ some n := by
  intro e
  rcases h.2 with ⟨rfl, _⟩ | ⟨g, cap, cur, rfl, _, hg, _⟩
  · simp [Value.ownBlock] at e
  · simp [Value.ownBlock] at e
    subst e
    unfold Box at hb
    rw [hg] at hb
    simp only [Option.some.injEq, Obj.cells.injEq] at hb
    exact ht hb.2.1.symm
theorem OwnT.neBox {w : World} {base n : Nat} {v : Value} {l : List Tc} {t : TypeId} {cs : Array Value} (h : OwnT w base v l) (hb : Box w n t cs) (ht : ¬ t = 72) : v.ownBlock ≠ some n := by
  intro e
  rcases h.2 with ⟨rfl, _⟩ | ⟨g, cap, cur, rfl, _, hg, _⟩
  · simp [Value.ownBlock] at e
  · simp [Value.ownBlock] at e
    subst e
    unfold Box at hb
    rw [hg] at hb
    simp only [Option.some.injEq, Obj.cells.injEq] at hb
    exact ht hb.2.1.symm
theorem own_unlike {w : World} {b1 b2 : Nat} {v u : Value} {l : List Int} {m : List Tc} (h : OwnI w b1 v l) (k : OwnT w b2 u m) : ∀ q, v.ownBlock = some q → u.ownBlock ≠ some q := by
  intro q e
  rcases h.2 with ⟨rfl, _⟩ | ⟨g, cap, cur, rfl, _, hg, _⟩
  · simp [Value.ownBlock] at e
  · simp [Value.ownBlock] at e
    subst e
    exact k.neBox (n := g) (t := 3) (cs := cur) hg (by decide)
theorem boxI_set {w : World} {g : Nat} {zs : List Int} (h : Box w g 3 (intCells zs)) (i : Nat) (z : Int) : Box (w.setCell ⟨g, i, none⟩ (J z)) g 3 (intCells (zs.set i z)) := by
  have := Box.set h i (J z)
  rw [intCells_set] at this
  exact this
def Off (bad : Nat → Prop) (v : Value) : Prop := ∀ q, v.ownBlock = some q → ¬ bad q
theorem Off.none (bad : Nat → Prop) (n c : Nat) : Off bad (.slice none n c) := fun k hk => by simp [Value.ownBlock] at hk
theorem Fresh.off {base : Nat} {v : Value} {bad : Nat → Prop} (h : Fresh base v) (k : ∀ q, bad q → q < base) : Off bad v := fun q hq hb => by have := h q hq; have := k q hb; omega
theorem Off.fresh {base : Nat} {v : Value} (h : Off (fun q => q < base) v) : Fresh base v := fun q hq => Nat.le_of_not_lt (h q hq)
theorem Off.less {a b : Nat → Prop} {v : Value} (h : Off b v) (k : ∀ q, a q → b q) : Off a v := fun q hq ha => h q hq (k q ha)
abbrev HapG (bad : Nat → Prop) (m : Mc) (x : Hp) (w' : World) (v1 : Value) (p1 : Int) (u1 : Value) (d1 : Bool) (mo1 ba1 op1 oh1 ot1 fe1 fp1 fh1 ft1 : Int) (st1 lo1 : Bool) (vc1 : Value) (dn1 : Bool) (vd1 : Value) (f1 : Int) (vt1 : Value) : Prop :=
  ∃ zs1 r1 l1 dat1 tch1, hpR m x = (⟨zs1, ⟨p1, r1, d1⟩, ⟨mo1, ba1, l1, op1, oh1, ot1, st1, fe1, fp1, fh1, ft1, lo1⟩⟩, ⟨dn1, dat1, f1, tch1⟩) ∧ Sl w' v1 zs1 ∧ Sl w' u1 r1 ∧ Ls w' vc1 l1 ∧ Sl w' vd1 dat1 ∧ Ts w' vt1 tch1 ∧ Off bad v1 ∧ Off bad u1 ∧ Off bad vc1 ∧ Off bad vd1 ∧ Off bad vt1
abbrev HapC (bad : Nat → Prop) (m : Mc) (x : Hp) (e : Ending) (w' : World) : Prop :=
  ∃ a1 n1 c1 p1 a2 n2 c2 d1 mo1 ba1 a3 n3 c3 op1 oh1 ot1 st1 fe1 fp1 fh1 ft1 lo1 dn1 a4 n4 c4 f1 a5 n5 c5, e = .returned (.tuple #[.agg #[.slice a1 n1 c1, J p1, .slice a2 n2 c2, .bool d1, J mo1, J ba1, .slice a3 n3 c3, J op1, J oh1, J ot1, .bool st1, J fe1, J fp1, J fh1, J ft1, .bool lo1], .agg #[.bool dn1, .slice a4 n4 c4, J f1, .slice a5 n5 c5], J (hpE m x)]) ∧
    (hpE m x = 0 → HapG bad m x w' (.slice a1 n1 c1) p1 (.slice a2 n2 c2) d1 mo1 ba1 op1 oh1 ot1 fe1 fp1 fh1 ft1 st1 lo1 (.slice a3 n3 c3) dn1 (.slice a4 n4 c4) f1 (.slice a5 n5 c5))
theorem ret_hap {a b : Value} {x y : Int} (h : x = y) : Ending.returned (.tuple #[a, b, J x]) = .returned (.tuple #[a, b, J y]) := by rw [h]
set_option maxRecDepth 10000 in
set_option maxHeartbeats 8000000 in
theorem mHap_none (v : Value) (zs : List Int) (p : Int) (u : Value) (r : List Int) (d : Bool) (mo ba op oh ot fe fp fh ft : Int) (st lo : Bool) (vc : Value) (l : List Ln) (kd num dv a ct : Int) (wr : Bool) (y : Value) (ds : List Int) (bad : Nat → Prop) (w : World) (hs : Sl w v zs) (hr : Sl w u r) (h : Ls w vc l) (hd : Sl w y ds) (hE : chkM ⟨zs, ⟨p, r, d⟩, ⟨mo, ba, l, op, oh, ot, st, fe, fp, fh, ft, lo⟩⟩ = 0) (hN : ∀ q, bad q → q < w.heap.size) (f1 : Off bad v) (f2 : Off bad u) (f3 : Off bad vc) (hk : ¬ (1 ≤ kd ∧ kd ≤ 4)) :
    Calls Tryz.prog 35 #[.agg #[v, J p, u, .bool d, J mo, J ba, vc, J op, J oh, J ot, .bool st, J fe, J fp, J fh, J ft, .bool lo], .agg #[J kd, J num, J dv, J a, J ct, .bool wr, y]] w fun e w' => HapC bad ⟨zs, ⟨p, r, d⟩, ⟨mo, ba, l, op, oh, ot, st, fe, fp, fh, ft, lo⟩⟩ ⟨kd, num, dv, a, ct, wr, ds⟩ e w' ∧ Below w.heap.size w w' := by
  have HM : Hid (Sl w v zs) := hs
  have HR : Hid (Sl w u r) := hr
  have HL : Hid (Ls w vc l) := h
  have HD : Hid (Sl w y ds) := hd
  have HE : Hid (chkM _ = 0) := hE
  have HN : Hid (∀ q, bad q → q < w.heap.size) := hN
  have F1 : Hid (Off bad v) := f1
  have F2 : Hid (Off bad u) := f2
  have F3 : Hid (Off bad vc) := f3
  obtain ⟨ma, mn, mc, rfl⟩ : ∃ a k c, v = .slice a k c := let ⟨a, c, e, _⟩ := hs; ⟨a, _, c, e⟩
  obtain ⟨ra, rn, rc, rfl⟩ : ∃ a k c, u = .slice a k c := let ⟨a, c, e, _⟩ := hr; ⟨a, _, c, e⟩
  obtain ⟨va, vn, vk, rfl⟩ : ∃ a k c, vc = .slice a k c := let ⟨a, c, e, _⟩ := h; ⟨a, _, c, e⟩
  obtain ⟨da, dn, dc, rfl⟩ : ∃ a k c, y = .slice a k c := let ⟨a, c, e, _⟩ := hd; ⟨a, _, c, e⟩
  clear hs hr h hd hE hN f1 f2 f3
  have X0 := ((((Box.newAt (w := w) (n := w.heap.size) rfl 33 #[.slice ma mn mc, J p, .slice ra rn rc, .bool d, J mo, J ba, .slice va vn vk, J op, J oh, J ot, .bool st, J fe, J fp, J fh, J ft, .bool lo]).past (.cells #[J kd, J num, J dv, J a, J ct, .bool wr, .slice da dn dc] 37)).past (.cells #[.slice none 0 0, J 0, .slice none 0 0, .bool false, J 0, J 0, .slice none 0 0, J 0, J 0, J 0, .bool false, J 0, J 0, J 0, J 0, .bool false] 33)).past (.cells #[.bool false, .slice none 0 0, J 0, .slice none 0 0] 40)).past (.cells #[.bool false, .slice none 0 0, J 0, .slice none 0 0] 40)
  have X1 := (((Box.newAt (w := (w.alloc (.cells #[.slice ma mn mc, J p, .slice ra rn rc, .bool d, J mo, J ba, .slice va vn vk, J op, J oh, J ot, .bool st, J fe, J fp, J fh, J ft, .bool lo] 33))) (n := w.heap.size + 1) (by simp) 37 #[J kd, J num, J dv, J a, J ct, .bool wr, .slice da dn dc]).past (.cells #[.slice none 0 0, J 0, .slice none 0 0, .bool false, J 0, J 0, .slice none 0 0, J 0, J 0, J 0, .bool false, J 0, J 0, J 0, J 0, .bool false] 33)).past (.cells #[.bool false, .slice none 0 0, J 0, .slice none 0 0] 40)).past (.cells #[.bool false, .slice none 0 0, J 0, .slice none 0 0] 40)
  have X2 := ((Box.newAt (w := ((w.alloc (.cells #[.slice ma mn mc, J p, .slice ra rn rc, .bool d, J mo, J ba, .slice va vn vk, J op, J oh, J ot, .bool st, J fe, J fp, J fh, J ft, .bool lo] 33)).alloc (.cells #[J kd, J num, J dv, J a, J ct, .bool wr, .slice da dn dc] 37))) (n := w.heap.size + 1 + 1) (by simp) 33 #[.slice none 0 0, J 0, .slice none 0 0, .bool false, J 0, J 0, .slice none 0 0, J 0, J 0, J 0, .bool false, J 0, J 0, J 0, J 0, .bool false]).past (.cells #[.bool false, .slice none 0 0, J 0, .slice none 0 0] 40)).past (.cells #[.bool false, .slice none 0 0, J 0, .slice none 0 0] 40)
  have X3 := (Box.newAt (w := (((w.alloc (.cells #[.slice ma mn mc, J p, .slice ra rn rc, .bool d, J mo, J ba, .slice va vn vk, J op, J oh, J ot, .bool st, J fe, J fp, J fh, J ft, .bool lo] 33)).alloc (.cells #[J kd, J num, J dv, J a, J ct, .bool wr, .slice da dn dc] 37)).alloc (.cells #[.slice none 0 0, J 0, .slice none 0 0, .bool false, J 0, J 0, .slice none 0 0, J 0, J 0, J 0, .bool false, J 0, J 0, J 0, J 0, .bool false] 33))) (n := w.heap.size + 1 + 1 + 1) (by simp) 40 #[.bool false, .slice none 0 0, J 0, .slice none 0 0]).past (.cells #[.bool false, .slice none 0 0, J 0, .slice none 0 0] 40)
  have X4 := Box.newAt (w := ((((w.alloc (.cells #[.slice ma mn mc, J p, .slice ra rn rc, .bool d, J mo, J ba, .slice va vn vk, J op, J oh, J ot, .bool st, J fe, J fp, J fh, J ft, .bool lo] 33)).alloc (.cells #[J kd, J num, J dv, J a, J ct, .bool wr, .slice da dn dc] 37)).alloc (.cells #[.slice none 0 0, J 0, .slice none 0 0, .bool false, J 0, J 0, .slice none 0 0, J 0, J 0, J 0, .bool false, J 0, J 0, J 0, J 0, .bool false] 33)).alloc (.cells #[.bool false, .slice none 0 0, J 0, .slice none 0 0] 40))) (n := w.heap.size + 1 + 1 + 1 + 1) (by simp) 40 #[.bool false, .slice none 0 0, J 0, .slice none 0 0]
  have BW : Hid (Below w.heap.size w (((((w.alloc (.cells #[.slice ma mn mc, J p, .slice ra rn rc, .bool d, J mo, J ba, .slice va vn vk, J op, J oh, J ot, .bool st, J fe, J fp, J fh, J ft, .bool lo] 33)).alloc (.cells #[J kd, J num, J dv, J a, J ct, .bool wr, .slice da dn dc] 37)).alloc (.cells #[.slice none 0 0, J 0, .slice none 0 0, .bool false, J 0, J 0, .slice none 0 0, J 0, J 0, J 0, .bool false, J 0, J 0, J 0, J 0, .bool false] 33)).alloc (.cells #[.bool false, .slice none 0 0, J 0, .slice none 0 0] 40)).alloc (.cells #[.bool false, .slice none 0 0, J 0, .slice none 0 0] 40))) := bel_alloc (bel_alloc (bel_alloc (bel_alloc (bel_alloc (Below.refl w.heap.size w) _) _) _) _) _
  have hsz : (((((w.alloc (.cells #[.slice ma mn mc, J p, .slice ra rn rc, .bool d, J mo, J ba, .slice va vn vk, J op, J oh, J ot, .bool st, J fe, J fp, J fh, J ft, .bool lo] 33)).alloc (.cells #[J kd, J num, J dv, J a, J ct, .bool wr, .slice da dn dc] 37)).alloc (.cells #[.slice none 0 0, J 0, .slice none 0 0, .bool false, J 0, J 0, .slice none 0 0, J 0, J 0, J 0, .bool false, J 0, J 0, J 0, J 0, .bool false] 33)).alloc (.cells #[.bool false, .slice none 0 0, J 0, .slice none 0 0] 40)).alloc (.cells #[.bool false, .slice none 0 0, J 0, .slice none 0 0] 40)).heap.size = w.heap.size + 1 + 1 + 1 + 1 + 1 := by simp
  go_enter Tryz.func35, Tryz.ntmps35
  go_upto_region 2 with fail
  generalize (((((w.alloc (.cells #[.slice ma mn mc, J p, .slice ra rn rc, .bool d, J mo, J ba, .slice va vn vk, J op, J oh, J ot, .bool st, J fe, J fp, J fh, J ft, .bool lo] 33)).alloc (.cells #[J kd, J num, J dv, J a, J ct, .bool wr, .slice da dn dc] 37)).alloc (.cells #[.slice none 0 0, J 0, .slice none 0 0, .bool false, J 0, J 0, .slice none 0 0, J 0, J 0, J 0, .bool false, J 0, J 0, J 0, J 0, .bool false] 33)).alloc (.cells #[.bool false, .slice none 0 0, J 0, .slice none 0 0] 40)).alloc (.cells #[.bool false, .slice none 0 0, J 0, .slice none 0 0] 40)) = W at *
  have HSZ : Hid (W.heap.size = w.heap.size + 1 + 1 + 1 + 1 + 1) := hsz
  clear hsz
  obtain ⟨⟨k0, k1, k2, k3, k4, k5, k6⟩, sH⟩ := X1.seven
  have HZ : Hid (hpE ⟨zs, ⟨p, r, d⟩, ⟨mo, ba, l, op, oh, ot, st, fe, fp, fh, ft, lo⟩⟩ ⟨kd, num, dv, a, ct, wr, ds⟩ = 3) := by show _ = _; rw [hpE, if_pos HE.out]; dsimp only; rw [if_neg (by omega), if_neg (by omega), if_neg (by omega), if_neg (by omega)]
  have e1 : (kd == 1) = false := by simp; omega
  have e2 : (kd == 2) = false := by simp; omega
  have e3 : (kd == 3) = false := by simp; omega
  have e4 : (kd == 4) = false := by simp; omega
  have PH : Hid (∀ w', KeptB (fun q => q = w.heap.size + 1 + 1 ∨ q = w.heap.size + 1 + 1 + 1) W w' → Below w.heap.size w w' → hpE ⟨zs, ⟨p, r, d⟩, ⟨mo, ba, l, op, oh, ot, st, fe, fp, fh, ft, lo⟩⟩ ⟨kd, num, dv, a, ct, wr, ds⟩ = 0 → HapG bad ⟨zs, ⟨p, r, d⟩, ⟨mo, ba, l, op, oh, ot, st, fe, fp, fh, ft, lo⟩⟩ ⟨kd, num, dv, a, ct, wr, ds⟩ w' (.slice ma mn mc) p (.slice ra rn rc) d mo ba op oh ot fe fp fh ft st lo (.slice va vn vk) false (.slice none 0 0) 0 (.slice none 0 0)) := fun w' _ _ h0 => by rw [HZ.out] at h0; exact absurd h0 (by decide)
  go_upto_region 12 with fail
  clear e1 e2 e3 e4
  clear k0 k1 k2 k3 k4 k5 k6 sH
  obtain ⟨⟨i0, i1, i2, i3⟩, ⟨j0, j1, j2, j3, j4, j5, j6, j7, j8, j9, j10, j11⟩, s0⟩ := X0.sixteen
  obtain ⟨⟨q0, q1, q2, q3⟩, ⟨g0, g1, g2, g3, g4, g5, g6, g7, g8, g9, g10, g11⟩, s2⟩ := X2.sixteen
  have mk := X2.marksOf
  obtain ⟨t0, t1, t2, t3, mf0, mf1, mf2, mf3, s3⟩ := X3.four
  obtain ⟨z0, z1, z2, z3, -, -, -, -, s4⟩ := X4.four
  clear X0 X2 X3 X4
  have n02 : ¬ w.heap.size = w.heap.size + 1 + 1 := by omega
  have n03 : ¬ w.heap.size = w.heap.size + 1 + 1 + 1 := by omega
  have n20 : ¬ w.heap.size + 1 + 1 = w.heap.size := by omega
  have n23 : ¬ w.heap.size + 1 + 1 = w.heap.size + 1 + 1 + 1 := by omega
  have n24 : ¬ w.heap.size + 1 + 1 = w.heap.size + 1 + 1 + 1 + 1 := by omega
  have n30 : ¬ w.heap.size + 1 + 1 + 1 = w.heap.size := by omega
  have n32 : ¬ w.heap.size + 1 + 1 + 1 = w.heap.size + 1 + 1 := by omega
  have n34 : ¬ w.heap.size + 1 + 1 + 1 = w.heap.size + 1 + 1 + 1 + 1 := by omega
  have n42 : ¬ w.heap.size + 1 + 1 + 1 + 1 = w.heap.size + 1 + 1 := by omega
  have n43 : ¬ w.heap.size + 1 + 1 + 1 + 1 = w.heap.size + 1 + 1 + 1 := by omega
  go_region
  all_goals
    go_wp2
    refine bodyPost_ret (v := .tuple #[.agg #[.slice ma mn mc, J p, .slice ra rn rc, .bool d, J mo, J ba, .slice va vn vk, J op, J oh, J ot, .bool st, J fe, J fp, J fh, J ft, .bool lo], .agg #[.bool false, .slice none 0 0, J 0, .slice none 0 0], J 3]) (by simp [results, Tryz.results35, go_sem, *]) rfl ⟨⟨_, _, _, _, _, _, _, _, _, _, _, _, _, _, _, _, _, _, _, _, _, _, _, _, _, _, _, _, _, _, ret_hap HZ.out.symm, fun h0 => PH.out _ ?_ ?_ h0⟩, ?_⟩
    · (repeat (first | with_reducible exact KeptB.refl _ _ | with_reducible refine KeptB.drew ?_ | with_reducible refine KeptB.alloc ?_ _ | (with_reducible refine KeptB.setCell ?_ ?_ _; rotate_left; (focus (dsimp only; omega)))))
    · (repeat (first | with_reducible exact BW.out | with_reducible refine Below.drew ?_ | (with_reducible refine bel_set16 ?_ ?_ _ _ _ _ _ _ _ _ _ _ _ _ _ _ _ _; (focus omega)) | (with_reducible refine bel_set4 ?_ ?_ _ _ _ _; (focus omega)) | (with_reducible refine bel_set ?_ ?_ _; (focus (dsimp only; omega)))))
    · (repeat (first | with_reducible exact BW.out | with_reducible refine Below.drew ?_ | (with_reducible refine bel_set16 ?_ ?_ _ _ _ _ _ _ _ _ _ _ _ _ _ _ _ _; (focus omega)) | (with_reducible refine bel_set4 ?_ ?_ _ _ _ _; (focus omega)) | (with_reducible refine bel_set ?_ ?_ _; (focus (dsimp only; omega)))))
set_option maxHeartbeats 1000000 in
theorem hCheck_any (p : Int) (v : Value) (r : List Int) (d : Bool) (w : World) (h : Sl w v r) :
    Calls Tryz.prog 42 #[.agg #[J p, v, .bool d]] w fun e w' => e = .returned (J (chkH ⟨p, r, d⟩)) ∧ Below w.heap.size w w' := by
  obtain ⟨a, cap, rfl, hl, h⟩ := h
  unfold maxLen at hl
  by_cases hn : r.length = 8
  rotate_left
  · have hne : ((r.length : Int) != 8) = true := by simp; omega
    rw [chkH_len hn]
    clear hn h
    go_enter Tryz.func42, Tryz.ntmps42
    go_wp2
    go_ret
    exact ⟨rfl, bel_alloc (Below.refl _ _) _⟩
  rcases h with rfl | ⟨b, o, rfl, hb, hc⟩
  · simp at hn
  have HC : Hid (∀ i, i < 8 → w.cell? ⟨b, o + i, none⟩ = some (J (nth r i))) := fun i hi => hc i (by omega)
  have HN : Hid (r.length = 8) := hn
  rw [hn]
  clear hc hl hn
  cases hp : placeB p
  · rw [chkH_out HN.out hp]
    have ho : p < 0 ∨ (0 ≤ p ∧ 512 ≤ p) := by simp [placeB] at hp; omega
    clear hp
    rcases ho with ho | ⟨ho, ho2⟩
    · go_enter Tryz.func42, Tryz.ntmps42
      go_wp2
      go_ret
      exact ⟨rfl, bel_alloc (Below.refl _ _) _⟩
    · have ho3 : ¬ p < 0 := by omega
      go_enter Tryz.func42, Tryz.ntmps42
      go_wp2
      go_ret
      exact ⟨rfl, bel_alloc (Below.refl _ _) _⟩
  have HP0 : Hid (placeB p = true) := hp
  have hpp : ¬ p < 0 ∧ ¬ 512 ≤ p := by simp [placeB] at hp; omega
  obtain ⟨hp1, hp2⟩ := hpp
  clear hp
  go_enter Tryz.func42, Tryz.ntmps42
  go_wp2
  go_loop [20] (fun i => ∃ k : Nat, k ≤ 8 ∧ i = J k ∧ ∀ j, j < k → wordB (nth r j) = true) (fun i => 8 - (intOf i).toNat)
  case atStart => exact ⟨0, Nat.zero_le _, rfl, fun j hj => absurd hj (Nat.not_lt_zero _)⟩
  case round =>
    obtain ⟨k, hk, rfl, hpre⟩ := hrel
    have HP : Hid (∀ j, j < k → wordB (nth r j) = true) := hpre
    clear hpre
    by_cases hlt : k < 8
    · have g := HC.out k hlt
      have hlt1 : (k : Int) < 8 := by omega
      obtain ⟨z, hz⟩ : ∃ z, nth r k = z := ⟨_, rfl⟩
      rw [hz] at g
      have HZ : Hid (nth r k = z) := hz
      clear hz
      by_cases hq : wordB z = true
      · have hq2 : ¬ z < 0 ∧ ¬ 65535 < z := by simp [wordB] at hq; omega
        obtain ⟨q1, q2⟩ := hq2
        have HQ : Hid (wordB z = true) := hq
        clear hq
        go_wp2
        refine ⟨⟨k + 1, by omega, by go_num, fun j hj => ?_⟩, by simp [intOf]; omega⟩
        by_cases e : j = k
        · rw [e, HZ.out]; exact HQ.out
        · exact HP.out j (by omega)
      · have hq' : wordB z = false := by simpa using hq
        have HD : Hid (chkH ⟨p, r, d⟩ = 2) := chkH_bad HN.out HP0.out hlt (by rw [HZ.out]; exact hq')
        have hq2 : z < 0 ∨ (¬ z < 0 ∧ 65535 < z) := by simp [wordB] at hq'; omega
        clear hq hq'
        rcases hq2 with q1 | ⟨q1, q2⟩
        all_goals
          go_wp2
          go_ret
          exact ⟨ret_int HD.out.symm, bel_alloc (Below.refl _ _) _⟩
    · have HD : Hid (chkH ⟨p, r, d⟩ = 0) := chkH_all HN.out HP0.out fun j hj => HP.out j (by omega)
      have hge : ¬ (k : Int) < 8 := by omega
      go_wp2
      go_ret
      exact ⟨ret_int HD.out.symm, bel_alloc (Below.refl _ _) _⟩
def zeroRegs : Array Value := madeCells #[J 0] 8
def zero8 : List Int := List.replicate 8 0
theorem zeroRegs_list : zeroRegs.toList = zero8.map (fun z => J z) := by
  unfold zeroRegs zero8
  rw [toList_madeCells_one, List.map_replicate]
theorem make8 (w : World) : (Instr.makeSlice 22 (J 8) (J 8)).run Tryz.prog w = .ok (.slice (some ⟨w.heap.size, 0, none⟩) 8 8) (w.alloc (.cells zeroRegs 3)) := by
  obtain ⟨i, hi, hz, hs, hb⟩ := infoInt
  have h := run_make (P := Tryz.prog) w 22 3 i _ Tryz.underlying22 hi hz .i64 .i64 8 8 (by decide) (by decide) (by rw [hb]; decide) (by decide)
  rw [hs] at h
  exact h
def allE (zs : List Int) (h : Ht) (b : Br) : Int := if chk zs = 0 then (if chkH h = 0 then chkB b else chkH h) else chk zs
set_option maxHeartbeats 2000000 in
theorem hCheckAll_any (v : Value) (zs : List Int) (p : Int) (u : Value) (r : List Int) (d : Bool) (mo ba op oh ot fe fp fh ft : Int) (st lo : Bool) (vc : Value) (l : List Ln) (w : World) (hs : Sl w v zs) (hr : Sl w u r) (h : Ls w vc l) :
    Calls Tryz.prog 100 #[.agg #[v], .agg #[J p, u, .bool d], .agg #[J mo, J ba, vc, J op, J oh, J ot, .bool st, J fe, J fp, J fh, J ft, .bool lo]] w fun e w' => e = .returned (J (allE zs ⟨p, r, d⟩ ⟨mo, ba, l, op, oh, ot, st, fe, fp, fh, ft, lo⟩)) ∧ Below w.heap.size w w' := by
  have HM : Hid (Sl w v zs) := hs
  have HR : Hid (Sl w u r) := hr
  have HL : Hid (Ls w vc l) := h
  obtain ⟨a1, n1, c1, rfl⟩ : ∃ a k c, v = .slice a k c := let ⟨a, c, e, _⟩ := hs; ⟨a, _, c, e⟩
  obtain ⟨a2, n2, c2, rfl⟩ : ∃ a k c, u = .slice a k c := let ⟨a, c, e, _⟩ := hr; ⟨a, _, c, e⟩
  obtain ⟨va, vk, rfl, -⟩ := h.shape
  obtain ⟨N, hN⟩ : ∃ N, N = l.length := ⟨_, rfl⟩
  rw [← hN] at HL ⊢
  clear hs hr h hN
  have HT : Hid (allE zs ⟨p, r, d⟩ ⟨mo, ba, l, op, oh, ot, st, fe, fp, fh, ft, lo⟩ = if chk zs = 0 then (if chkH ⟨p, r, d⟩ = 0 then chkB ⟨mo, ba, l, op, oh, ot, st, fe, fp, fh, ft, lo⟩ else chkH ⟨p, r, d⟩) else chk zs) := rfl
  have B3 : Hid (∀ A B C : Obj, Below w.heap.size w (((w.alloc A).alloc B).alloc C)) := fun A B C => bel_alloc (bel_alloc (bel_alloc (Below.refl _ _) A) B) C
  go_enter Tryz.func100, Tryz.ntmps100
  go_wp2_with fail
  refine (check_any _ zs _ (HM.out.keep (B3.out _ _ _))).mono ?_
  rintro e w1 ⟨rfl, b1⟩
  have X1 := ((Box.newAt (w := w.alloc (.cells #[.slice a1 n1 c1] 24)) (n := w.heap.size + 1) (by simp) 26 #[J p, .slice a2 n2 c2, .bool d]).past _).keep b1
  have X2 := (Box.newAt (w := (w.alloc (.cells #[.slice a1 n1 c1] 24)).alloc (.cells #[J p, .slice a2 n2 c2, .bool d] 26)) (n := w.heap.size + 1 + 1) (by simp) 31 #[J mo, J ba, .slice va N vk, J op, J oh, J ot, .bool st, J fe, J fp, J fh, J ft, .bool lo]).keep b1
  have BB : Hid (Below w.heap.size w w1) := bel_trans (B3.out _ _ _) b1
  clear b1
  by_cases e1 : chk zs = 0
  rotate_left
  · obtain ⟨c, hc⟩ : ∃ c, chk zs = c := ⟨_, rfl⟩
    have HC : Hid (allE zs ⟨p, r, d⟩ ⟨mo, ba, l, op, oh, ot, st, fe, fp, fh, ft, lo⟩ = c) := by rw [hc] at e1; show _ = _; rw [HT.out, hc, if_neg e1]
    rw [hc] at e1 ⊢
    have q1 : (c != 0) = true := by simpa using e1
    clear e1 hc HT X1 X2
    go_wp2_with fail
    go_ret
    exact ⟨ret_int HC.out.symm, BB.out⟩
  rw [e1]
  have HT : Hid (allE zs ⟨p, r, d⟩ ⟨mo, ba, l, op, oh, ot, st, fe, fp, fh, ft, lo⟩ = if chkH ⟨p, r, d⟩ = 0 then chkB ⟨mo, ba, l, op, oh, ot, st, fe, fp, fh, ft, lo⟩ else chkH ⟨p, r, d⟩) := by show _ = _; rw [HT.out, if_pos e1]
  clear e1
  obtain ⟨i0, i1, i2, -, -, -, s1⟩ := X1.three
  go_wp2_with fail
  refine (hCheck_any p _ r d _ (HR.out.keep BB.out)).mono ?_
  rintro e w2 ⟨rfl, b2⟩
  have X2 := X2.keep b2
  have BC : Hid (Below w.heap.size w w2) := bel_trans BB.out b2
  clear b2 i0 i1 i2 s1 X1 BB
  by_cases e2 : chkH ⟨p, r, d⟩ = 0
  rotate_left
  · obtain ⟨c, hc⟩ : ∃ c, chkH ⟨p, r, d⟩ = c := ⟨_, rfl⟩
    have HC : Hid (allE zs ⟨p, r, d⟩ ⟨mo, ba, l, op, oh, ot, st, fe, fp, fh, ft, lo⟩ = c) := by rw [hc] at e2; show _ = _; rw [HT.out, hc, if_neg e2]
    rw [hc] at e2 ⊢
    have q1 : (c != 0) = true := by simpa using e2
    clear e2 hc HT X2
    go_wp2_with fail
    go_ret
    exact ⟨ret_int HC.out.symm, BC.out⟩
  rw [e2]
  have HT : Hid (allE zs ⟨p, r, d⟩ ⟨mo, ba, l, op, oh, ot, st, fe, fp, fh, ft, lo⟩ = chkB ⟨mo, ba, l, op, oh, ot, st, fe, fp, fh, ft, lo⟩) := by show _ = _; rw [HT.out, if_pos e2]
  clear e2
  obtain ⟨⟨d0, d1, d2, d3, d4, d5, d6, d7, d8, d9, d10, d11⟩, s2⟩ := X2.twelve
  go_wp2_with fail
  refine (bCheck_any mo ba op oh ot fe fp fh ft st lo _ l _ (HL.out.keep BC.out)).mono ?_
  rintro e w3 ⟨rfl, b3⟩
  go_wp2_with fail
  go_ret
  exact ⟨ret_int HT.out.symm, bel_trans BC.out b3⟩
end Go.Proofs.YthlhocneggcekaaGreat
