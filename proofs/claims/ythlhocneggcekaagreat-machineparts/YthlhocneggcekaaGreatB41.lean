/-
  Laid together: ToldL, ToldS, Hps, MRunB.
-/
import Derived.Test.YthlhocneggcekaaGreatB1
import Derived.Test.YthlhocneggcekaaGreatB2
import Derived.Test.YthlhocneggcekaaGreatB3
import Derived.Test.YthlhocneggcekaaGreatB4
import Derived.Test.YthlhocneggcekaaGreatB5
import Derived.Test.YthlhocneggcekaaGreatB6
import Derived.Test.YthlhocneggcekaaGreatB7
import Derived.Test.YthlhocneggcekaaGreatB8
import Derived.Test.YthlhocneggcekaaGreatB9
import Derived.Test.YthlhocneggcekaaGreatB10
import Derived.Test.YthlhocneggcekaaGreatB11
import Derived.Test.YthlhocneggcekaaGreatB12
import Derived.Test.YthlhocneggcekaaGreatB13
import Derived.Test.YthlhocneggcekaaGreatB14
import Derived.Test.YthlhocneggcekaaGreatB15
import Derived.Test.YthlhocneggcekaaGreatB16
import Derived.Test.YthlhocneggcekaaGreatB17
import Derived.Test.YthlhocneggcekaaGreatB18
import Derived.Test.YthlhocneggcekaaGreatB19
import Derived.Test.YthlhocneggcekaaGreatB20
import Derived.Test.YthlhocneggcekaaGreatB21
import Derived.Test.YthlhocneggcekaaGreatB22
import Derived.Test.YthlhocneggcekaaGreatB23
import Derived.Test.YthlhocneggcekaaGreatB24
import Derived.Test.YthlhocneggcekaaGreatB25
import Derived.Test.YthlhocneggcekaaGreatB26
import Derived.Test.YthlhocneggcekaaGreatB27
import Derived.Test.YthlhocneggcekaaGreatB28
import Derived.Test.YthlhocneggcekaaGreatB29
import Derived.Test.YthlhocneggcekaaGreatB30
import Derived.Test.YthlhocneggcekaaGreatB31
import Derived.Test.YthlhocneggcekaaGreatB32
import Derived.Test.YthlhocneggcekaaGreatB33
import Derived.Test.YthlhocneggcekaaGreatB34
import Derived.Test.YthlhocneggcekaaGreatB35
import Derived.Test.YthlhocneggcekaaGreatB36
import Derived.Test.YthlhocneggcekaaGreatB37
import Derived.Test.YthlhocneggcekaaGreatB38
import Derived.Test.YthlhocneggcekaaGreatB39
import Derived.Test.YthlhocneggcekaaGreatB40
import Derived.Deep.AppendLies
import Derived.Deep.RegionWith
import Derived.LoopN
import Derived.Deep.CutRange
import Derived.Deep.RegionHeld3
import Derived.Test.YthlhocneggcekaaGreatRows
import Derived.WalkKit
import Derived.WalkSpells
import Derived.WalkLawsBesides
import Derived.Below
import Derived.WalkSmall
import Derived.Deep.QuietTactic
import Derived.BigQuiet
import Derived.Deep.Draws
import Derived.Deep.DrawnRows
import Derived.Laws.CopyOwn
import Derived.Maps.OwnOps
import Derived.Maps.OwnSet
import Derived.Deep.RegionLaw
import Derived.Deep.RegionHeld
import Derived.Lib.AppendZerosOnto
import Derived.Lib.SliceRun
namespace Go.Proofs.YthlhocneggcekaaGreat
open Go.RowKit
structure Tq where
  done : Bool
  da : Option Addr
  dn : Nat
  dc : Nat
  f : Int
  ta : Option Addr
  tn : Nat
  tc : Nat
def qth (l : List Tq) (i : Nat) : Tq := (l[i]?).getD ⟨false, none, 0, 0, 0, none, 0, 0⟩
def cellsQ (x : Tq) : List Value := [.bool x.done, .slice x.da x.dn x.dc, J x.f, .slice x.ta x.tn x.tc]
def AtQ (w : World) (b o : Nat) (x : Tq) : Prop :=
  w.cell? ⟨b, o, none⟩ = some (.bool x.done) ∧ w.cell? ⟨b, o + 1, none⟩ = some (.slice x.da x.dn x.dc) ∧ w.cell? ⟨b, o + 2, none⟩ = some (J x.f) ∧ w.cell? ⟨b, o + 3, none⟩ = some (.slice x.ta x.tn x.tc)
def Qs (w : World) (v : Value) (l : List Tq) : Prop :=
  ∃ a cap, v = .slice a l.length cap ∧ l.length ≤ cap ∧ cap ≤ maxLen ∧
    (l = [] ∨ ∃ b o, a = some ⟨b, o, none⟩ ∧ b < w.heap.size ∧ ∀ i, i < l.length → AtQ w b (o + i * 4) (qth l i))
theorem Qs.nil (w : World) (a : Option Addr) (cap : Nat) (h : cap ≤ maxLen) : Qs w (.slice a 0 cap) [] := ⟨a, cap, rfl, Nat.zero_le _, h, .inl rfl⟩
theorem Qs.nothing (w : World) : Qs w (.slice none 0 0) [] := Qs.nil w _ _ (Nat.zero_le _)
theorem infoTold : ∃ i, Tryz.prog.info? 40 = some i ∧ i.zero = some (.agg #[.bool false, .slice none 0 0, J 0, .slice none 0 0]) ∧ i.size = 4 ∧ i.bytes = 64 := by
  have h : (Tryz.prog.info? 40).map (fun i => (i.zero, i.size, i.bytes)) = some (some (.agg #[.bool false, .slice none 0 0, J 0, .slice none 0 0]), 4, 64) := by kernel_rfl
  cases hi : Tryz.prog.info? 40 with
  | none => rw [hi] at h; simp at h
  | some i => rw [hi] at h; simp at h; exact ⟨i, rfl, h.1, h.2.1, h.2.2⟩
theorem cellsQ_len (x : Tq) : (cellsQ x).length = 4 := rfl
theorem flatQ_len (l : List Tq) : (l.flatMap cellsQ).length = l.length * 4 := by
  induction l with
  | nil => rfl
  | cons x t ih => rw [List.flatMap_cons, List.length_append, ih, cellsQ_len, List.length_cons]; omega
theorem qth_succ (x : Tq) (t : List Tq) (i : Nat) : qth (x :: t) (i + 1) = qth t i := by simp [qth]
theorem flatQ_at (l : List Tq) : ∀ (i r : Nat), i < l.length → r < 4 → (l.flatMap cellsQ)[i * 4 + r]? = (cellsQ (qth l i))[r]? := by
  induction l with
  | nil => intro i r hi _; exact absurd hi (Nat.not_lt_zero _)
  | cons x t ih =>
    intro i r hi hr
    rw [List.flatMap_cons]
    cases i with
    | zero =>
      rw [Nat.zero_mul, Nat.zero_add, List.getElem?_append_left (by rw [cellsQ_len]; exact hr)]
      rfl
    | succ i =>
      rw [List.getElem?_append_right (by rw [cellsQ_len]; omega), cellsQ_len, qth_succ, ← ih i r (by simpa using hi) hr]
      congr 1; omega
structure Mean (w : World) (base : Nat) (x : Tq) (t : To) : Prop where
  done : x.done = t.done
  f : x.f = t.f
  dat : Sl w (.slice x.da x.dn x.dc) t.dat
  tch : Ts w (.slice x.ta x.tn x.tc) t.tch
  fd : Fresh base (.slice x.da x.dn x.dc)
  ft : Fresh base (.slice x.ta x.tn x.tc)
theorem Mean.keep {w w' : World} {base : Nat} {x : Tq} {t : To} (h : Mean w base x t) (hb : Below w.heap.size w w') : Mean w' base x t := ⟨h.done, h.f, h.dat.keep hb, h.tch.keep hb, h.fd, h.ft⟩
theorem Mean.mono {w : World} {a b : Nat} {x : Tq} {t : To} (h : Mean w b x t) (k : a ≤ b) : Mean w a x t := ⟨h.done, h.f, h.dat, h.tch, h.fd.mono k, h.ft.mono k⟩
def toth (l : List To) (i : Nat) : To := (l[i]?).getD ⟨false, [], 0, []⟩
def Means (w : World) (base : Nat) (qs : List Tq) (ts : List To) : Prop := qs.length = ts.length ∧ ∀ i, i < qs.length → Mean w base (qth qs i) (toth ts i)
theorem Means.nil (w : World) (base : Nat) : Means w base [] [] := ⟨rfl, fun _ hi => absurd hi (Nat.not_lt_zero _)⟩
theorem flatQ_set (x : Tq) : ∀ (qs : List Tq) (k : Nat), k < qs.length → ((((qs.flatMap cellsQ).set (k * 4) (.bool x.done)).set (k * 4 + 1) (.slice x.da x.dn x.dc)).set (k * 4 + 2) (J x.f)).set (k * 4 + 3) (.slice x.ta x.tn x.tc) = (qs.set k x).flatMap cellsQ
  | [], k, h => absurd h (Nat.not_lt_zero _)
  | q :: t, 0, _ => by simp [cellsQ]
  | q :: t, k + 1, h => by
    have ih := flatQ_set x t k (by simpa using h)
    rw [List.set_cons_succ, List.flatMap_cons, List.flatMap_cons, ← ih]
    have e0 : (k + 1) * 4 = k * 4 + 1 + 1 + 1 + 1 := by omega
    rw [e0]
    simp [cellsQ]
def told4 (qs : List Tq) : Array Value := (qs.flatMap cellsQ).toArray
theorem Box.setQ {w : World} {n : Nat} {t : TypeId} {qs : List Tq} (h : Box w n t (told4 qs)) {k : Nat} (hk : k < qs.length) (x : Tq) :
    Box ((((w.setCell ⟨n, k * 4, none⟩ (.bool x.done)).setCell ⟨n, k * 4 + 1, none⟩ (.slice x.da x.dn x.dc)).setCell ⟨n, k * 4 + 2, none⟩ (J x.f)).setCell ⟨n, k * 4 + 3, none⟩ (.slice x.ta x.tn x.tc)) n t (told4 (qs.set k x)) := by
  have h4 := (((h.set (k * 4) (.bool x.done)).set (k * 4 + 1) (.slice x.da x.dn x.dc)).set (k * 4 + 2) (J x.f)).set (k * 4 + 3) (.slice x.ta x.tn x.tc)
  have e : ((((told4 qs).setIfInBounds (k * 4) (.bool x.done)).setIfInBounds (k * 4 + 1) (.slice x.da x.dn x.dc)).setIfInBounds (k * 4 + 2) (J x.f)).setIfInBounds (k * 4 + 3) (.slice x.ta x.tn x.tc) = told4 (qs.set k x) := by
    unfold told4
    rw [← flatQ_set x qs k hk]
    simp only [List.setIfInBounds_toArray]
  rw [e] at h4
  exact h4
theorem Box.qs {w : World} {n : Nat} {t : TypeId} {qs : List Tq} (h : Box w n t (told4 qs)) (hm : qs.length ≤ maxLen) : Qs w (.slice (some ⟨n, 0, none⟩) qs.length qs.length) qs := by
  refine ⟨_, qs.length, rfl, Nat.le_refl _, hm, .inr ⟨n, 0, rfl, h.lt, fun i hi => ?_⟩⟩
  have hc : ∀ r, r < 4 → w.cell? ⟨n, 0 + i * 4 + r, none⟩ = (cellsQ (qth qs i))[r]? := fun r hr => by
    rw [Nat.zero_add, h.cell, told4, List.getElem?_toArray, flatQ_at qs i r hi hr]
  exact ⟨hc 0 (by omega), hc 1 (by omega), hc 2 (by omega), hc 3 (by omega)⟩
theorem Box.atQ {w : World} {n : Nat} {t : TypeId} {qs : List Tq} (h : Box w n t (told4 qs)) {i : Nat} (hi : i < qs.length) : AtQ w n (i * 4) (qth qs i) := by
  have hc : ∀ r, r < 4 → w.cell? ⟨n, i * 4 + r, none⟩ = (cellsQ (qth qs i))[r]? := fun r hr => by
    rw [h.cell, told4, List.getElem?_toArray, flatQ_at qs i r hi hr]
  exact ⟨hc 0 (by omega), hc 1 (by omega), hc 2 (by omega), hc 3 (by omega)⟩
def said1 (zs : List Int) : Array Value := (zs.map (fun z => J z)).toArray
theorem Box.setE {w : World} {n : Nat} {t : TypeId} {zs : List Int} (h : Box w n t (said1 zs)) (k : Nat) (z : Int) : Box (w.setCell ⟨n, k, none⟩ (J z)) n t (said1 (zs.set k z)) := by
  have h1 := h.set k (J z)
  have e : (said1 zs).setIfInBounds k (J z) = said1 (zs.set k z) := by
    unfold said1
    rw [List.map_set, List.setIfInBounds_toArray]
  rw [e] at h1
  exact h1
theorem Box.sl {w : World} {n : Nat} {t : TypeId} {zs : List Int} (h : Box w n t (said1 zs)) (hm : zs.length ≤ maxLen) : Sl w (.slice (some ⟨n, 0, none⟩) zs.length zs.length) zs :=
  sl_block h (by simp [said1]) rfl hm
theorem Box.atE {w : World} {n : Nat} {t : TypeId} {zs : List Int} (h : Box w n t (said1 zs)) {i : Nat} (hi : i < zs.length) : w.cell? ⟨n, i, none⟩ = some (J (nth zs i)) := by
  rw [h.cell, said1, List.getElem?_toArray, List.getElem?_map, getElem?_nth hi]; rfl
def q0 : Tq := ⟨false, none, 0, 0, 0, none, 0, 0⟩
theorem told4_zero (n : Nat) : madeCells (#[.bool false, .slice none 0 0, J 0, .slice none 0 0] : Array Value) (n * 4) = told4 (List.replicate n q0) := by
  apply Array.ext_getElem?
  intro i
  by_cases hi : i < n * 4
  · have h := flatQ_at (List.replicate n q0) (i / 4) (i % 4) (by simp; omega) (by omega)
    have e : i / 4 * 4 + i % 4 = i := by omega
    have e2 : qth (List.replicate n q0) (i / 4) = q0 := by unfold qth; rw [List.getElem?_replicate, if_pos (by omega)]; rfl
    rw [e, e2] at h
    unfold told4 madeCells
    rw [Array.getElem?_map, Array.getElem?_range, if_pos hi, List.getElem?_toArray, h]
    have h4 : i % 4 = 0 ∨ i % 4 = 1 ∨ i % 4 = 2 ∨ i % 4 = 3 := by omega
    rcases h4 with h4 | h4 | h4 | h4 <;> simp [h4, cellsQ, q0]
  · rw [Array.getElem?_eq_none (by rw [size_madeCells]; omega), Array.getElem?_eq_none (by simp only [told4, List.size_toArray, flatQ_len, List.length_replicate]; omega)]
theorem said1_zero (n : Nat) : madeCells (#[J 0] : Array Value) (n * 1) = said1 (List.replicate n 0) := by
  apply Array.ext_getElem?
  intro i
  by_cases hi : i < n * 1
  · unfold said1 madeCells
    rw [Array.getElem?_map, Array.getElem?_range, if_pos hi, List.getElem?_toArray, List.getElem?_map, List.getElem?_replicate, if_pos (by omega)]
    have h4 : i % 1 = 0 := by omega
    simp [h4]
  · rw [Array.getElem?_eq_none (by rw [size_madeCells]; omega), Array.getElem?_eq_none (by simp [said1]; omega)]
def hpth (l : List Hp) (i : Nat) : Hp := (l[i]?).getD ⟨0, 0, 0, 0, 0, false, []⟩
def AtHp (w : World) (b o : Nat) (x : Hp) : Prop :=
  ∃ u, w.cell? ⟨b, o, none⟩ = some (J x.kind) ∧ w.cell? ⟨b, o + 1, none⟩ = some (J x.num) ∧ w.cell? ⟨b, o + 2, none⟩ = some (J x.d) ∧ w.cell? ⟨b, o + 3, none⟩ = some (J x.a) ∧ w.cell? ⟨b, o + 4, none⟩ = some (J x.n) ∧ w.cell? ⟨b, o + 5, none⟩ = some (.bool x.wr) ∧ w.cell? ⟨b, o + 6, none⟩ = some u ∧ Slc w u x.ds
def Hps (w : World) (v : Value) (l : List Hp) : Prop :=
  ∃ a cap, v = .slice a l.length cap ∧ l.length ≤ cap ∧ cap ≤ maxLen ∧
    (l = [] ∨ ∃ b o, a = some ⟨b, o, none⟩ ∧ b < w.heap.size ∧ ∀ i, i < l.length → AtHp w b (o + i * 7) (hpth l i))
theorem Hps.nil (w : World) (a : Option Addr) (cap : Nat) (h : cap ≤ maxLen) : Hps w (.slice a 0 cap) [] := ⟨a, cap, rfl, Nat.zero_le _, h, .inl rfl⟩
theorem AtHp.keep {w w' : World} {b o : Nat} {x : Hp} (h : AtHp w b o x) (hb : Below w.heap.size w w') (hl : b < w.heap.size) : AtHp w' b o x := by
  obtain ⟨c, _⟩ := bcell hb
  obtain ⟨u, h0, h1, h2, h3, h4, h5, h6, h7⟩ := h
  exact ⟨u, (c b _ hl).trans h0, (c b _ hl).trans h1, (c b _ hl).trans h2, (c b _ hl).trans h3, (c b _ hl).trans h4, (c b _ hl).trans h5, (c b _ hl).trans h6, ⟨h7.1.keep hb, h7.2⟩⟩
theorem Hps.shape {w : World} {v : Value} {l : List Hp} (h : Hps w v l) : ∃ a cap, v = .slice a l.length cap := by
  obtain ⟨a, cap, h, _⟩ := h; exact ⟨a, cap, h⟩
def rnE (m : Mc) (l : List Hp) : Int := if chkM m = 0 then (if l.length ≤ 120 then 0 else 1) else chkM m
def rnX (m : Mc) (l : List Hp) : Mc × List To × List Int := if rnE m l = 0 then rnM m l else (M0, [], [])
theorem hpth_get {l : List Hp} {i : Nat} (h : i < l.length) : l[i]? = some (hpth l i) := by simp [hpth, h]
theorem take_hp {l : List Hp} {i : Nat} (h : i < l.length) : l.take (i + 1) = l.take i ++ [hpth l i] := by
  rw [List.take_add_one, hpth_get h]; rfl
theorem Mean.kept {w w' : World} {base : Nat} {may : Nat → Prop} {x : Tq} {t : To} (h : Mean w base x t) (k : KeptB may w w') (hm : ∀ q, may q → q < base) : Mean w' base x t :=
  ⟨h.done, h.f, h.dat.kept k (fun q hq hb => by have := h.fd q hq; have := hm q hb; omega), h.tch.kept k (fun q hq hb => by have := h.ft q hq; have := hm q hb; omega), h.fd, h.ft⟩
theorem qth_set_same {qs : List Tq} {k : Nat} (h : k < qs.length) (x : Tq) : qth (qs.set k x) k = x := by unfold qth; rw [List.getElem?_set_self h]; rfl
theorem qth_set_other {qs : List Tq} {k j : Nat} (h : ¬ j = k) (x : Tq) : qth (qs.set k x) j = qth qs j := by unfold qth; rw [List.getElem?_set_ne (fun e => h e.symm)]
theorem toth_left {a b : List To} {j : Nat} (h : j < a.length) : toth (a ++ b) j = toth a j := by unfold toth; rw [List.getElem?_append_left h]
theorem toth_last {a : List To} {x : To} {j : Nat} (h : j = a.length) : toth (a ++ [x]) j = x := by subst h; unfold toth; rw [List.getElem?_append_right (Nat.le_refl _)]; simp
theorem nth_left {a b : List Int} {j : Nat} (h : j < a.length) : nth (a ++ b) j = nth a j := by unfold nth; rw [List.getD_eq_getElem?_getD, List.getD_eq_getElem?_getD, List.getElem?_append_left h]
theorem nth_last {a : List Int} {x : Int} {j : Nat} (h : j = a.length) : nth (a ++ [x]) j = x := by subst h; unfold nth; rw [List.getD_eq_getElem?_getD, List.getElem?_append_right (Nat.le_refl _)]; simp
def RunBad (N n9 n10 n11 : Nat) (q : Nat) : Prop := q < N ∨ q = n9 ∨ q = n10 ∨ q = n11
structure RunI (m : Mc) (l : List Hp) (w : World) (N n9 n10 n11 NB : Nat) (i : Nat) (wx : World) : Prop where
  now : ∃ cs, Box wx n9 33 cs ∧ IsM wx (rnM m (l.take i)).1 cs ∧ OffRow (RunBad N n9 n10 n11) cs
  told : ∃ qs, Box wx n10 40 (told4 qs) ∧ qs.length = l.length ∧ ∀ j, j < i → Mean wx NB (qth qs j) (toth (rnM m (l.take i)).2.1 j)
  said : ∃ es, Box wx n11 41 (said1 es) ∧ es.length = l.length ∧ ∀ j, j < i → nth es j = nth (rnM m (l.take i)).2.2 j
  bel : Below w.heap.size w wx
  lo : NB ≤ wx.heap.size
  i : i ≤ l.length
def RunW (b : Bool) (w5 : World) (n9 : Nat) (cs1 : Array Value) : World := if b = true then w5.setRow n9 cs1 else w5
set_option maxHeartbeats 1000000 in
theorem RunI.step {m : Mc} {l : List Hp} {w : World} {N n9 n10 n11 NB i : Nat} {wx w5 : World} (h : RunI m l w N n9 n10 n11 NB i wx) (hi : i < l.length) (hb : Below wx.heap.size wx w5) {cs1 : Array Value} {x : Tq} {E : Int} {t : To}
    (hx : ∀ now y T, now = (rnM m (l.take i)).1 → hpR now (hpth l i) = (y, T) → E = hpE now (hpth l i) ∧ t = T ∧ (E = 0 → IsM w5 y cs1))
    (ho : OffRow (fun q => q < wx.heap.size) cs1) (ht : Mean w5 wx.heap.size x t)
    (hw : w.heap.size ≤ n9 ∧ w.heap.size ≤ n10 ∧ w.heap.size ≤ n11) (hn : n9 < NB ∧ n10 < NB ∧ n11 < NB ∧ N ≤ NB) (hd : ¬ n9 = n10 ∧ ¬ n9 = n11 ∧ ¬ n10 = n11) {b : Bool} (hE : b = decide (E = 0)) :
    RunI m l w N n9 n10 n11 NB (i + 1) ((((((RunW b w5 n9 cs1).setCell ⟨n10, i * 4, none⟩ (.bool x.done)).setCell ⟨n10, i * 4 + 1, none⟩ (.slice x.da x.dn x.dc)).setCell ⟨n10, i * 4 + 2, none⟩ (J x.f)).setCell ⟨n10, i * 4 + 3, none⟩ (.slice x.ta x.tn x.tc)).setCell ⟨n11, i, none⟩ (J E)) := by
  obtain ⟨⟨cs, B9, M9, O9⟩, ⟨qs, B10, L10, F10⟩, ⟨es, B11, L11, F11⟩, hbel, hlo, hil⟩ := h
  obtain ⟨⟨y, T⟩, hR⟩ : ∃ R, hpR (rnM m (l.take i)).1 (hpth l i) = R := ⟨_, rfl⟩
  obtain ⟨rfl, rfl, hy⟩ := hx _ y T rfl hR
  have e1 : (rnM m (l.take (i + 1))) = ((if hpE (rnM m (l.take i)).1 (hpth l i) = 0 then y else (rnM m (l.take i)).1), (rnM m (l.take i)).2.1 ++ [t], (rnM m (l.take i)).2.2 ++ [hpE (rnM m (l.take i)).1 (hpth l i)]) := by
    rw [take_hp hi, rnM_snoc, hR]
  obtain ⟨hl1, hl2⟩ := rnM_len (l.take i) m
  have hti : (l.take i).length = i := by rw [List.length_take]; omega
  rw [hti] at hl1 hl2
  obtain ⟨now, hnow⟩ : ∃ now, (rnM m (l.take i)).1 = now := ⟨_, rfl⟩
  rw [hnow] at hR hy e1 M9 hE
  obtain ⟨ts, hts⟩ : ∃ ts, (rnM m (l.take i)).2.1 = ts := ⟨_, rfl⟩
  obtain ⟨zs, hzs⟩ : ∃ zs, (rnM m (l.take i)).2.2 = zs := ⟨_, rfl⟩
  rw [hts] at e1 F10 hl1
  rw [hzs] at e1 F11 hl2
  have B9 := B9.keep hb
  have B10 := B10.keep hb
  have B11 := B11.keep hb
  have M9 := M9.keep hb
  have hs5 := hb.size
  rw [hnow]
  obtain ⟨w6, hw6⟩ : ∃ w6, RunW b w5 n9 cs1 = w6 := ⟨_, rfl⟩
  rw [hw6]
  have K6 : KeptB (fun q => q = n9) w5 w6 := by
    rw [← hw6]
    unfold RunW
    split
    · exact (KeptB.refl (fun q => q = n9) w5).setRow (n := n9) (.inl rfl) _
    · exact KeptB.refl _ _
  have N6 : ∃ cs', Box w6 n9 33 cs' ∧ IsM w6 (if hpE now (hpth l i) = 0 then y else now) cs' ∧ OffRow (RunBad N n9 n10 n11) cs' := by
    by_cases h0 : hpE now (hpth l i) = 0
    · have hbt : b = true := by rw [hE]; exact decide_eq_true h0
      have e6 : w6 = w5.setRow n9 cs1 := by rw [← hw6, hbt]; rfl
      rw [if_pos h0]
      have o1 : OffRow (RunBad N n9 n10 n11) cs1 := ho.less (fun q hq => by unfold RunBad at hq; omega)
      exact ⟨cs1, by rw [e6]; exact B9.setRow cs1, (hy h0).kept K6 o1 (fun q hq => .inr (.inl hq)), o1⟩
    · have hbt : b = false := by rw [hE]; exact decide_eq_false h0
      have e6 : w6 = w5 := by rw [← hw6, hbt]; rfl
      rw [if_neg h0, e6]
      exact ⟨cs, B9, M9, O9⟩
  have hs6 := K6.size
  have B10 := B10.kept K6 (fun e => hd.1 e.symm)
  have B11 := B11.kept K6 (fun e => hd.2.1 e.symm)
  have Q10 := B10.setQ (k := i) (by omega) x
  have K7 : KeptB (fun q => q = n10 ∨ q = n11) w6 (((((w6.setCell ⟨n10, i * 4, none⟩ (.bool x.done)).setCell ⟨n10, i * 4 + 1, none⟩ (.slice x.da x.dn x.dc)).setCell ⟨n10, i * 4 + 2, none⟩ (J x.f)).setCell ⟨n10, i * 4 + 3, none⟩ (.slice x.ta x.tn x.tc)).setCell ⟨n11, i, none⟩ (J (hpE now (hpth l i)))) :=
    (((((KeptB.refl _ _).setCell (p := ⟨n10, i * 4, none⟩) (.inl (.inl rfl)) _).setCell (p := ⟨n10, i * 4 + 1, none⟩) (.inl (.inl rfl)) _).setCell (p := ⟨n10, i * 4 + 2, none⟩) (.inl (.inl rfl)) _).setCell (p := ⟨n10, i * 4 + 3, none⟩) (.inl (.inl rfl)) _).setCell (p := ⟨n11, i, none⟩) (.inl (.inr rfl)) _
  have Q10 := Q10.other (p := ⟨n11, i, none⟩) (by dsimp only; omega) (J (hpE now (hpth l i)))
  have Q11 := ((((B11.other (p := ⟨n10, i * 4, none⟩) (by dsimp only; omega) (.bool x.done)).other (p := ⟨n10, i * 4 + 1, none⟩) (by dsimp only; omega) (.slice x.da x.dn x.dc)).other (p := ⟨n10, i * 4 + 2, none⟩) (by dsimp only; omega) (J x.f)).other (p := ⟨n10, i * 4 + 3, none⟩) (by dsimp only; omega) (.slice x.ta x.tn x.tc)).setE i (hpE now (hpth l i))
  obtain ⟨cs', C9, D9, O9'⟩ := N6
  have k5 : ∀ (q : Tq) (T : To), Mean w5 NB q T → Mean _ NB q T := fun q T hq => (hq.kept K6 (fun q hq => by omega)).kept K7 (fun q hq => by omega)
  refine ⟨⟨cs', C9.kept K7 (by omega), ?_, O9'⟩, ⟨qs.set i x, Q10, by rw [List.length_set]; exact L10, fun j hj => ?_⟩, ⟨es.set i _, Q11, by rw [List.length_set]; exact L11, fun j hj => ?_⟩, ?_, ?_, by omega⟩
  · rw [e1]
    exact D9.kept K7 O9' (fun q hq => by unfold RunBad; omega)
  · rw [e1]
    by_cases hji : j = i
    · subst hji
      rw [qth_set_same (by omega), toth_last hl1.symm]
      exact k5 x t (ht.mono hlo)
    · rw [qth_set_other hji, toth_left (by omega)]
      exact k5 _ _ ((F10 j (by omega)).keep hb)
  · rw [e1]
    by_cases hji : j = i
    · subst hji
      rw [nth_set_same (by omega), nth_last hl2.symm]
    · rw [nth_set_other (fun e => hji e.symm), nth_left (by omega)]
      exact F11 j (by omega)
  · have b5 : Below w.heap.size w w5 := bel_trans hbel hb
    have b6 : Below w.heap.size w w6 := by
      rw [← hw6]
      unfold RunW
      split
      · exact bel_setRow (n := n9) hw.1 b5 cs1
      · exact b5
    exact bel_set (p := ⟨n11, i, none⟩) hw.2.2 (bel_set (p := ⟨n10, i * 4 + 3, none⟩) hw.2.1 (bel_set (p := ⟨n10, i * 4 + 2, none⟩) hw.2.1 (bel_set (p := ⟨n10, i * 4 + 1, none⟩) hw.2.1 (bel_set (p := ⟨n10, i * 4, none⟩) hw.2.1 b6 _) _) _) _) _
  · have := K7.size; omega
end Go.Proofs.YthlhocneggcekaaGreat
