/-
  Laid together: DmaMath, PageMath, MWalkB, Short, AuditMath, ShortMath, MPlainB, MPlainWalk, Open0, MachinePlain.
-/
import Derived.Test.YthlhocneggcekaaGreatB1
import Derived.Test.YthlhocneggcekaaGreatB2
import Derived.Test.YthlhocneggcekaaGreatB3
import Derived.Test.YthlhocneggcekaaGreatB4
import Derived.Test.YthlhocneggcekaaGreatB5
import Derived.Test.YthlhocneggcekaaGreatB6
import Derived.Test.YthlhocneggcekaaGreatB7
import Derived.Test.YthlhocneggcekaaGreatB8
import Derived.Test.YthlhocneggcekaaGreatB9
import Derived.Test.YthlhocneggcekaaGreatB10
import Derived.Test.YthlhocneggcekaaGreatB11
import Derived.Test.YthlhocneggcekaaGreatB12
import Derived.Test.YthlhocneggcekaaGreatB13
import Derived.Test.YthlhocneggcekaaGreatB14
import Derived.Test.YthlhocneggcekaaGreatB15
import Derived.Test.YthlhocneggcekaaGreatB16
import Derived.Test.YthlhocneggcekaaGreatB17
import Derived.Test.YthlhocneggcekaaGreatB18
import Derived.Test.YthlhocneggcekaaGreatB19
import Derived.Test.YthlhocneggcekaaGreatB20
import Derived.Test.YthlhocneggcekaaGreatB21
import Derived.Test.YthlhocneggcekaaGreatB22
import Derived.Test.YthlhocneggcekaaGreatB23
import Derived.Test.YthlhocneggcekaaGreatB24
import Derived.Test.YthlhocneggcekaaGreatB25
import Derived.Test.YthlhocneggcekaaGreatB26
import Derived.Test.YthlhocneggcekaaGreatB27
import Derived.Test.YthlhocneggcekaaGreatB28
import Derived.Test.YthlhocneggcekaaGreatB29
import Derived.Test.YthlhocneggcekaaGreatB30
import Derived.Test.YthlhocneggcekaaGreatB31
import Derived.Test.YthlhocneggcekaaGreatB32
import Derived.Test.YthlhocneggcekaaGreatB33
import Derived.Test.YthlhocneggcekaaGreatB34
import Derived.Test.YthlhocneggcekaaGreatB35
import Derived.Test.YthlhocneggcekaaGreatB36
import Derived.Test.YthlhocneggcekaaGreatB37
import Derived.Test.YthlhocneggcekaaGreatB38
import Derived.Test.YthlhocneggcekaaGreatB39
import Derived.Test.YthlhocneggcekaaGreatB40
import Derived.Test.YthlhocneggcekaaGreatB41
import Derived.Test.YthlhocneggcekaaGreatB42
import Derived.Test.YthlhocneggcekaaGreatB43
import Derived.Test.YthlhocneggcekaaGreatB44
import Derived.ProofKit
import Derived.OpenShut
import Derived.ShutString
import Derived.ChangeOld
namespace Go.Proofs.YthlhocneggcekaaGreat
open Go.RowKit
theorem tth_get {l : List Tc} {i : Nat} (h : i < l.length) : tth l i = l[i] := by simp [tth, h]
theorem wds_b {d : Int} {wr : Bool} {ds : List Int} {o : Nat} {k : Int} : ∀ (j x : Nat) (s : St), (wds d wr ds o k j x s).b = s.b
  | 0, _, _ => rfl
  | j + 1, x, s => by rw [wds, wds_b j]; rfl
theorem wds_tch {d : Int} {wr : Bool} {ds : List Int} {o : Nat} {k : Int} : ∀ (m x : Nat) (s : St) (t : Tc), t ∈ (wds d wr ds o k m x s).tch → t ∈ s.tch ∨ ∃ i v, i < m ∧ t = (d, ((x + i : Nat) : Int), plc k (x + i), wr, v)
  | 0, _, _, _, h => .inl h
  | m + 1, x, s, t, h => by
    rcases wds_tch m (x + 1) (wd d wr ds o k x s) t h with h | ⟨i, v, hi, h⟩
    · have h' : t ∈ s.tch ++ [(d, (x : Int), plc k x, wr, nth (wdM wr ds o k x s.zs) (plc k x).toNat)] := h
      rcases List.mem_append.1 h' with h' | h'
      · exact .inl h'
      · refine .inr ⟨0, _, by omega, List.mem_singleton.1 h'⟩
    · refine .inr ⟨i + 1, v, by omega, ?_⟩
      rw [h, show x + 1 + i = x + (i + 1) by omega]
theorem do_page {zs : List Int} {b c : Br} {d a n f : Int} {wr : Bool} {ds ms dat : List Int} {tch : List Tc} (hE : doE zs b d a n wr ds = 0) (hp : a % 8 + n ≤ 8) (hR : doR zs b d a n wr ds = (⟨ms, c, dat, tch⟩, f)) :
    ∃ c' k, goT zs b d (a / 8) wr = (c', k, f) ∧ (0 ≤ k ∧ k ≤ 63) ∧ (¬ f = 0 → tch = []) ∧ (f = 0 → c = c') ∧ ∀ t ∈ tch, ∃ i v, i < n.toNat ∧ t = (d, a + (i : Int), plc k (a.toNat + i), wr, v) := by
  obtain ⟨hz, hb, hc⟩ := doE_ok hE
  obtain ⟨hn, hd, ha, hln, hal⟩ := ckA_ok hc
  rw [doR, if_pos hE] at hR
  have hpg : ((a.toNat / 8 : Nat) : Int) = a / 8 := by omega
  obtain ⟨⟨c', k, f'⟩, hg⟩ : ∃ R, goT zs b d ((a.toNat / 8 : Nat) : Int) wr = R := ⟨_, rfl⟩
  have hth : thE zs b d ((a.toNat / 8 : Nat) : Int) = 0 := thE_mk hz hb hd (page_in (by omega))
  obtain ⟨g1, g2, g3, g4, l', g5⟩ := goT_good hth hg
  obtain ⟨m, hm⟩ : ∃ m : Nat, n.toNat = m + 1 := ⟨n.toNat - 1, by omega⟩
  by_cases hf : f' = 0
  · subst hf
    have hrun := page_run (d := d) (wr := wr) (ds := ds) (o := a.toNat) (m := n.toNat) (x := a.toNat) (k := 0) (s := ⟨zs, b, [], []⟩) (by omega) (Nat.le_refl _) (.inl rfl) hg
    rw [hR] at hrun
    have hmin : min n.toNat (8 - a.toNat % 8) = n.toNat := Nat.min_eq_left (by omega)
    rw [hmin, Nat.sub_self, runW_zero, Prod.mk.injEq] at hrun
    obtain ⟨hs, rfl⟩ := hrun
    have hbr := wds_b (d := d) (wr := wr) (ds := ds) (o := a.toNat) (k := k) n.toNat a.toNat ⟨zs, c', [], []⟩
    rw [← hs] at hbr
    refine ⟨c', k, by rw [← hpg]; exact hg, g3, fun e => absurd rfl e, fun _ => hbr, fun t ht => ?_⟩
    have ht' : t ∈ (wds d wr ds a.toNat k n.toNat a.toNat ⟨zs, c', [], []⟩).tch := by rw [← hs]; exact ht
    rcases wds_tch _ _ _ t ht' with h | ⟨i, v, hi, h⟩
    · cases h
    · refine ⟨i, v, hi, ?_⟩
      rw [h, show ((a.toNat + i : Nat) : Int) = a + (i : Int) by omega]
  · rw [hm, runW_fault (.inl rfl) hg hf, Prod.mk.injEq] at hR
    obtain ⟨hs, rfl⟩ := hR
    simp only [St.mk.injEq] at hs
    obtain ⟨rfl, rfl, rfl, rfl⟩ := hs
    exact ⟨c', k, by rw [← hpg]; exact hg, g3, fun _ => rfl, fun e => absurd e hf, fun t ht => by cases ht⟩
def LpI (P : Mc → Prop) (S : Nat) (w wx : World) : Prop := (∃ cs m, Box wx S 33 cs ∧ IsM wx m cs ∧ P m) ∧ Below w.heap.size w wx
def shN (a n : Int) : Int := if a < 0 ∨ n < 1 then n else if n ≤ 8 - a % 8 then n else 8 - a % 8
def shD (a n : Int) (f : Bool) (ds : List Int) : List Int := if a < 0 ∨ n < 1 then ds else if f = true then ds.take (shN a n).toNat else ds
def shX (x : Hp) : Hp := ⟨x.kind, x.num, x.d, x.a, shN x.a x.n, x.wr, shD x.a x.n x.wr x.ds⟩
theorem Sl.upto {w : World} {a : Option Addr} {n c : Nat} {zs : List Int} (h : Sl w (.slice a n c) zs) {k : Nat} (hk : k ≤ zs.length) : Sl w (.slice a k c) (zs.take k) := by
  obtain ⟨a', c', e, hm, h⟩ := h
  simp only [Value.slice.injEq] at e
  obtain ⟨rfl, rfl, rfl⟩ := e
  have hl : (zs.take k).length = k := by rw [List.length_take]; omega
  refine ⟨a, c, by rw [hl], by omega, ?_⟩
  rcases h with rfl | ⟨b, o, rfl, hb, hc⟩
  · exact .inl (by simp)
  · refine .inr ⟨b, o, rfl, hb, fun i hi => ?_⟩
    rw [hl] at hi
    rw [show nth (zs.take k) i = nth zs i by simp [nth, hi]]
    exact hc i (by omega)
theorem Sl.empty {w : World} {a : Option Addr} {c : Nat} {zs : List Int} {k : Nat} (hk : k = 0) (hz : zs = []) : Sl w (.slice a k c) zs := by subst hk hz; exact Sl.nil w a c
abbrev ShC (d a n : Int) (f : Bool) (u : Value) (ds : List Int) (w : World) (e : Ending) (w' : World) : Prop :=
  ∃ ua un uc, e = .returned (.agg #[J d, J a, J (shN a n), .bool f, .slice ua un uc]) ∧ (∀ w0, Sl w0 u ds → Sl w0 (.slice ua un uc) (shD a n f ds)) ∧ Below w.heap.size w w'
theorem shC_mk {d a n m : Int} {f : Bool} {u : Value} {ds : List Int} {w w' : World} {ua : Option Addr} {un uc : Nat} (hn : shN a n = m) (h : ∀ w0, Sl w0 u ds → Sl w0 (.slice ua un uc) (shD a n f ds)) (hb : Below w.heap.size w w') : ShC d a n f u ds w (.returned (.agg #[J d, J a, J m, .bool f, .slice ua un uc])) w' :=
  ⟨ua, un, uc, by rw [hn], h, hb⟩
set_option maxRecDepth 10000 in
set_option maxHeartbeats 2000000 in
theorem short_any {d a n : Int} {f : Bool} {u : Value} {ds : List Int} {w : World} (hs : Slc w u ds) :
    Calls Tryz.prog 29 #[.agg #[J d, J a, J n, .bool f, u]] w fun e w' => ShC d a n f u ds w e w' := by
  obtain ⟨hs, va, vk, rfl, hlk, hkm⟩ := hs
  have HS : Hid (Sl w (.slice va ds.length vk) ds) := hs
  unfold maxLen at hkm
  have hlk' : (ds.length : Int) ≤ vk := by omega
  by_cases h0 : a < 0 ∨ n < 1
  · have HN : Hid (shN a n = n) := by show _ = _; rw [shN, if_pos h0]
    have HD : Hid (shD a n f ds = ds) := by show _ = _; rw [shD, if_pos h0]
    have ways : a < 0 ∨ (¬ a < 0 ∧ n < 1) := by omega
    clear h0 hs
    rcases ways with h1 | ⟨h1, h2⟩
    all_goals
      go_enter Tryz.func29, Tryz.ntmps29
      go_wp2
      refine bodyPost_ret (v := .agg #[J d, J a, J (n), .bool f, .slice va ds.length vk]) (by simp [results, Tryz.results29, go_sem, *]) rfl (shC_mk HN.out (fun w0 h0 => by rw [HD.out]; exact h0) ?_)
      (repeat (first | with_reducible exact Below.refl _ _ | with_reducible refine bel_alloc ?_ _ | (with_reducible refine bel_set ?_ ?_ _; (focus (dsimp only; omega)))))
  have h1 : ¬ a < 0 := by omega
  have h2 : ¬ n < 1 := by omega
  have e1 : a.tmod 8 = a % 8 := Int.tmod_eq_emod_of_nonneg (by omega)
  have r1 : 0 ≤ a % 8 := by omega
  have r2 : a % 8 < 8 := by omega
  obtain ⟨rr, hrr⟩ : ∃ r, a % 8 = r := ⟨_, rfl⟩
  rw [hrr] at e1 r1 r2
  have HRR : Hid (a % 8 = rr) := hrr
  clear hrr hs
  by_cases hm : n ≤ 8 - rr
  · have HN : Hid (shN a n = n) := by show _ = _; rw [shN, if_neg h0, HRR.out, if_pos hm]
    cases f with
    | false =>
      have HD : Hid (shD a n false ds = ds) := by show _ = _; rw [shD, if_neg h0]; rfl
      clear h0
      go_enter Tryz.func29, Tryz.ntmps29
      go_wp2
      refine bodyPost_ret (v := .agg #[J d, J a, J (n), .bool false, .slice va ds.length vk]) (by simp [results, Tryz.results29, go_sem, *]) rfl (shC_mk HN.out (fun w0 h0 => by rw [HD.out]; exact h0) ?_)
      (repeat (first | with_reducible exact Below.refl _ _ | with_reducible refine bel_alloc ?_ _ | (with_reducible refine bel_set ?_ ?_ _; (focus (dsimp only; omega)))))
    | true =>
      have HD : Hid (shD a n true ds = ds.take (n).toNat) := by show _ = _; rw [shD, if_neg h0, HN.out]; rfl
      clear h0
      by_cases hl : (ds.length : Int) ≤ n
      · have HT : Hid (shD a n true ds = ds) := by show _ = _; rw [HD.out, List.take_of_length_le (by omega)]
        by_cases hz : ds.length = 0
        · obtain rfl : ds = [] := List.eq_nil_of_length_eq_zero hz
          clear HD hz
          cases va with
          | none =>
            go_enter Tryz.func29, Tryz.ntmps29
            go_wp2
            skip
            refine bodyPost_ret (v := .agg #[J d, J a, J (n), .bool true, .slice none 0 vk]) (by simp [results, Tryz.results29, go_sem, *]) rfl (shC_mk HN.out (fun w0 h0 => Sl.empty rfl HT.out) ?_)
            (repeat (first | with_reducible exact Below.refl _ _ | with_reducible refine bel_alloc ?_ _ | (with_reducible refine bel_set ?_ ?_ _; (focus (dsimp only; omega)))))
          | some ad =>
            by_cases hc0 : vk = 0
            · subst hc0
              go_enter Tryz.func29, Tryz.ntmps29
              go_wp2
              skip
              refine bodyPost_ret (v := .agg #[J d, J a, J (n), .bool true, .slice (some ad) 0 0]) (by simp [results, Tryz.results29, go_sem, *]) rfl (shC_mk HN.out (fun w0 h0 => Sl.empty rfl HT.out) ?_)
              (repeat (first | with_reducible exact Below.refl _ _ | with_reducible refine bel_alloc ?_ _ | (with_reducible refine bel_set ?_ ?_ _; (focus (dsimp only; omega)))))
            · skip
              go_enter Tryz.func29, Tryz.ntmps29
              go_wp2
              skip
              refine bodyPost_ret (v := .agg #[J d, J a, J (n), .bool true, .slice (some ad) 0 vk]) (by simp [results, Tryz.results29, go_sem, *]) rfl (shC_mk HN.out (fun w0 h0 => Sl.empty rfl HT.out) ?_)
              (repeat (first | with_reducible exact Below.refl _ _ | with_reducible refine bel_alloc ?_ _ | (with_reducible refine bel_set ?_ ?_ _; (focus (dsimp only; omega)))))
        · obtain ⟨b, o, hva, -⟩ := HS.out.open (i := 0) (by omega)
          subst hva
          have hc0 : ¬ vk = 0 := by omega
          go_enter Tryz.func29, Tryz.ntmps29
          go_wp2
          refine bodyPost_ret (v := .agg #[J d, J a, J (n), .bool true, .slice (some ⟨b, o, none⟩) ds.length vk]) (by simp [results, Tryz.results29, go_sem, *]) rfl (shC_mk HN.out (fun w0 h0 => by rw [HT.out]; exact h0) ?_)
          (repeat (first | with_reducible exact Below.refl _ _ | with_reducible refine bel_alloc ?_ _ | (with_reducible refine bel_set ?_ ?_ _; (focus (dsimp only; omega)))))
      · obtain ⟨b, o, hva, -⟩ := HS.out.open (i := 0) (by omega)
        subst hva
        have hc0 : ¬ vk = 0 := by omega
        have hl2 : n < (ds.length : Int) := by omega
        have hl3 : n ≤ (vk : Int) := by omega
        have hl4 : 0 ≤ n := by omega
        go_enter Tryz.func29, Tryz.ntmps29
        go_wp2
        refine bodyPost_ret (v := .agg #[J d, J a, J (n), .bool true, .slice (some ⟨b, o, none⟩) (n).toNat vk]) (by simp [results, Tryz.results29, go_sem, *]) rfl (shC_mk HN.out (fun w0 h0 => by rw [HD.out]; exact h0.upto (by omega)) ?_)
        (repeat (first | with_reducible exact Below.refl _ _ | with_reducible refine bel_alloc ?_ _ | (with_reducible refine bel_set ?_ ?_ _; (focus (dsimp only; omega)))))
  · have HN : Hid (shN a n = 8 - rr) := by show _ = _; rw [shN, if_neg h0, HRR.out, if_neg hm]
    have hm2 : 8 - rr < n := by omega
    cases f with
    | false =>
      have HD : Hid (shD a n false ds = ds) := by show _ = _; rw [shD, if_neg h0]; rfl
      clear h0
      go_enter Tryz.func29, Tryz.ntmps29
      go_wp2
      refine bodyPost_ret (v := .agg #[J d, J a, J (8 - rr), .bool false, .slice va ds.length vk]) (by simp [results, Tryz.results29, go_sem, *]) rfl (shC_mk HN.out (fun w0 h0 => by rw [HD.out]; exact h0) ?_)
      (repeat (first | with_reducible exact Below.refl _ _ | with_reducible refine bel_alloc ?_ _ | (with_reducible refine bel_set ?_ ?_ _; (focus (dsimp only; omega)))))
    | true =>
      have HD : Hid (shD a n true ds = ds.take (8 - rr).toNat) := by show _ = _; rw [shD, if_neg h0, HN.out]; rfl
      clear h0
      by_cases hl : (ds.length : Int) ≤ 8 - rr
      · have HT : Hid (shD a n true ds = ds) := by show _ = _; rw [HD.out, List.take_of_length_le (by omega)]
        by_cases hz : ds.length = 0
        · obtain rfl : ds = [] := List.eq_nil_of_length_eq_zero hz
          clear HD hz
          cases va with
          | none =>
            go_enter Tryz.func29, Tryz.ntmps29
            go_wp2
            skip
            refine bodyPost_ret (v := .agg #[J d, J a, J (8 - rr), .bool true, .slice none 0 vk]) (by simp [results, Tryz.results29, go_sem, *]) rfl (shC_mk HN.out (fun w0 h0 => Sl.empty rfl HT.out) ?_)
            (repeat (first | with_reducible exact Below.refl _ _ | with_reducible refine bel_alloc ?_ _ | (with_reducible refine bel_set ?_ ?_ _; (focus (dsimp only; omega)))))
          | some ad =>
            by_cases hc0 : vk = 0
            · subst hc0
              go_enter Tryz.func29, Tryz.ntmps29
              go_wp2
              skip
              refine bodyPost_ret (v := .agg #[J d, J a, J (8 - rr), .bool true, .slice (some ad) 0 0]) (by simp [results, Tryz.results29, go_sem, *]) rfl (shC_mk HN.out (fun w0 h0 => Sl.empty rfl HT.out) ?_)
              (repeat (first | with_reducible exact Below.refl _ _ | with_reducible refine bel_alloc ?_ _ | (with_reducible refine bel_set ?_ ?_ _; (focus (dsimp only; omega)))))
            · skip
              go_enter Tryz.func29, Tryz.ntmps29
              go_wp2
              skip
              refine bodyPost_ret (v := .agg #[J d, J a, J (8 - rr), .bool true, .slice (some ad) 0 vk]) (by simp [results, Tryz.results29, go_sem, *]) rfl (shC_mk HN.out (fun w0 h0 => Sl.empty rfl HT.out) ?_)
              (repeat (first | with_reducible exact Below.refl _ _ | with_reducible refine bel_alloc ?_ _ | (with_reducible refine bel_set ?_ ?_ _; (focus (dsimp only; omega)))))
        · obtain ⟨b, o, hva, -⟩ := HS.out.open (i := 0) (by omega)
          subst hva
          have hc0 : ¬ vk = 0 := by omega
          go_enter Tryz.func29, Tryz.ntmps29
          go_wp2
          refine bodyPost_ret (v := .agg #[J d, J a, J (8 - rr), .bool true, .slice (some ⟨b, o, none⟩) ds.length vk]) (by simp [results, Tryz.results29, go_sem, *]) rfl (shC_mk HN.out (fun w0 h0 => by rw [HT.out]; exact h0) ?_)
          (repeat (first | with_reducible exact Below.refl _ _ | with_reducible refine bel_alloc ?_ _ | (with_reducible refine bel_set ?_ ?_ _; (focus (dsimp only; omega)))))
      · obtain ⟨b, o, hva, -⟩ := HS.out.open (i := 0) (by omega)
        subst hva
        have hc0 : ¬ vk = 0 := by omega
        have hl2 : 8 - rr < (ds.length : Int) := by omega
        have hl3 : 8 - rr ≤ (vk : Int) := by omega
        have hl4 : 0 ≤ 8 - rr := by omega
        go_enter Tryz.func29, Tryz.ntmps29
        go_wp2
        refine bodyPost_ret (v := .agg #[J d, J a, J (8 - rr), .bool true, .slice (some ⟨b, o, none⟩) (8 - rr).toNat vk]) (by simp [results, Tryz.results29, go_sem, *]) rfl (shC_mk HN.out (fun w0 h0 => by rw [HD.out]; exact h0.upto (by omega)) ?_)
        (repeat (first | with_reducible exact Below.refl _ _ | with_reducible refine bel_alloc ?_ _ | (with_reducible refine bel_set ?_ ?_ _; (focus (dsimp only; omega)))))
def ckT (t : Tc) : Int :=
  if (0 ≤ t.1 ∧ t.1 ≤ 7) ∧ (0 ≤ t.2.1 ∧ t.2.1 ≤ 511) ∧ (0 ≤ t.2.2.1 ∧ t.2.2.1 ≤ 511) then (if 0 ≤ t.2.2.2.2 ∧ t.2.2.2.2 ≤ 65535 then (if t.2.1 % 8 = t.2.2.1 % 8 then 0 else 3) else 2) else 4
theorem ckT_ok {t : Tc} (h : ckT t = 0) : (0 ≤ t.1 ∧ t.1 ≤ 7) ∧ (0 ≤ t.2.1 ∧ t.2.1 ≤ 511) ∧ (0 ≤ t.2.2.1 ∧ t.2.2.1 ≤ 511) ∧ (0 ≤ t.2.2.2.2 ∧ t.2.2.2.2 ≤ 65535) ∧ t.2.1 % 8 = t.2.2.1 % 8 := by
  unfold ckT at h
  by_cases h1 : (0 ≤ t.1 ∧ t.1 ≤ 7) ∧ (0 ≤ t.2.1 ∧ t.2.1 ≤ 511) ∧ (0 ≤ t.2.2.1 ∧ t.2.2.1 ≤ 511)
  · rw [if_pos h1] at h
    by_cases h2 : 0 ≤ t.2.2.2.2 ∧ t.2.2.2.2 ≤ 65535
    · rw [if_pos h2] at h
      by_cases h3 : t.2.1 % 8 = t.2.2.1 % 8
      · exact ⟨h1.1, h1.2.1, h1.2.2, h2, h3⟩
      · rw [if_neg h3] at h; exact absurd h (by decide)
    · rw [if_neg h2] at h; exact absurd h (by decide)
  · rw [if_neg h1] at h; exact absurd h (by decide)
theorem ckT_mk {t : Tc} (h1 : 0 ≤ t.1 ∧ t.1 ≤ 7) (h2 : 0 ≤ t.2.1 ∧ t.2.1 ≤ 511) (h3 : 0 ≤ t.2.2.1 ∧ t.2.2.1 ≤ 511) (h4 : 0 ≤ t.2.2.2.2 ∧ t.2.2.2.2 ≤ 65535) (h5 : t.2.1 % 8 = t.2.2.1 % 8) : ckT t = 0 := by
  rw [ckT, if_pos ⟨h1, h2, h3⟩, if_pos h4, if_pos h5]
theorem nth_set_word {zs : List Int} {i j : Nat} {z : Int} (h : wordB (nth zs j) = true) (hz : wordB z = true) : wordB (nth (zs.set i z) j) = true := by
  by_cases e : i = j
  · subst e
    by_cases hl : i < zs.length
    · have : nth (zs.set i z) i = z := by simp [nth, hl]
      rw [this]; exact hz
    · rw [List.set_eq_of_length_le (by omega)]; exact h
  · have : nth (zs.set i z) j = nth zs j := by simp [nth, e]
    rw [this]; exact h
theorem rep_word {zs ds : List Int} {T : List Tc} {i : Nat} (hz : wordB (nth zs i) = true) : ∀ k, (∀ j, j < k → (tth T j).2.2.2.1 = true → wordB (nth ds j) = true) → wordB (nth (rep zs ds T k) i) = true
  | 0, _ => hz
  | k + 1, h => by
    have ih := rep_word hz k (fun j hj => h j (by omega))
    unfold rep
    split
    · next e => exact nth_set_word ih (h k (by omega) e)
    · exact ih
theorem do_words {zs : List Int} {b c : Br} {d a n f : Int} {fw : Bool} {ds ms dat : List Int} {tch : List Tc} (hE : doE zs b d a n fw ds = 0) (hR : doR zs b d a n fw ds = (⟨ms, c, dat, tch⟩, f)) {u : Tc} (hu : u ∈ tch) : wordB u.2.2.2.2 = true := by
  obtain ⟨hz, hb, hc⟩ := doE_ok hE
  obtain ⟨hn, hd, ha, hln, hal⟩ := ckA_ok hc
  obtain ⟨-, -, -, -, -, -, -, g, gl, -⟩ := do_held hE hR
  obtain ⟨j, hj, e⟩ := List.getElem_of_mem hu
  obtain ⟨p, hp, ht⟩ := g j hj
  rw [tth_get hj, e] at ht
  rw [ht]
  refine rep_word ((chk_ok hz).2 _ (by omega)) (j + 1) (fun i hi hw => ?_)
  obtain ⟨p', -, ht'⟩ := g i (by omega)
  rw [ht'] at hw
  exact all_nth hal (by have := gl hw; omega)
theorem hp_short {m y : Mc} {x : Hp} {t : To} (h : hpE m (shX x) = 0) (hr : hpR m (shX x) = (y, t)) (hk : x.kind = 3) :
    ∃ c k, thE m.zs m.b x.d (x.a / 8) = 0 ∧ goT m.zs m.b x.d (x.a / 8) x.wr = (c, k, t.f) ∧ (0 ≤ k ∧ k ≤ 63) ∧ (0 ≤ x.a ∧ x.a ≤ 511) ∧ (0 ≤ x.d ∧ x.d ≤ 7) ∧ (0 ≤ t.f ∧ t.f ≤ 5) ∧ (¬ t.f = 0 → t.tch = []) ∧ (t.f = 0 → y.b = c) ∧
      ∀ u ∈ t.tch, u.1 = x.d ∧ u.2.1 / 8 = x.a / 8 ∧ u.2.2.2.1 = x.wr ∧ u.2.2.1 / 8 = k ∧ ckT u = 0 := by
  have hk' : (shX x).kind = 3 := hk
  rw [hpR, if_pos h, hpG, if_neg (by omega), if_neg (by omega), if_pos hk'] at hr
  have hcm : chkM m = 0 := by
    unfold hpE at h
    by_cases hc : chkM m = 0
    · exact hc
    · rw [if_neg hc] at h; exact absurd h hc
  have hck : ckA x.d x.a (shN x.a x.n) x.wr (shD x.a x.n x.wr x.ds) = 0 := by
    unfold hpE at h
    rw [if_pos hcm, if_neg (by omega), if_neg (by omega), if_pos hk'] at h; exact h
  obtain ⟨hz, hh, hb⟩ := chkM_ok hcm
  obtain ⟨hn, hd, ha, hln, hal⟩ := ckA_ok hck
  have hE : doE m.zs m.b x.d x.a (shN x.a x.n) x.wr (shD x.a x.n x.wr x.ds) = 0 := doE_mk hz hb hck
  obtain ⟨⟨⟨ms, c, dat, tch⟩, f⟩, hR⟩ : ∃ R, doR m.zs m.b x.d x.a (shN x.a x.n) x.wr (shD x.a x.n x.wr x.ds) = R := ⟨_, rfl⟩
  have hr' : (⟨(doR m.zs m.b x.d x.a (shN x.a x.n) x.wr (shD x.a x.n x.wr x.ds)).1.zs, m.h, (doR m.zs m.b x.d x.a (shN x.a x.n) x.wr (shD x.a x.n x.wr x.ds)).1.b⟩,
    ⟨decide ((doR m.zs m.b x.d x.a (shN x.a x.n) x.wr (shD x.a x.n x.wr x.ds)).2 = 0), (doR m.zs m.b x.d x.a (shN x.a x.n) x.wr (shD x.a x.n x.wr x.ds)).1.dat, (doR m.zs m.b x.d x.a (shN x.a x.n) x.wr (shD x.a x.n x.wr x.ds)).2, (doR m.zs m.b x.d x.a (shN x.a x.n) x.wr (shD x.a x.n x.wr x.ds)).1.tch⟩) = (y, t) := hr
  rw [hR] at hr'
  simp only [Prod.mk.injEq] at hr'
  obtain ⟨rfl, rfl⟩ := hr'
  have hpg : x.a % 8 + shN x.a x.n ≤ 8 := by
    by_cases h0 : x.a < 0 ∨ x.n < 1
    · have e : shN x.a x.n = x.n := by rw [shN, if_pos h0]
      rw [e] at hn
      omega
    · rw [shN, if_neg h0]
      split <;> omega
  obtain ⟨c', k, hg, hk1, hf, hc, ht⟩ := do_page hE hpg hR
  obtain ⟨-, -, -, hfr, -⟩ := do_held hE hR
  refine ⟨c', k, thE_mk hz hb hd (by omega), hg, hk1, by omega, hd, hfr, hf, hc, fun u hu => ?_⟩
  have hwd := do_words hE hR hu
  obtain ⟨i, v, hi, rfl⟩ := ht u hu
  simp only [wordB, decide_eq_true_eq] at hwd
  have hpl : plc k (x.a.toNat + i) = k * 8 + (x.a + (i : Int)) % 8 := by unfold plc; omega
  refine ⟨rfl, by show (x.a + (i : Int)) / 8 = _; omega, rfl, by show plc k _ / 8 = k; rw [hpl]; omega, ckT_mk hd (by show 0 ≤ x.a + (i : Int) ∧ x.a + (i : Int) ≤ 511; omega) (by show 0 ≤ plc k _ ∧ plc k _ ≤ 511; rw [hpl]; omega) hwd (by show (x.a + (i : Int)) % 8 = plc k _ % 8; rw [hpl]; omega)⟩
def plMc (m : Mc) : Mc := ⟨m.zs, m.h, m.b.with []⟩
theorem IsM.bare {w : World} {m : Mc} {cs : Array Value} (h : IsM w m cs) : IsM w (plMc m) (cs.setIfInBounds 6 (.slice none 0 0)) := by
  obtain ⟨a1, n1, c1, a2, n2, c2, a3, n3, c3, rfl, h1, h2, h3⟩ := h
  exact ⟨a1, n1, c1, a2, n2, c2, none, 0, 0, by simp [plMc, Br.with], h1, h2, Ls.nothing _⟩
theorem IsM.lines {w : World} {m : Mc} {cs : Array Value} (h : IsM w m cs) : ∃ a n c, cs[6]? = some (.slice a n c) := by
  obtain ⟨a1, n1, c1, a2, n2, c2, a3, n3, c3, rfl, -⟩ := h; exact ⟨a3, n3, c3, rfl⟩
theorem Box.fiveOn {w : World} {n : Nat} {t : TypeId} {a0 a1 a2 a3 a4 a5 a6 : Value} (h : Box w n t #[a0, a1, a2, a3, a4, a5, a6]) (u2 u3 u4 u5 u6 : Value) :
    Box (((((w.setCell ⟨n, 2, none⟩ u2).setCell ⟨n, 3, none⟩ u3).setCell ⟨n, 4, none⟩ u4).setCell ⟨n, 5, none⟩ u5).setCell ⟨n, 6, none⟩ u6) n t #[a0, a1, u2, u3, u4, u5, u6] := ((((h.set 2 u2).set 3 u3).set 4 u4).set 5 u5).set 6 u6
theorem bel_fiveOn {a w : World} {n : Nat} (hp : a.heap.size ≤ n) (h : Below a.heap.size a w) (u2 u3 u4 u5 u6 : Value) :
    Below a.heap.size a (((((w.setCell ⟨n, 2, none⟩ u2).setCell ⟨n, 3, none⟩ u3).setCell ⟨n, 4, none⟩ u4).setCell ⟨n, 5, none⟩ u5).setCell ⟨n, 6, none⟩ u6) :=
  bel_set (p := ⟨n, 6, none⟩) hp (bel_set (p := ⟨n, 5, none⟩) hp (bel_set (p := ⟨n, 4, none⟩) hp (bel_set (p := ⟨n, 3, none⟩) hp (bel_set (p := ⟨n, 2, none⟩) hp h u2) u3) u4) u5) u6
theorem ts_at {w w' : World} {va : Option Addr} {n vk : Nat} {l : List Tc} (h : Ts w (.slice va n vk) l) (hb : Below w.heap.size w w') {i : Nat} (hi : i < l.length) :
    ∃ b o, va = some ⟨b, o, none⟩ ∧ b < w'.heap.size ∧ AtT w' b (o + i * 5) (tth l i) := by
  obtain ⟨a', c', e', -, -, q⟩ := h
  simp only [Value.slice.injEq] at e'
  rcases q with q | ⟨b', o', q, q2, q3⟩
  · rw [q] at hi; simp at hi
  · exact ⟨b', o', by rw [e'.1, q], Nat.lt_of_lt_of_le q2 hb.size, (q3 i hi).keep hb q2⟩
set_option maxRecDepth 10000 in
set_option maxHeartbeats 4000000 in
theorem mplain_row {m : Mc} {l : List Hp} {cs : Array Value} {v : Value} {w : World} (hm : IsM w m cs) (hl : Hps w v l) : Calls Tryz.prog 7 #[.agg cs, v] w fun e w' => e = .returned (.bool true) ∧ Below w.heap.size w w' := by
  have HL : Hid (Hps w v l) := hl
  obtain ⟨va, vk, rfl⟩ := hl.shape
  have HM : Hid (IsM w m cs) := hm
  obtain ⟨a1, n1, c1, a2, n2, c2, a3, n3, c3, rfl, h1, h2, h3⟩ := hm
  clear hl h1 h2 h3
  have X0 := Box.newAt (w := w) (n := w.heap.size) rfl 33 #[.slice a1 n1 c1, J m.h.pc, .slice a2 n2 c2, .bool m.h.done, J m.b.mode, J m.b.base, .slice a3 n3 c3, J m.b.op, J m.b.oh, J m.b.ot, .bool m.b.stop, J m.b.fen, J m.b.fp, J m.b.fh, J m.b.ft, .bool m.b.lost]
  have BW0 : Hid (Below w.heap.size w (w.alloc (.cells #[.slice a1 n1 c1, J m.h.pc, .slice a2 n2 c2, .bool m.h.done, J m.b.mode, J m.b.base, .slice a3 n3 c3, J m.b.op, J m.b.oh, J m.b.ot, .bool m.b.stop, J m.b.fen, J m.b.fp, J m.b.fh, J m.b.ft, .bool m.b.lost] 33))) := bel_alloc (Below.refl w.heap.size w) _
  go_enter Tryz.func7, Tryz.ntmps7
  obtain ⟨⟨i0, i1, i2, i3⟩, ⟨j0, j1, j2, j3, j4, j5, j6, j7, j8, j9, j10, j11⟩, s0⟩ := X0.sixteen
  have mk := X0.marksOf
  go_upto_region 2 with fail
  have X0 : Box (w.alloc (.cells #[.slice a1 n1 c1, J m.h.pc, .slice a2 n2 c2, .bool m.h.done, J m.b.mode, J m.b.base, .slice none 0 0, J m.b.op, J m.b.oh, J m.b.ot, .bool m.b.stop, J m.b.fen, J m.b.fp, J m.b.fh, J m.b.ft, .bool m.b.lost] 33)) w.heap.size 33 #[.slice a1 n1 c1, J m.h.pc, .slice a2 n2 c2, .bool m.h.done, J m.b.mode, J m.b.base, .slice none 0 0, J m.b.op, J m.b.oh, J m.b.ot, .bool m.b.stop, J m.b.fen, J m.b.fp, J m.b.fh, J m.b.ft, .bool m.b.lost] := Box.newAt rfl _ _
  have BW : Hid (Below w.heap.size w (w.alloc (.cells #[.slice a1 n1 c1, J m.h.pc, .slice a2 n2 c2, .bool m.h.done, J m.b.mode, J m.b.base, .slice none 0 0, J m.b.op, J m.b.oh, J m.b.ot, .bool m.b.stop, J m.b.fen, J m.b.fp, J m.b.fh, J m.b.ft, .bool m.b.lost] 33))) := bel_alloc (Below.refl w.heap.size w) _
  have M0 : IsM (w.alloc (.cells #[.slice a1 n1 c1, J m.h.pc, .slice a2 n2 c2, .bool m.h.done, J m.b.mode, J m.b.base, .slice none 0 0, J m.b.op, J m.b.oh, J m.b.ot, .bool m.b.stop, J m.b.fen, J m.b.fp, J m.b.fh, J m.b.ft, .bool m.b.lost] 33)) (plMc m) #[.slice a1 n1 c1, J m.h.pc, .slice a2 n2 c2, .bool m.h.done, J m.b.mode, J m.b.base, .slice none 0 0, J m.b.op, J m.b.oh, J m.b.ot, .bool m.b.stop, J m.b.fen, J m.b.fp, J m.b.fh, J m.b.ft, .bool m.b.lost] := (HM.out.keep BW.out).bare
  clear mk BW0
  clear i0 i1 i2 i3 j0 j1 j2 j3 j4 j5 j6 j7 j8 j9 j10 j11 s0
  generalize (w.alloc (.cells #[.slice a1 n1 c1, J m.h.pc, .slice a2 n2 c2, .bool m.h.done, J m.b.mode, J m.b.base, .slice none 0 0, J m.b.op, J m.b.oh, J m.b.ot, .bool m.b.stop, J m.b.fen, J m.b.fp, J m.b.fh, J m.b.ft, .bool m.b.lost] 33)) = W at *
  obtain ⟨⟨i0, i1, i2, i3⟩, ⟨j0, j1, j2, j3, j4, j5, j6, j7, j8, j9, j10, j11⟩, s0⟩ := X0.sixteen
  go_wp2_with fail
  refine (driven_true _).mono ?_
  rintro e w1 ⟨rfl, b1⟩
  clear i0 i1 i2 i3 j0 j1 j2 j3 j4 j5 j6 j7 j8 j9 j10 j11 s0
  have X0 := X0.keep b1
  have M0 := M0.keep b1
  have B1 : Hid (Below w.heap.size w w1) := bel_trans BW.out b1
  clear b1 BW
  obtain ⟨⟨i0, i1, i2, i3⟩, ⟨j0, j1, j2, j3, j4, j5, j6, j7, j8, j9, j10, j11⟩, s0⟩ := X0.sixteen
  go_wp2_with fail
  refine (mCheck_row M0).mono ?_
  rintro e wB ⟨rfl, b2⟩
  clear i0 i1 i2 i3 j0 j1 j2 j3 j4 j5 j6 j7 j8 j9 j10 j11 s0
  have X0 := X0.keep b2
  have M0 := M0.keep b2
  have B2 : Hid (Below w.heap.size w wB) := bel_trans B1.out b2
  clear b2 B1
  by_cases hE : chkM (plMc m) = 0
  rotate_left
  · obtain ⟨z, hz⟩ : ∃ z, chkM (plMc m) = z := ⟨_, rfl⟩
    rw [hz] at hE ⊢
    have q : (z != 0) = true := by simpa using hE
    clear hz hE
    go_wp2_with fail
    refine (driven_true _).mono ?_
    rintro e w3 ⟨rfl, b3⟩
    go_wp2_with fail
    go_ret
    exact ⟨rfl, bel_trans B2.out b3⟩
  have HCM : Hid (chkM (plMc m) = 0) := hE
  rw [hE]
  have q : ((0 : Int) != 0) = false := rfl
  go_upto_region 4 with fail
  clear q hE
  go_cut [29, 30, 31] from 25 to 28 (fun x y z wx => ∃ (q : Nat) (b : Option Addr) (c : Nat), x = .slice b q c ∧ y = J q ∧ z = J 0 ∧ q ≤ l.length ∧ q ≤ 60 ∧ (q = 0 ∨ b = va) ∧ wx = wB)
  case first =>
    have hcc : l.length ≤ vk ∧ vk ≤ maxLen := by
      obtain ⟨a', c', e', q1, q2, -⟩ := HL.out
      simp only [Value.slice.injEq] at e'
      rw [e'.2.2]; exact ⟨q1, q2⟩
    obtain ⟨hc1, hc2⟩ := hcc
    unfold maxLen at hc2
    by_cases hl0 : l.length = 0
    · obtain rfl : l = [] := List.eq_nil_of_length_eq_zero hl0
      cases va with
      | none =>
        go_wp2
        go_meet
        exact ⟨0, _, _, rfl, rfl, rfl, Nat.zero_le _, by omega, .inl rfl, rfl⟩
      | some ad =>
        by_cases hc0 : vk = 0
        · subst hc0
          go_wp2
          go_meet
          exact ⟨0, _, _, rfl, rfl, rfl, Nat.zero_le _, by omega, .inl rfl, rfl⟩
        · go_wp2
          go_meet
          exact ⟨0, _, _, rfl, rfl, rfl, Nat.zero_le _, by omega, .inl rfl, rfl⟩
    · obtain ⟨b2, o2, hva, -⟩ := hps_at HL.out (Below.refl _ _) (i := 0) (by omega)
      subst hva
      have hc0 : ¬ vk = 0 := by omega
      by_cases h12 : l.length ≤ 60
      · have h12' : (l.length : Int) ≤ 60 := by omega
        have hcl : (l.length : Int) ≤ vk := by omega
        go_wp2
        go_meet
        exact ⟨l.length, _, _, rfl, rfl, rfl, Nat.le_refl _, h12, .inr rfl, rfl⟩
      · have h12' : ¬ (l.length : Int) ≤ 60 := by omega
        have h12'' : (60 : Int) < l.length := by omega
        have hcl : (60 : Int) ≤ vk := by omega
        go_wp2
        go_meet
        exact ⟨60, _, _, rfl, rfl, rfl, by omega, Nat.le_refl _, .inr rfl, rfl⟩
  case rest =>
    obtain ⟨q, b9, c9, rfl, rfl, rfl, hq, hq60, hqb, rfl⟩ := hcut
    obtain ⟨wA, rfl⟩ : ∃ wA, wA = wc := ⟨wc, rfl⟩
    obtain ⟨P, hPdef⟩ : ∃ P : Mc → Prop, P = fun k => k.b.cache = [] := ⟨_, rfl⟩
    have HI : Hid (LpI P w.heap.size w wA) := ⟨⟨_, _, X0, M0, by rw [hPdef]; rfl⟩, B2.out⟩
    clear X0 M0 B2 HCM
    go_wp2
    go_loopw [6, 7, 8, 9, 10, 11, 12, 14, 31] (fun _ _ _ _ _ _ _ _ s wx => ∃ i : Nat, s = J i ∧ i ≤ q ∧ LpI P w.heap.size w wx) (fun _ _ _ _ _ _ _ _ s _ => q - (intOf s).toNat)
    case atStart => exact ⟨0, rfl, Nat.zero_le _, HI.out⟩
    case round =>
      obtain ⟨i, rfl, hiq, hR⟩ := hrel
      obtain ⟨wO, rfl⟩ : ∃ wO, wO = wr := ⟨wr, rfl⟩
      clear HI
      by_cases hlt : i < q
      rotate_left
      · obtain rfl : i = q := by omega
        have HB : Hid (Below w.heap.size w wO) := hR.2
        clear hR
        go_wp2
        go_ret
        exact ⟨rfl, HB.out⟩
      obtain ⟨⟨cs0, now, X0, M0, hP⟩, hbel⟩ := hR
      have HB : Hid (Below w.heap.size w wO) := hbel
      have HP : Hid (now.b.cache = []) := by show _ = _; rw [hPdef] at hP; exact hP
      clear hP hbel
      obtain ⟨hs0, ha0⟩ := M0.size
      obtain ⟨b, o, hva, hbl, hA⟩ := hps_at HL.out HB.out (i := i) (by omega)
      have hb9 : b9 = va := by
        rcases hqb with e | e
        · omega
        · exact e
      subst hb9
      subst hva
      obtain ⟨X, hX⟩ : ∃ X, hpth l i = X := ⟨_, rfl⟩
      rw [hX] at hA
      clear hX
      obtain ⟨u, q0, q1, q2, q3, q4, q5, q6, hS⟩ := hA
      have HSd : Hid (Slc wO u X.ds) := hS
      obtain ⟨da, dn, dc, rfl⟩ : ∃ a k c, u = .slice a k c := let ⟨a, c, e, _⟩ := hS.1; ⟨a, _, c, e⟩
      have hlt1 : (i : Int) < (q : Int) := by omega
      clear hS
      have s0 := X0.lt
      have BX : Hid (Below wO.heap.size wO (wO.alloc (.cells #[J X.kind, J X.num, J X.d, J X.a, J X.n, .bool X.wr, .slice da dn dc] 37))) := bel_alloc (Below.refl _ _) _
      have X6 : Box (wO.alloc (.cells #[J X.kind, J X.num, J X.d, J X.a, J X.n, .bool X.wr, .slice da dn dc] 37)) wO.heap.size 37 #[J X.kind, J X.num, J X.d, J X.a, J X.n, .bool X.wr, .slice da dn dc] := Box.newAt rfl _ _
      go_wp2_with fail
      refine (short_any ⟨HSd.out.1.keep BX.out, HSd.out.2⟩).mono ?_
      rintro e w3 ⟨ua, un, uc, rfl, hsu, b3⟩
      have HSU : Hid (∀ w0, Sl w0 (.slice da dn dc) X.ds → Sl w0 (.slice ua un uc) (shD X.a X.n X.wr X.ds)) := hsu
      have X6 := X6.keep b3
      obtain ⟨n6, hn6⟩ : ∃ n, wO.heap.size = n := ⟨_, rfl⟩
      rw [hn6] at X6
      obtain ⟨⟨k0, k1, k2, k3, k4, k5, k6⟩, sH⟩ := X6.seven
      have mk := X6.marksOf
      have B3 : Hid (Below wO.heap.size wO (((((w3.setCell ⟨n6, 2, none⟩ (J X.d)).setCell ⟨n6, 3, none⟩ (J X.a)).setCell ⟨n6, 4, none⟩ (J (shN X.a X.n))).setCell ⟨n6, 5, none⟩ (.bool X.wr)).setCell ⟨n6, 6, none⟩ (.slice ua un uc))) := bel_fiveOn (by omega) (bel_trans BX.out b3) _ _ _ _ _
      have Y6 : Box (((((w3.setCell ⟨n6, 2, none⟩ (J X.d)).setCell ⟨n6, 3, none⟩ (J X.a)).setCell ⟨n6, 4, none⟩ (J (shN X.a X.n))).setCell ⟨n6, 5, none⟩ (.bool X.wr)).setCell ⟨n6, 6, none⟩ (.slice ua un uc)) n6 37 #[J X.kind, J X.num, J X.d, J X.a, J (shN X.a X.n), .bool X.wr, .slice ua un uc] := X6.fiveOn _ _ _ _ _
      have X0 := X0.keep B3.out
      rw [hn6]
      go_upto_region 8 with fail
      clear hsu b3 BX k0 k1 k2 k3 k4 k5 k6 sH mk X6 q0 q1 q2 q3 q4 q5 q6
      have X6 := Y6
      clear Y6
      generalize (((((w3.setCell ⟨n6, 2, none⟩ (J X.d)).setCell ⟨n6, 3, none⟩ (J X.a)).setCell ⟨n6, 4, none⟩ (J (shN X.a X.n))).setCell ⟨n6, 5, none⟩ (.bool X.wr)).setCell ⟨n6, 6, none⟩ (.slice ua un uc)) = v3 at *
      go_wp2_with (first
        | fail
        | (refine wpList_load_row rfl 33 (.tmp 2) rfl w.heap.size rfl _ _ _ _ X0 Tryz.underlying33 rfl (by rw [infoM, hs0]) ?_)
        | (refine wpList_load_row rfl 37 (.tmp 6) rfl n6 rfl _ _ _ _ X6 Tryz.underlying37 rfl (by rw [infoH]; rfl) ?_))
      refine (mDo_row (m := now) (x := shX X) (M0.keep B3.out) ⟨_, _, _, rfl, HSU.out _ (HSd.out.1.keep B3.out)⟩).mono ?_
      rintro e w4 ⟨cs1, cs2, rfl, hM, hT, o1, o2, b4⟩
      have X6 := X6.keep b4
      have B4 : Hid (Below wO.heap.size wO w4) := bel_trans B3.out b4
      have z6 : n6 < w4.heap.size := X6.lt
      obtain ⟨hs1, ha1⟩ := hM.size
      obtain ⟨⟨Y, T⟩, hYT⟩ : ∃ R, hpR now (shX X) = R := ⟨_, rfl⟩
      have HYT : Hid (hpR now (shX X) = (Y, T)) := hYT
      rw [hYT] at hM hT
      obtain ⟨a4, n4, c4, a5, n5, c5, rfl, hd4, ht5⟩ := hT
      dsimp only at hM ht5
      obtain ⟨E, hE⟩ : ∃ E, hpE now (shX X) = E := ⟨_, rfl⟩
      have HEE : Hid (hpE now (shX X) = E) := hE
      rw [hE]
      have b3s := B3.out.size
      have b4s := b4.size
      clear hE hYT hd4
      obtain ⟨n7, hn7⟩ : ∃ n, w4.heap.size = n := ⟨_, rfl⟩
      obtain ⟨n8, hn8⟩ : ∃ n, n7 + 1 = n := ⟨_, rfl⟩
      have Z7 : Box ((w4.alloc (.cells #[.slice none 0 0, J 0, .slice none 0 0, .bool false, J 0, J 0, .slice none 0 0, J 0, J 0, J 0, .bool false, J 0, J 0, J 0, J 0, .bool false] 33)).alloc (.cells #[.bool false, .slice none 0 0, J 0, .slice none 0 0] 40)) n7 33 zeroM := (Box.newAt hn7.symm _ _).past _
      have X8 : Box ((w4.alloc (.cells #[.slice none 0 0, J 0, .slice none 0 0, .bool false, J 0, J 0, .slice none 0 0, J 0, J 0, J 0, .bool false, J 0, J 0, J 0, J 0, .bool false] 33)).alloc (.cells #[.bool false, .slice none 0 0, J 0, .slice none 0 0] 40)) n8 40 zeroT := Box.newAt (by simp; omega) _ _
      have h78 : n7 ≠ n8 := by omega
      have K5 : Below w4.heap.size w4 ((((w4.alloc (.cells #[.slice none 0 0, J 0, .slice none 0 0, .bool false, J 0, J 0, .slice none 0 0, J 0, J 0, J 0, .bool false, J 0, J 0, J 0, J 0, .bool false] 33)).alloc (.cells #[.bool false, .slice none 0 0, J 0, .slice none 0 0] 40)).setRow n7 cs1).setRow n8 #[.bool T.done, .slice a4 n4 c4, J T.f, .slice a5 n5 c5]) := bel_setRow (by omega) (bel_setRow (by omega) (bel_alloc (bel_alloc (Below.refl _ _) _) _) _) _
      have X0 := (X0.keep b4).keep K5
      have X6 := X6.keep K5
      have B5 : Hid (Below wO.heap.size wO ((((w4.alloc (.cells #[.slice none 0 0, J 0, .slice none 0 0, .bool false, J 0, J 0, .slice none 0 0, J 0, J 0, J 0, .bool false, J 0, J 0, J 0, J 0, .bool false] 33)).alloc (.cells #[.bool false, .slice none 0 0, J 0, .slice none 0 0] 40)).setRow n7 cs1).setRow n8 #[.bool T.done, .slice a4 n4 c4, J T.f, .slice a5 n5 c5])) := bel_trans B4.out K5
      have hM := hM.keep K5
      have ht5 := ht5.keep K5
      have M0 := M0.keep B5.out
      have Z8 := X8.otherRow h78.symm cs1
      have X7 := (Z7.setRow cs1).otherRow h78 #[.bool T.done, .slice a4 n4 c4, J T.f, .slice a5 n5 c5]
      have X8 := Z8.setRow #[.bool T.done, .slice a4 n4 c4, J T.f, .slice a5 n5 c5]
      have o1 := o1.less (a := fun q => q ≤ w.heap.size) (fun q hq => by
        have hq' : q ≤ w.heap.size := hq
        show q < v3.heap.size
        omega)
      have z07 : w.heap.size < n7 := by omega
      have z06 : w.heap.size < n6 := by omega
      clear K5 b4
      go_upto_region 9 with (first
        | fail
        | (refine wpList_store_row rfl 33 (.tmp 7) (.tmp 43) rfl n7 cs1 rfl rfl _ _ Z7 (by rw [infoM, hs1]) (by rw [hs1]; rfl) ha1 ?_)
        | (refine wpList_store_row rfl 40 (.tmp 8) (.tmp 44) rfl n8 _ rfl rfl _ _ Z8 (by rw [infoTo]; rfl) rfl (by simp [Value.oneCell']) ?_))
      clear Z7 Z8 hn7 hn8 B4 B3 HSU HSd hn6 b3s b4s
      generalize ((((w4.alloc (.cells #[.slice none 0 0, J 0, .slice none 0 0, .bool false, J 0, J 0, .slice none 0 0, J 0, J 0, J 0, .bool false, J 0, J 0, J 0, J 0, .bool false] 33)).alloc (.cells #[.bool false, .slice none 0 0, J 0, .slice none 0 0] 40)).setRow n7 cs1).setRow n8 #[.bool T.done, .slice a4 n4 c4, J T.f, .slice a5 n5 c5]) = w5 at *
      have HBF : Hid (Below w.heap.size w w5) := bel_trans HB.out B5.out
      clear HB B5
      by_cases h0 : E = 0
      rotate_left
      · have q : (E != 0) = true := by simpa using h0
        have HI : Hid (LpI P w.heap.size w w5) := ⟨⟨cs0, now, X0, M0, by rw [hPdef]; exact HP.out⟩, HBF.out⟩
        clear h0 X0 X6 X7 X8 hM ht5 M0 hs0 ha0 hs1 ha1
        go_wp2_with fail
        exact ⟨⟨i + 1, by go_num, by omega, HI.out⟩, by simp [intOf]; omega⟩
      subst h0
      have q : ((0 : Int) != 0) = false := rfl
      obtain ⟨⟨k0, k1, k2, k3, k4, k5, k6⟩, sH⟩ := X6.seven
      by_cases hk : X.kind = 3
      rotate_left
      · have qk : (X.kind == 3) = false := by simpa using hk
        go_upto_region 20 with fail
        clear k0 k1 k2 k3 k4 k5 k6 sH q qk X6 X8 ht5 M0 ha0
        have K6 : KeptB (fun q => q = w.heap.size) w5 (w5.setRow w.heap.size cs1) := (KeptB.refl (fun q => q = w.heap.size) w5).setRow (n := w.heap.size) (.inl rfl) _
        have hM6 := hM.kept K6 o1 (fun q hq => by omega)
        have Y0 := X0.setRow cs1
        have K7 : KeptB (fun q => q = w.heap.size) (w5.setRow w.heap.size cs1) ((w5.setRow w.heap.size cs1).setCell ⟨w.heap.size, 6, none⟩ (.slice none 0 0)) := (KeptB.refl (fun q => q = w.heap.size) _).setCell (p := ⟨w.heap.size, 6, none⟩) (.inl rfl) _
        have HI : Hid (LpI P w.heap.size w ((w5.setRow w.heap.size cs1).setCell ⟨w.heap.size, 6, none⟩ (.slice none 0 0))) := ⟨⟨_, _, Y0.set 6 (.slice none 0 0), (hM6.kept K7 o1 (fun q hq => by omega)).bare, by rw [hPdef]; rfl⟩, bel_set (p := ⟨w.heap.size, 6, none⟩) (Nat.le_refl _) (bel_setRow (Nat.le_refl _) HBF.out _) _⟩
        obtain ⟨la, ln, lc, hlc⟩ := hM6.lines
        have x6 : (w5.setRow w.heap.size cs1).cell? ⟨w.heap.size, 6, none⟩ = some (.slice la ln lc) := (Y0.cell 6).trans hlc
        have mk := Y0.marksOf
        have sY := Y0.lt
        have hsz : _ = cs1.size := hs0.trans hs1.symm
        clear hM6 Y0 K6 K7 hM hlc HBF
        go_wp2_with (first
          | fail
          | (refine wpList_load_row rfl 33 (.tmp 7) rfl n7 rfl _ _ _ _ X7 Tryz.underlying33 rfl (by rw [infoM, hs1]) ?_)
          | (refine wpList_store_row rfl 33 (.tmp 2) (.tmp 91) rfl (w.heap.size) cs1 rfl rfl _ _ X0 (by rw [infoM, hs1]) hsz ha1 ?_))
        exact ⟨⟨i + 1, by go_num, by omega, HI.out⟩, by simp [intOf]; omega⟩
      obtain ⟨c', k, hth, hg, hk1, ha8, hd1, hf1, hft, -, htc⟩ := hp_short HEE.out HYT.out hk
      have HTC : Hid (∀ u ∈ T.tch, u.1 = X.d ∧ u.2.1 / 8 = X.a / 8 ∧ u.2.2.2.1 = X.wr ∧ u.2.2.1 / 8 = k ∧ ckT u = 0) := htc
      have qk : (X.kind == 3) = true := by simpa using hk
      have hR2 : thR now.zs now.b X.d (X.a / 8) X.wr = (c', k, T.f) := by rw [thR, if_pos hth, hg]
      obtain ⟨zs, ⟨p, r, dn⟩, ⟨mo, ba, lc0, op, oh, ot, st, fe, fp, fh, ft, lo⟩⟩ := now
      obtain rfl : lc0 = [] := HP.out
      have HE0 : Hid (thE zs ⟨mo, ba, [], op, oh, ot, st, fe, fp, fh, ft, lo⟩ X.d (X.a / 8) = 0) := hth
      have HR0 : Hid (thR zs ⟨mo, ba, [], op, oh, ot, st, fe, fp, fh, ft, lo⟩ X.d (X.a / 8) X.wr = (c', k, T.f)) := hR2
      obtain ⟨a1, n1, c1, a2, n2, c2, a3, n3, c3, rfl, h1, h2, h3⟩ := M0
      dsimp only at h1 h2 h3 X0
      have H1 : Hid (Sl w5 (.slice a1 n1 c1) zs) := h1
      have H3 : Hid (Ls w5 (.slice a3 n3 c3) []) := h3
      obtain ⟨ha81, ha82⟩ := ha8
      have he8 : X.a.tdiv 8 = X.a / 8 := Int.tdiv_eq_ediv_of_nonneg ha81
      obtain ⟨td, tdat, tf, ttch⟩ := T
      dsimp only at X8 ht5 HTC HR0 hf1
      clear hth hg hk1 hd1 hft htc hR2 h1 h2 h3 ha0 HEE HYT HP hf1
      obtain ⟨z0, z1, z2, z3, -, -, -, -, s8⟩ := X8.four
      obtain ⟨⟨i0, i1, i2, i3⟩, ⟨j0, j1, j2, j3, j4, j5, j6, j7, j8, j9, j10, j11⟩, s0⟩ := X0.sixteen
      go_wp2_with fail
      refine (plain_at H1.out H3.out HE0.out HR0.out).mono ?_
      rintro e w6 ⟨rfl, b6⟩
      clear k0 k1 k2 k3 k4 k5 k6 sH z0 z1 z2 z3 s8 i0 i1 i2 i3 j0 j1 j2 j3 j4 j5 j6 j7 j8 j9 j10 j11 s0 X6 HE0 HR0 H1 H3
      have X0 := X0.keep b6
      have X7 := X7.keep b6
      have X8 := X8.keep b6
      have hM := hM.keep b6
      have ht5 := ht5.keep b6
      have HBF : Hid (Below w.heap.size w w6) := bel_trans HBF.out b6
      have HT5 : Hid (Ts w6 (.slice a5 n5 c5) ttch) := ht5
      have hn5 : n5 = ttch.length := by obtain ⟨_, _, e, _⟩ := ht5; simp only [Value.slice.injEq] at e; exact e.2.1
      have htl : ttch.length ≤ maxLen := by obtain ⟨_, _, _, e1, e2, _⟩ := ht5; omega
      unfold maxLen at htl
      subst hn5
      clear b6 ht5 qk hk
      obtain ⟨z0, z1, z2, z3, -, -, -, -, s8⟩ := X8.four
      go_wp2_with fail
      clear z0 z1 z2 z3 s8 X8
      go_loopw [14, 81] (fun _ s wx => ∃ j : Nat, s = J j ∧ j ≤ ttch.length ∧ Below w6.heap.size w6 wx) (fun _ s _ => ttch.length - (intOf s).toNat)
      case atStart => exact ⟨0, rfl, Nat.zero_le _, Below.refl _ _⟩
      case round =>
        obtain ⟨j, rfl, hj, hb⟩ := hrel
        have HJ : Hid (Below w6.heap.size w6 wr) := hb
        clear hb
        by_cases hlt2 : j < ttch.length
        rotate_left
        · obtain rfl : j = ttch.length := by omega
          have X0 := X0.keep HJ.out
          have X7 := X7.keep HJ.out
          have hM := hM.keep HJ.out
          have HBF : Hid (Below w.heap.size w wr) := bel_trans HBF.out HJ.out
          clear HJ HTC HT5
          go_upto_region 20 with fail
          have K6 : KeptB (fun q => q = w.heap.size) wr (wr.setRow w.heap.size cs1) := (KeptB.refl (fun q => q = w.heap.size) wr).setRow (n := w.heap.size) (.inl rfl) _
          have hM6 := hM.kept K6 o1 (fun q hq => by omega)
          have Y0 := X0.setRow cs1
          have K7 : KeptB (fun q => q = w.heap.size) (wr.setRow w.heap.size cs1) ((wr.setRow w.heap.size cs1).setCell ⟨w.heap.size, 6, none⟩ (.slice none 0 0)) := (KeptB.refl (fun q => q = w.heap.size) _).setCell (p := ⟨w.heap.size, 6, none⟩) (.inl rfl) _
          have HI : Hid (LpI P w.heap.size w ((wr.setRow w.heap.size cs1).setCell ⟨w.heap.size, 6, none⟩ (.slice none 0 0))) := ⟨⟨_, _, Y0.set 6 (.slice none 0 0), (hM6.kept K7 o1 (fun q hq => by omega)).bare, by rw [hPdef]; rfl⟩, bel_set (p := ⟨w.heap.size, 6, none⟩) (Nat.le_refl _) (bel_setRow (Nat.le_refl _) HBF.out _) _⟩
          obtain ⟨la, ln, lc, hlc⟩ := hM6.lines
          have x6 : (wr.setRow w.heap.size cs1).cell? ⟨w.heap.size, 6, none⟩ = some (.slice la ln lc) := (Y0.cell 6).trans hlc
          have mk := Y0.marksOf
          have sY := Y0.lt
          have hsz : _ = cs1.size := hs0.trans hs1.symm
          clear hM6 Y0 K6 K7 hM hlc HBF
          go_wp2_with (first
            | fail
            | (refine wpList_load_row rfl 33 (.tmp 7) rfl n7 rfl _ _ _ _ X7 Tryz.underlying33 rfl (by rw [infoM, hs1]) ?_)
            | (refine wpList_store_row rfl 33 (.tmp 2) (.tmp 91) rfl (w.heap.size) cs1 rfl rfl _ _ X0 (by rw [infoM, hs1]) hsz ha1 ?_))
          exact ⟨⟨i + 1, by go_num, by omega, HI.out⟩, by simp [intOf]; omega⟩
        obtain ⟨b2, o2, hva, hbl2, t0, t1, t2, t3, t4⟩ := ts_at HT5.out HJ.out hlt2
        subst hva
        obtain ⟨-, -, -, e4, e5⟩ := HTC.out (tth ttch j) (by rw [tth_get hlt2]; exact List.getElem_mem _)
        obtain ⟨-, -, e6, -, -⟩ := ckT_ok e5
        obtain ⟨u, hu⟩ : ∃ u, tth ttch j = u := ⟨_, rfl⟩
        rw [hu] at t0 t1 t2 t3 t4 e4 e6
        obtain ⟨e61, e62⟩ := e6
        have e7 : (u.2.2.1 / 8 != k) = false := by simp [e4]
        clear hu e4 e5
        have hlt3 : (j : Int) < (ttch.length : Int) := by omega
        go_wp2_with fail
        exact ⟨⟨j + 1, by go_num, by omega, bel_alloc HJ.out _⟩, by simp [intOf]; omega⟩
theorem mplain_walk (u : Value) (zs : List Int) (p : Int) (v : Value) (r : List Int) (d : Bool) (mo ba op oh ot fe fp fh ft : Int) (st lo : Bool) (vc : Value) (l : List Ln) (v1 : Value) (l1 : List Hp) (w : World) (hm : Sl w u zs ∧ Sl w v r ∧ Ls w vc l) (hl : Hps w v1 l1) :
    Calls Tryz.prog 7 #[.agg #[u, J p, v, .bool d, J mo, J ba, vc, J op, J oh, J ot, .bool st, J fe, J fp, J fh, J ft, .bool lo], v1] w fun e w' => e = .returned (.bool true) ∧ Below w.heap.size w w' := mplain_row (isM_any hm) hl
end Go.Proofs.YthlhocneggcekaaGreat
namespace Go.Proofs.YthlhocneggcekaaGreat
open Go.ChangeShapes Go.WideShapes Go.ChangeAt Go.RowKit
theorem law_own : ownKnob Tryz.prog.godebug = none := by kernel_rfl
theorem law_laidOut : laidOutB Tryz.prog = true := by kernel_rfl
section
variable {H : Type} {enc : TypeId × Value → H} {W : World}
end
end Go.Proofs.YthlhocneggcekaaGreat
namespace Go.Proofs.YthlhocneggcekaaGreat
open Go.ChangeShapes Go.WideShapes Go.ChangeAt Go.RowKit
set_option linter.unusedVariables false
set_option maxRecDepth 100000 in
theorem mplain_lifted (os : Os) (started : os.Started) (H : Type) (enc : TypeId × Value → H) :
    ReturnsInHanded {} Tryz.checked os 7 .any (Rows.machinePlainSpec.pre6 enc Tryz.prog Tryz.f7 Rows.machinePlainRow.domain false) (Rows.machinePlainSpec.post enc Tryz.prog Tryz.f7 false true false false) := by
  refine returnsInHanded_of_change (C := Tryz.checked) law_own started (by kernel_rfl) Tryz.func7
    (ChangeSpec.witness6 (enc := enc) (C := Tryz.checked) false ⟨#[], #[.agg #[.slice none 0 0, J 0, .slice none 0 0, .bool false, J 0, J 0, .slice none 0 0, J 0, J 0, J 0, .bool false, J 0, J 0, J 0, J 0, .bool false], .slice none 0 0], []⟩ 8 (by kernel_rfl) (by kernel_rfl) (by kernel_rfl) (by kernel_rfl)) ?_
  intro W base args ds gs before hval0 hW hcnd _
  have hval : ∀ (j : Nat) t v, Tryz.f7.params[j]? = some t → args[j]? = some v → Value.okWide Tryz.prog W .any base t v := hval0
  have hW' := hW
  obtain ⟨p, q, hA0, hV, rfl, hfz, hnd⟩ := hW
  have hA : DataW.TrodAll enc Tryz.prog W 0 (fun _ => true) true Tryz.f7.params.toList args.toList ds p := hA0
  rw [Tryz.params7] at hA hval
  obtain ⟨v0, vs0, d0, ds0, p0, q0, hargs, rfl, rfl, h0, r0⟩ := trodAll_cons hA
  obtain ⟨v1, vs1, d1, ds1, p1, q1, rfl, rfl, rfl, h1, r1⟩ := trodAll_cons r0
  obtain ⟨rfl, rfl, rfl⟩ := trodAll_nil r1
  obtain rfl : args = #[v0, v1] := by cases args; simp_all
  obtain ⟨rfl, rfl⟩ := trodVars_none hV
  have k0 := h0
  have lt0 : ∀ x ∈ p0, x.block < W.heap.size := by obtain ⟨m, hm⟩ := k0; exact DataW.trod_lt m _ _ _ hm
  have k1 := h1
  have lt1 : ∀ x ∈ p1, x.block < W.heap.size := by obtain ⟨m, hm⟩ := k1; exact DataW.trod_lt m _ _ _ hm
  obtain ⟨u0, zs0, x0, y0, g0, f0, mo0, ba0, op0, oh0, ot0, fe0, fp0, fh0, ft0, st0, lo0, vc0, l0, rfl, s0⟩ := open_mch (hval 0 33 v0 rfl rfl) h0
  obtain ⟨l1, s1⟩ := open_hps (hval 1 56 v1 rfl rfl) h1
  clear hA0 hval0
  refine (mplain_walk u0 zs0 x0 y0 g0 f0 mo0 ba0 op0 oh0 ot0 fe0 fp0 fh0 ft0 st0 lo0 vc0 l0 v1 l1 W s0 s1).mono fun e W' ⟨he, bel⟩ => ?_
  subst he
  exact ⟨_, rfl, _, _, _, [], _, [], hW', trodAll_mk1 (shut_bool Tryz.underlying4 _), (trodAll_cons_mk (Below.trod law_laidOut (by kernel_rfl) (of_decide_eq_true (by kernel_rfl)) k0 bel lt0) (trodAll_cons_mk (Below.trod law_laidOut (by kernel_rfl) (of_decide_eq_true (by kernel_rfl)) k1 bel lt1) trodAll_mk0)), rfl, bel.frame _, fun h => by cases h⟩
theorem mplain_over : Rows.machinePlainRow.holds Tryz.pinned (OpenSpec.ofChange Rows.machinePlainSpec) :=
  OpenClaim.holds_of_wide 7 Tryz.f7 rfl rfl rfl rfl rfl rfl rfl ⟨rfl, rfl, rfl, rfl, rfl⟩ rfl rfl rfl rfl rfl (by kernel_rfl) Tryz.func7 (by kernel_rfl)
    (of_decide_eq_true (by kernel_rfl)) (by unfold Func.isWrapper; first | (rw [if_pos (by decide +kernel)]; kernel_rfl) | (rw [if_neg (by decide +kernel)]; exact ⟨rfl, rfl⟩))
    (fun os started H enc _ => mplain_lifted os started H enc)
theorem mplain_holds : Rows.MachinePlainSaid := mplain_over
#print axioms mplain_holds
end Go.Proofs.YthlhocneggcekaaGreat
