/-
  Laid together: BridgeMath, DmaMath, MRow, PageMath, Short, AuditMath, ShortMath, MPlainB, FairMath, Ms, AuditB, AuditR, Audit1.
-/
import Derived.Test.YthlhocneggcekaaGreatB1
import Derived.Test.YthlhocneggcekaaGreatB2
import Derived.Test.YthlhocneggcekaaGreatB3
import Derived.Test.YthlhocneggcekaaGreatB4
import Derived.Test.YthlhocneggcekaaGreatB5
import Derived.Test.YthlhocneggcekaaGreatB6
import Derived.Test.YthlhocneggcekaaGreatB7
import Derived.Test.YthlhocneggcekaaGreatB8
import Derived.Test.YthlhocneggcekaaGreatB9
import Derived.Test.YthlhocneggcekaaGreatB10
import Derived.Test.YthlhocneggcekaaGreatB11
import Derived.Test.YthlhocneggcekaaGreatB12
import Derived.Test.YthlhocneggcekaaGreatB13
import Derived.Test.YthlhocneggcekaaGreatB14
import Derived.Test.YthlhocneggcekaaGreatB15
import Derived.Test.YthlhocneggcekaaGreatB16
import Derived.Test.YthlhocneggcekaaGreatB17
import Derived.Test.YthlhocneggcekaaGreatB18
import Derived.Test.YthlhocneggcekaaGreatB19
import Derived.Test.YthlhocneggcekaaGreatB20
import Derived.Test.YthlhocneggcekaaGreatB21
import Derived.Test.YthlhocneggcekaaGreatB22
import Derived.Test.YthlhocneggcekaaGreatB23
import Derived.Test.YthlhocneggcekaaGreatB24
import Derived.Test.YthlhocneggcekaaGreatB25
import Derived.Test.YthlhocneggcekaaGreatB26
import Derived.Test.YthlhocneggcekaaGreatB27
import Derived.Test.YthlhocneggcekaaGreatB28
import Derived.Test.YthlhocneggcekaaGreatB29
import Derived.Test.YthlhocneggcekaaGreatB30
import Derived.Test.YthlhocneggcekaaGreatB31
import Derived.Test.YthlhocneggcekaaGreatB32
import Derived.Test.YthlhocneggcekaaGreatB33
import Derived.Test.YthlhocneggcekaaGreatB34
import Derived.Test.YthlhocneggcekaaGreatB35
import Derived.Test.YthlhocneggcekaaGreatB36
import Derived.Test.YthlhocneggcekaaGreatB37
import Derived.Test.YthlhocneggcekaaGreatB38
import Derived.Test.YthlhocneggcekaaGreatB39
import Derived.Test.YthlhocneggcekaaGreatB40
import Derived.Test.YthlhocneggcekaaGreatB41
import Derived.Test.YthlhocneggcekaaGreatB42
import Derived.Test.YthlhocneggcekaaGreatB43
import Derived.Test.YthlhocneggcekaaGreatB44
namespace Go.Proofs.YthlhocneggcekaaGreat
open Go.RowKit
theorem chkC_nil : chkC [] = 0 := by decide
theorem tth_get {l : List Tc} {i : Nat} (h : i < l.length) : tth l i = l[i] := by simp [tth, h]
theorem wds_b {d : Int} {wr : Bool} {ds : List Int} {o : Nat} {k : Int} : ∀ (j x : Nat) (s : St), (wds d wr ds o k j x s).b = s.b
  | 0, _, _ => rfl
  | j + 1, x, s => by rw [wds, wds_b j]; rfl
section
open Go
variable {P : Program} {ops : Array Oper} {Q : Exit → Act → World → Prop} {md : Region.Mode} {S : World → Prop}
end
theorem IsT.size {w : World} {t : To} {cs : Array Value} (h : IsT w t cs) : cs.size = 4 ∧ cs.all (·.oneCell') = true := by
  obtain ⟨a4, n4, c4, a5, n5, c5, rfl, -⟩ := h; exact ⟨rfl, by simp [Value.oneCell']⟩
theorem wds_tch {d : Int} {wr : Bool} {ds : List Int} {o : Nat} {k : Int} : ∀ (m x : Nat) (s : St) (t : Tc), t ∈ (wds d wr ds o k m x s).tch → t ∈ s.tch ∨ ∃ i v, i < m ∧ t = (d, ((x + i : Nat) : Int), plc k (x + i), wr, v)
  | 0, _, _, _, h => .inl h
  | m + 1, x, s, t, h => by
    rcases wds_tch m (x + 1) (wd d wr ds o k x s) t h with h | ⟨i, v, hi, h⟩
    · have h' : t ∈ s.tch ++ [(d, (x : Int), plc k x, wr, nth (wdM wr ds o k x s.zs) (plc k x).toNat)] := h
      rcases List.mem_append.1 h' with h' | h'
      · exact .inl h'
      · refine .inr ⟨0, _, by omega, List.mem_singleton.1 h'⟩
    · refine .inr ⟨i + 1, v, by omega, ?_⟩
      rw [h, show x + 1 + i = x + (i + 1) by omega]
theorem do_page {zs : List Int} {b c : Br} {d a n f : Int} {wr : Bool} {ds ms dat : List Int} {tch : List Tc} (hE : doE zs b d a n wr ds = 0) (hp : a % 8 + n ≤ 8) (hR : doR zs b d a n wr ds = (⟨ms, c, dat, tch⟩, f)) :
    ∃ c' k, goT zs b d (a / 8) wr = (c', k, f) ∧ (0 ≤ k ∧ k ≤ 63) ∧ (¬ f = 0 → tch = []) ∧ (f = 0 → c = c') ∧ ∀ t ∈ tch, ∃ i v, i < n.toNat ∧ t = (d, a + (i : Int), plc k (a.toNat + i), wr, v) := by
  obtain ⟨hz, hb, hc⟩ := doE_ok hE
  obtain ⟨hn, hd, ha, hln, hal⟩ := ckA_ok hc
  rw [doR, if_pos hE] at hR
  have hpg : ((a.toNat / 8 : Nat) : Int) = a / 8 := by omega
  obtain ⟨⟨c', k, f'⟩, hg⟩ : ∃ R, goT zs b d ((a.toNat / 8 : Nat) : Int) wr = R := ⟨_, rfl⟩
  have hth : thE zs b d ((a.toNat / 8 : Nat) : Int) = 0 := thE_mk hz hb hd (page_in (by omega))
  obtain ⟨g1, g2, g3, g4, l', g5⟩ := goT_good hth hg
  obtain ⟨m, hm⟩ : ∃ m : Nat, n.toNat = m + 1 := ⟨n.toNat - 1, by omega⟩
  by_cases hf : f' = 0
  · subst hf
    have hrun := page_run (d := d) (wr := wr) (ds := ds) (o := a.toNat) (m := n.toNat) (x := a.toNat) (k := 0) (s := ⟨zs, b, [], []⟩) (by omega) (Nat.le_refl _) (.inl rfl) hg
    rw [hR] at hrun
    have hmin : min n.toNat (8 - a.toNat % 8) = n.toNat := Nat.min_eq_left (by omega)
    rw [hmin, Nat.sub_self, runW_zero, Prod.mk.injEq] at hrun
    obtain ⟨hs, rfl⟩ := hrun
    have hbr := wds_b (d := d) (wr := wr) (ds := ds) (o := a.toNat) (k := k) n.toNat a.toNat ⟨zs, c', [], []⟩
    rw [← hs] at hbr
    refine ⟨c', k, by rw [← hpg]; exact hg, g3, fun e => absurd rfl e, fun _ => hbr, fun t ht => ?_⟩
    have ht' : t ∈ (wds d wr ds a.toNat k n.toNat a.toNat ⟨zs, c', [], []⟩).tch := by rw [← hs]; exact ht
    rcases wds_tch _ _ _ t ht' with h | ⟨i, v, hi, h⟩
    · cases h
    · refine ⟨i, v, hi, ?_⟩
      rw [h, show ((a.toNat + i : Nat) : Int) = a + (i : Int) by omega]
  · rw [hm, runW_fault (.inl rfl) hg hf, Prod.mk.injEq] at hR
    obtain ⟨hs, rfl⟩ := hR
    simp only [St.mk.injEq] at hs
    obtain ⟨rfl, rfl, rfl, rfl⟩ := hs
    exact ⟨c', k, by rw [← hpg]; exact hg, g3, fun _ => rfl, fun e => absurd e hf, fun t ht => by cases ht⟩
def shN (a n : Int) : Int := if a < 0 ∨ n < 1 then n else if n ≤ 8 - a % 8 then n else 8 - a % 8
def shD (a n : Int) (f : Bool) (ds : List Int) : List Int := if a < 0 ∨ n < 1 then ds else if f = true then ds.take (shN a n).toNat else ds
def shX (x : Hp) : Hp := ⟨x.kind, x.num, x.d, x.a, shN x.a x.n, x.wr, shD x.a x.n x.wr x.ds⟩
theorem Sl.upto {w : World} {a : Option Addr} {n c : Nat} {zs : List Int} (h : Sl w (.slice a n c) zs) {k : Nat} (hk : k ≤ zs.length) : Sl w (.slice a k c) (zs.take k) := by
  obtain ⟨a', c', e, hm, h⟩ := h
  simp only [Value.slice.injEq] at e
  obtain ⟨rfl, rfl, rfl⟩ := e
  have hl : (zs.take k).length = k := by rw [List.length_take]; omega
  refine ⟨a, c, by rw [hl], by omega, ?_⟩
  rcases h with rfl | ⟨b, o, rfl, hb, hc⟩
  · exact .inl (by simp)
  · refine .inr ⟨b, o, rfl, hb, fun i hi => ?_⟩
    rw [hl] at hi
    rw [show nth (zs.take k) i = nth zs i by simp [nth, hi]]
    exact hc i (by omega)
theorem Sl.empty {w : World} {a : Option Addr} {c : Nat} {zs : List Int} {k : Nat} (hk : k = 0) (hz : zs = []) : Sl w (.slice a k c) zs := by subst hk hz; exact Sl.nil w a c
abbrev ShC (d a n : Int) (f : Bool) (u : Value) (ds : List Int) (w : World) (e : Ending) (w' : World) : Prop :=
  ∃ ua un uc, e = .returned (.agg #[J d, J a, J (shN a n), .bool f, .slice ua un uc]) ∧ (∀ w0, Sl w0 u ds → Sl w0 (.slice ua un uc) (shD a n f ds)) ∧ Below w.heap.size w w'
theorem shC_mk {d a n m : Int} {f : Bool} {u : Value} {ds : List Int} {w w' : World} {ua : Option Addr} {un uc : Nat} (hn : shN a n = m) (h : ∀ w0, Sl w0 u ds → Sl w0 (.slice ua un uc) (shD a n f ds)) (hb : Below w.heap.size w w') : ShC d a n f u ds w (.returned (.agg #[J d, J a, J m, .bool f, .slice ua un uc])) w' :=
  ⟨ua, un, uc, by rw [hn], h, hb⟩
set_option maxRecDepth 10000 in
set_option maxHeartbeats 2000000 in
theorem short_any {d a n : Int} {f : Bool} {u : Value} {ds : List Int} {w : World} (hs : Slc w u ds) :
    Calls Tryz.prog 29 #[.agg #[J d, J a, J n, .bool f, u]] w fun e w' => ShC d a n f u ds w e w' := by
  obtain ⟨hs, va, vk, rfl, hlk, hkm⟩ := hs
  have HS : Hid (Sl w (.slice va ds.length vk) ds) := hs
  unfold maxLen at hkm
  have hlk' : (ds.length : Int) ≤ vk := by omega
  by_cases h0 : a < 0 ∨ n < 1
  · have HN : Hid (shN a n = n) := by show _ = _; rw [shN, if_pos h0]
    have HD : Hid (shD a n f ds = ds) := by show _ = _; rw [shD, if_pos h0]
    have ways : a < 0 ∨ (¬ a < 0 ∧ n < 1) := by omega
    clear h0 hs
    rcases ways with h1 | ⟨h1, h2⟩
    all_goals
      go_enter Tryz.func29, Tryz.ntmps29
      go_wp2
      refine bodyPost_ret (v := .agg #[J d, J a, J (n), .bool f, .slice va ds.length vk]) (by simp [results, Tryz.results29, go_sem, *]) rfl (shC_mk HN.out (fun w0 h0 => by rw [HD.out]; exact h0) ?_)
      (repeat (first | with_reducible exact Below.refl _ _ | with_reducible refine bel_alloc ?_ _ | (with_reducible refine bel_set ?_ ?_ _; (focus (dsimp only; omega)))))
  have h1 : ¬ a < 0 := by omega
  have h2 : ¬ n < 1 := by omega
  have e1 : a.tmod 8 = a % 8 := Int.tmod_eq_emod_of_nonneg (by omega)
  have r1 : 0 ≤ a % 8 := by omega
  have r2 : a % 8 < 8 := by omega
  obtain ⟨rr, hrr⟩ : ∃ r, a % 8 = r := ⟨_, rfl⟩
  rw [hrr] at e1 r1 r2
  have HRR : Hid (a % 8 = rr) := hrr
  clear hrr hs
  by_cases hm : n ≤ 8 - rr
  · have HN : Hid (shN a n = n) := by show _ = _; rw [shN, if_neg h0, HRR.out, if_pos hm]
    cases f with
    | false =>
      have HD : Hid (shD a n false ds = ds) := by show _ = _; rw [shD, if_neg h0]; rfl
      clear h0
      go_enter Tryz.func29, Tryz.ntmps29
      go_wp2
      refine bodyPost_ret (v := .agg #[J d, J a, J (n), .bool false, .slice va ds.length vk]) (by simp [results, Tryz.results29, go_sem, *]) rfl (shC_mk HN.out (fun w0 h0 => by rw [HD.out]; exact h0) ?_)
      (repeat (first | with_reducible exact Below.refl _ _ | with_reducible refine bel_alloc ?_ _ | (with_reducible refine bel_set ?_ ?_ _; (focus (dsimp only; omega)))))
    | true =>
      have HD : Hid (shD a n true ds = ds.take (n).toNat) := by show _ = _; rw [shD, if_neg h0, HN.out]; rfl
      clear h0
      by_cases hl : (ds.length : Int) ≤ n
      · have HT : Hid (shD a n true ds = ds) := by show _ = _; rw [HD.out, List.take_of_length_le (by omega)]
        by_cases hz : ds.length = 0
        · obtain rfl : ds = [] := List.eq_nil_of_length_eq_zero hz
          clear HD hz
          cases va with
          | none =>
            go_enter Tryz.func29, Tryz.ntmps29
            go_wp2
            skip
            refine bodyPost_ret (v := .agg #[J d, J a, J (n), .bool true, .slice none 0 vk]) (by simp [results, Tryz.results29, go_sem, *]) rfl (shC_mk HN.out (fun w0 h0 => Sl.empty rfl HT.out) ?_)
            (repeat (first | with_reducible exact Below.refl _ _ | with_reducible refine bel_alloc ?_ _ | (with_reducible refine bel_set ?_ ?_ _; (focus (dsimp only; omega)))))
          | some ad =>
            by_cases hc0 : vk = 0
            · subst hc0
              go_enter Tryz.func29, Tryz.ntmps29
              go_wp2
              skip
              refine bodyPost_ret (v := .agg #[J d, J a, J (n), .bool true, .slice (some ad) 0 0]) (by simp [results, Tryz.results29, go_sem, *]) rfl (shC_mk HN.out (fun w0 h0 => Sl.empty rfl HT.out) ?_)
              (repeat (first | with_reducible exact Below.refl _ _ | with_reducible refine bel_alloc ?_ _ | (with_reducible refine bel_set ?_ ?_ _; (focus (dsimp only; omega)))))
            · skip
              go_enter Tryz.func29, Tryz.ntmps29
              go_wp2
              skip
              refine bodyPost_ret (v := .agg #[J d, J a, J (n), .bool true, .slice (some ad) 0 vk]) (by simp [results, Tryz.results29, go_sem, *]) rfl (shC_mk HN.out (fun w0 h0 => Sl.empty rfl HT.out) ?_)
              (repeat (first | with_reducible exact Below.refl _ _ | with_reducible refine bel_alloc ?_ _ | (with_reducible refine bel_set ?_ ?_ _; (focus (dsimp only; omega)))))
        · obtain ⟨b, o, hva, -⟩ := HS.out.open (i := 0) (by omega)
          subst hva
          have hc0 : ¬ vk = 0 := by omega
          go_enter Tryz.func29, Tryz.ntmps29
          go_wp2
          refine bodyPost_ret (v := .agg #[J d, J a, J (n), .bool true, .slice (some ⟨b, o, none⟩) ds.length vk]) (by simp [results, Tryz.results29, go_sem, *]) rfl (shC_mk HN.out (fun w0 h0 => by rw [HT.out]; exact h0) ?_)
          (repeat (first | with_reducible exact Below.refl _ _ | with_reducible refine bel_alloc ?_ _ | (with_reducible refine bel_set ?_ ?_ _; (focus (dsimp only; omega)))))
      · obtain ⟨b, o, hva, -⟩ := HS.out.open (i := 0) (by omega)
        subst hva
        have hc0 : ¬ vk = 0 := by omega
        have hl2 : n < (ds.length : Int) := by omega
        have hl3 : n ≤ (vk : Int) := by omega
        have hl4 : 0 ≤ n := by omega
        go_enter Tryz.func29, Tryz.ntmps29
        go_wp2
        refine bodyPost_ret (v := .agg #[J d, J a, J (n), .bool true, .slice (some ⟨b, o, none⟩) (n).toNat vk]) (by simp [results, Tryz.results29, go_sem, *]) rfl (shC_mk HN.out (fun w0 h0 => by rw [HD.out]; exact h0.upto (by omega)) ?_)
        (repeat (first | with_reducible exact Below.refl _ _ | with_reducible refine bel_alloc ?_ _ | (with_reducible refine bel_set ?_ ?_ _; (focus (dsimp only; omega)))))
  · have HN : Hid (shN a n = 8 - rr) := by show _ = _; rw [shN, if_neg h0, HRR.out, if_neg hm]
    have hm2 : 8 - rr < n := by omega
    cases f with
    | false =>
      have HD : Hid (shD a n false ds = ds) := by show _ = _; rw [shD, if_neg h0]; rfl
      clear h0
      go_enter Tryz.func29, Tryz.ntmps29
      go_wp2
      refine bodyPost_ret (v := .agg #[J d, J a, J (8 - rr), .bool false, .slice va ds.length vk]) (by simp [results, Tryz.results29, go_sem, *]) rfl (shC_mk HN.out (fun w0 h0 => by rw [HD.out]; exact h0) ?_)
      (repeat (first | with_reducible exact Below.refl _ _ | with_reducible refine bel_alloc ?_ _ | (with_reducible refine bel_set ?_ ?_ _; (focus (dsimp only; omega)))))
    | true =>
      have HD : Hid (shD a n true ds = ds.take (8 - rr).toNat) := by show _ = _; rw [shD, if_neg h0, HN.out]; rfl
      clear h0
      by_cases hl : (ds.length : Int) ≤ 8 - rr
      · have HT : Hid (shD a n true ds = ds) := by show _ = _; rw [HD.out, List.take_of_length_le (by omega)]
        by_cases hz : ds.length = 0
        · obtain rfl : ds = [] := List.eq_nil_of_length_eq_zero hz
          clear HD hz
          cases va with
          | none =>
            go_enter Tryz.func29, Tryz.ntmps29
            go_wp2
            skip
            refine bodyPost_ret (v := .agg #[J d, J a, J (8 - rr), .bool true, .slice none 0 vk]) (by simp [results, Tryz.results29, go_sem, *]) rfl (shC_mk HN.out (fun w0 h0 => Sl.empty rfl HT.out) ?_)
            (repeat (first | with_reducible exact Below.refl _ _ | with_reducible refine bel_alloc ?_ _ | (with_reducible refine bel_set ?_ ?_ _; (focus (dsimp only; omega)))))
          | some ad =>
            by_cases hc0 : vk = 0
            · subst hc0
              go_enter Tryz.func29, Tryz.ntmps29
              go_wp2
              skip
              refine bodyPost_ret (v := .agg #[J d, J a, J (8 - rr), .bool true, .slice (some ad) 0 0]) (by simp [results, Tryz.results29, go_sem, *]) rfl (shC_mk HN.out (fun w0 h0 => Sl.empty rfl HT.out) ?_)
              (repeat (first | with_reducible exact Below.refl _ _ | with_reducible refine bel_alloc ?_ _ | (with_reducible refine bel_set ?_ ?_ _; (focus (dsimp only; omega)))))
            · skip
              go_enter Tryz.func29, Tryz.ntmps29
              go_wp2
              skip
              refine bodyPost_ret (v := .agg #[J d, J a, J (8 - rr), .bool true, .slice (some ad) 0 vk]) (by simp [results, Tryz.results29, go_sem, *]) rfl (shC_mk HN.out (fun w0 h0 => Sl.empty rfl HT.out) ?_)
              (repeat (first | with_reducible exact Below.refl _ _ | with_reducible refine bel_alloc ?_ _ | (with_reducible refine bel_set ?_ ?_ _; (focus (dsimp only; omega)))))
        · obtain ⟨b, o, hva, -⟩ := HS.out.open (i := 0) (by omega)
          subst hva
          have hc0 : ¬ vk = 0 := by omega
          go_enter Tryz.func29, Tryz.ntmps29
          go_wp2
          refine bodyPost_ret (v := .agg #[J d, J a, J (8 - rr), .bool true, .slice (some ⟨b, o, none⟩) ds.length vk]) (by simp [results, Tryz.results29, go_sem, *]) rfl (shC_mk HN.out (fun w0 h0 => by rw [HT.out]; exact h0) ?_)
          (repeat (first | with_reducible exact Below.refl _ _ | with_reducible refine bel_alloc ?_ _ | (with_reducible refine bel_set ?_ ?_ _; (focus (dsimp only; omega)))))
      · obtain ⟨b, o, hva, -⟩ := HS.out.open (i := 0) (by omega)
        subst hva
        have hc0 : ¬ vk = 0 := by omega
        have hl2 : 8 - rr < (ds.length : Int) := by omega
        have hl3 : 8 - rr ≤ (vk : Int) := by omega
        have hl4 : 0 ≤ 8 - rr := by omega
        go_enter Tryz.func29, Tryz.ntmps29
        go_wp2
        refine bodyPost_ret (v := .agg #[J d, J a, J (8 - rr), .bool true, .slice (some ⟨b, o, none⟩) (8 - rr).toNat vk]) (by simp [results, Tryz.results29, go_sem, *]) rfl (shC_mk HN.out (fun w0 h0 => by rw [HD.out]; exact h0.upto (by omega)) ?_)
        (repeat (first | with_reducible exact Below.refl _ _ | with_reducible refine bel_alloc ?_ _ | (with_reducible refine bel_set ?_ ?_ _; (focus (dsimp only; omega)))))
def mth (l : List Mc) (i : Nat) : Mc := (l[i]?).getD M0
theorem mth_drop {l : List Mc} {i k : Nat} : mth (l.drop k) i = mth l (k + i) := by simp [mth]
def ckT (t : Tc) : Int :=
  if (0 ≤ t.1 ∧ t.1 ≤ 7) ∧ (0 ≤ t.2.1 ∧ t.2.1 ≤ 511) ∧ (0 ≤ t.2.2.1 ∧ t.2.2.1 ≤ 511) then (if 0 ≤ t.2.2.2.2 ∧ t.2.2.2.2 ≤ 65535 then (if t.2.1 % 8 = t.2.2.1 % 8 then 0 else 3) else 2) else 4
theorem ckT_ok {t : Tc} (h : ckT t = 0) : (0 ≤ t.1 ∧ t.1 ≤ 7) ∧ (0 ≤ t.2.1 ∧ t.2.1 ≤ 511) ∧ (0 ≤ t.2.2.1 ∧ t.2.2.1 ≤ 511) ∧ (0 ≤ t.2.2.2.2 ∧ t.2.2.2.2 ≤ 65535) ∧ t.2.1 % 8 = t.2.2.1 % 8 := by
  unfold ckT at h
  by_cases h1 : (0 ≤ t.1 ∧ t.1 ≤ 7) ∧ (0 ≤ t.2.1 ∧ t.2.1 ≤ 511) ∧ (0 ≤ t.2.2.1 ∧ t.2.2.1 ≤ 511)
  · rw [if_pos h1] at h
    by_cases h2 : 0 ≤ t.2.2.2.2 ∧ t.2.2.2.2 ≤ 65535
    · rw [if_pos h2] at h
      by_cases h3 : t.2.1 % 8 = t.2.2.1 % 8
      · exact ⟨h1.1, h1.2.1, h1.2.2, h2, h3⟩
      · rw [if_neg h3] at h; exact absurd h (by decide)
    · rw [if_neg h2] at h; exact absurd h (by decide)
  · rw [if_neg h1] at h; exact absurd h (by decide)
theorem ckT_mk {t : Tc} (h1 : 0 ≤ t.1 ∧ t.1 ≤ 7) (h2 : 0 ≤ t.2.1 ∧ t.2.1 ≤ 511) (h3 : 0 ≤ t.2.2.1 ∧ t.2.2.1 ≤ 511) (h4 : 0 ≤ t.2.2.2.2 ∧ t.2.2.2.2 ≤ 65535) (h5 : t.2.1 % 8 = t.2.2.1 % 8) : ckT t = 0 := by
  rw [ckT, if_pos ⟨h1, h2, h3⟩, if_pos h4, if_pos h5]
def lets (m : Mc) (t : Tc) : Bool := decide ((goT m.zs (m.b.with []) t.1 (t.2.1 / 8) t.2.2.2.1).2.2 = 0 ∧ (goT m.zs (m.b.with []) t.1 (t.2.1 / 8) t.2.2.2.1).2.1 = t.2.2.1 / 8)
def mcE : List Mc → Int
  | [] => 0
  | m :: l => if chkM m = 0 then mcE l else chkM m
theorem mcE_zero : ∀ {l : List Mc}, mcE l = 0 → ∀ i, i < l.length → chkM (mth l i) = 0
  | [], _, i, hi => absurd hi (Nat.not_lt_zero _)
  | m :: l, h, i, hi => by
    unfold mcE at h
    by_cases e : chkM m = 0
    · rw [if_pos e] at h
      cases i with
      | zero => exact e
      | succ i => exact mcE_zero h i (by simpa using hi)
    · rw [if_neg e] at h; exact absurd h e
theorem mcE_mk : ∀ {l : List Mc}, (∀ i, i < l.length → chkM (mth l i) = 0) → mcE l = 0
  | [], _ => rfl
  | m :: l, h => by
    rw [mcE, if_pos (show chkM m = 0 from h 0 (by simp))]
    exact mcE_mk fun i hi => h (i + 1) (by simpa using hi)
theorem mcE_bad : ∀ {l : List Mc} {i : Nat}, (∀ j, j < i → chkM (mth l j) = 0) → i < l.length → ¬ chkM (mth l i) = 0 → mcE l = chkM (mth l i)
  | [], _, _, hi, _ => absurd hi (Nat.not_lt_zero _)
  | m :: l, 0, _, _, hn => by rw [mcE, if_neg (show ¬ chkM m = 0 from hn)]; rfl
  | m :: l, i + 1, h, hi, hn => by
    rw [mcE, if_pos (show chkM m = 0 from h 0 (by omega))]
    exact mcE_bad (fun j hj => h (j + 1) (by omega)) (by simpa using hi) hn
def frE (l : List Mc) (t : Tc) : Int := if l.length ≤ 121 then (if mcE l = 0 then ckT t else mcE l) else 1
theorem frE_mk {l : List Mc} {t : Tc} (h1 : l.length ≤ 121) (h2 : mcE l = 0) (h3 : ckT t = 0) : frE l t = 0 := by rw [frE, if_pos h1, if_pos h2, h3]
def IsLast (l : List Mc) (t : Tc) (k : Int) : Prop := (-1 ≤ k ∧ k < l.length) ∧ (0 ≤ k → lets (mth l k.toNat) t = true) ∧ ∀ j : Nat, k < j → j < l.length → lets (mth l j) t = false
theorem IsLast.one {l : List Mc} {t : Tc} {a b : Int} (h : IsLast l t a) (k : IsLast l t b) : a = b := by
  obtain ⟨h1, h2, h3⟩ := h
  obtain ⟨k1, k2, k3⟩ := k
  rcases Int.lt_trichotomy a b with e | e | e
  · have q := h3 b.toNat (by omega) (by omega)
    rw [k2 (by omega)] at q
    exact absurd q (by decide)
  · exact e
  · have q := k3 a.toNat (by omega) (by omega)
    rw [h2 (by omega)] at q
    exact absurd q (by decide)
theorem thE_lets {m : Mc} {t : Tc} (hm : chkM m = 0) (ht : ckT t = 0) : thE m.zs (m.b.with []) t.1 (t.2.1 / 8) = 0 := by
  obtain ⟨h1, h2, h3⟩ := chkM_ok hm
  obtain ⟨k1, k2, k3, k4, k5⟩ := ckT_ok ht
  exact thE_mk h1 (chkB_with h3 chkC_nil) k1 (by omega)
theorem nth_set_word {zs : List Int} {i j : Nat} {z : Int} (h : wordB (nth zs j) = true) (hz : wordB z = true) : wordB (nth (zs.set i z) j) = true := by
  by_cases e : i = j
  · subst e
    by_cases hl : i < zs.length
    · have : nth (zs.set i z) i = z := by simp [nth, hl]
      rw [this]; exact hz
    · rw [List.set_eq_of_length_le (by omega)]; exact h
  · have : nth (zs.set i z) j = nth zs j := by simp [nth, e]
    rw [this]; exact h
theorem rep_word {zs ds : List Int} {T : List Tc} {i : Nat} (hz : wordB (nth zs i) = true) : ∀ k, (∀ j, j < k → (tth T j).2.2.2.1 = true → wordB (nth ds j) = true) → wordB (nth (rep zs ds T k) i) = true
  | 0, _ => hz
  | k + 1, h => by
    have ih := rep_word hz k (fun j hj => h j (by omega))
    unfold rep
    split
    · next e => exact nth_set_word ih (h k (by omega) e)
    · exact ih
theorem do_words {zs : List Int} {b c : Br} {d a n f : Int} {fw : Bool} {ds ms dat : List Int} {tch : List Tc} (hE : doE zs b d a n fw ds = 0) (hR : doR zs b d a n fw ds = (⟨ms, c, dat, tch⟩, f)) {u : Tc} (hu : u ∈ tch) : wordB u.2.2.2.2 = true := by
  obtain ⟨hz, hb, hc⟩ := doE_ok hE
  obtain ⟨hn, hd, ha, hln, hal⟩ := ckA_ok hc
  obtain ⟨-, -, -, -, -, -, -, g, gl, -⟩ := do_held hE hR
  obtain ⟨j, hj, e⟩ := List.getElem_of_mem hu
  obtain ⟨p, hp, ht⟩ := g j hj
  rw [tth_get hj, e] at ht
  rw [ht]
  refine rep_word ((chk_ok hz).2 _ (by omega)) (j + 1) (fun i hi hw => ?_)
  obtain ⟨p', -, ht'⟩ := g i (by omega)
  rw [ht'] at hw
  exact all_nth hal (by have := gl hw; omega)
theorem hp_short {m y : Mc} {x : Hp} {t : To} (h : hpE m (shX x) = 0) (hr : hpR m (shX x) = (y, t)) (hk : x.kind = 3) :
    ∃ c k, thE m.zs m.b x.d (x.a / 8) = 0 ∧ goT m.zs m.b x.d (x.a / 8) x.wr = (c, k, t.f) ∧ (0 ≤ k ∧ k ≤ 63) ∧ (0 ≤ x.a ∧ x.a ≤ 511) ∧ (0 ≤ x.d ∧ x.d ≤ 7) ∧ (0 ≤ t.f ∧ t.f ≤ 5) ∧ (¬ t.f = 0 → t.tch = []) ∧ (t.f = 0 → y.b = c) ∧
      ∀ u ∈ t.tch, u.1 = x.d ∧ u.2.1 / 8 = x.a / 8 ∧ u.2.2.2.1 = x.wr ∧ u.2.2.1 / 8 = k ∧ ckT u = 0 := by
  have hk' : (shX x).kind = 3 := hk
  rw [hpR, if_pos h, hpG, if_neg (by omega), if_neg (by omega), if_pos hk'] at hr
  have hcm : chkM m = 0 := by
    unfold hpE at h
    by_cases hc : chkM m = 0
    · exact hc
    · rw [if_neg hc] at h; exact absurd h hc
  have hck : ckA x.d x.a (shN x.a x.n) x.wr (shD x.a x.n x.wr x.ds) = 0 := by
    unfold hpE at h
    rw [if_pos hcm, if_neg (by omega), if_neg (by omega), if_pos hk'] at h; exact h
  obtain ⟨hz, hh, hb⟩ := chkM_ok hcm
  obtain ⟨hn, hd, ha, hln, hal⟩ := ckA_ok hck
  have hE : doE m.zs m.b x.d x.a (shN x.a x.n) x.wr (shD x.a x.n x.wr x.ds) = 0 := doE_mk hz hb hck
  obtain ⟨⟨⟨ms, c, dat, tch⟩, f⟩, hR⟩ : ∃ R, doR m.zs m.b x.d x.a (shN x.a x.n) x.wr (shD x.a x.n x.wr x.ds) = R := ⟨_, rfl⟩
  have hr' : (⟨(doR m.zs m.b x.d x.a (shN x.a x.n) x.wr (shD x.a x.n x.wr x.ds)).1.zs, m.h, (doR m.zs m.b x.d x.a (shN x.a x.n) x.wr (shD x.a x.n x.wr x.ds)).1.b⟩,
    ⟨decide ((doR m.zs m.b x.d x.a (shN x.a x.n) x.wr (shD x.a x.n x.wr x.ds)).2 = 0), (doR m.zs m.b x.d x.a (shN x.a x.n) x.wr (shD x.a x.n x.wr x.ds)).1.dat, (doR m.zs m.b x.d x.a (shN x.a x.n) x.wr (shD x.a x.n x.wr x.ds)).2, (doR m.zs m.b x.d x.a (shN x.a x.n) x.wr (shD x.a x.n x.wr x.ds)).1.tch⟩) = (y, t) := hr
  rw [hR] at hr'
  simp only [Prod.mk.injEq] at hr'
  obtain ⟨rfl, rfl⟩ := hr'
  have hpg : x.a % 8 + shN x.a x.n ≤ 8 := by
    by_cases h0 : x.a < 0 ∨ x.n < 1
    · have e : shN x.a x.n = x.n := by rw [shN, if_pos h0]
      rw [e] at hn
      omega
    · rw [shN, if_neg h0]
      split <;> omega
  obtain ⟨c', k, hg, hk1, hf, hc, ht⟩ := do_page hE hpg hR
  obtain ⟨-, -, -, hfr, -⟩ := do_held hE hR
  refine ⟨c', k, thE_mk hz hb hd (by omega), hg, hk1, by omega, hd, hfr, hf, hc, fun u hu => ?_⟩
  have hwd := do_words hE hR hu
  obtain ⟨i, v, hi, rfl⟩ := ht u hu
  simp only [wordB, decide_eq_true_eq] at hwd
  have hpl : plc k (x.a.toNat + i) = k * 8 + (x.a + (i : Int)) % 8 := by unfold plc; omega
  refine ⟨rfl, by show (x.a + (i : Int)) / 8 = _; omega, rfl, by show plc k _ / 8 = k; rw [hpl]; omega, ckT_mk hd (by show 0 ≤ x.a + (i : Int) ∧ x.a + (i : Int) ≤ 511; omega) (by show 0 ≤ plc k _ ∧ plc k _ ≤ 511; rw [hpl]; omega) hwd (by show (x.a + (i : Int)) % 8 = plc k _ % 8; rw [hpl]; omega)⟩
def plMc (m : Mc) : Mc := ⟨m.zs, m.h, m.b.with []⟩
theorem IsM.bare {w : World} {m : Mc} {cs : Array Value} (h : IsM w m cs) : IsM w (plMc m) (cs.setIfInBounds 6 (.slice none 0 0)) := by
  obtain ⟨a1, n1, c1, a2, n2, c2, a3, n3, c3, rfl, h1, h2, h3⟩ := h
  exact ⟨a1, n1, c1, a2, n2, c2, none, 0, 0, by simp [plMc, Br.with], h1, h2, Ls.nothing _⟩
theorem ts_at {w w' : World} {va : Option Addr} {n vk : Nat} {l : List Tc} (h : Ts w (.slice va n vk) l) (hb : Below w.heap.size w w') {i : Nat} (hi : i < l.length) :
    ∃ b o, va = some ⟨b, o, none⟩ ∧ b < w'.heap.size ∧ AtT w' b (o + i * 5) (tth l i) := by
  obtain ⟨a', c', e', -, -, q⟩ := h
  simp only [Value.slice.injEq] at e'
  rcases q with q | ⟨b', o', q, q2, q3⟩
  · rw [q] at hi; simp at hi
  · exact ⟨b', o', by rw [e'.1, q], Nat.lt_of_lt_of_le q2 hb.size, (q3 i hi).keep hb q2⟩
def LineOK (ps : List Mc) (s : Nat) (x : Ln) : Prop :=
  ∃ j, s ≤ j ∧ j < ps.length ∧ ∀ wr : Bool, (wr = true → x.2.2.2.2 = true) → (goT (mth ps j).zs ((mth ps j).b.with []) x.1 x.2.1 wr).2 = (x.2.2.1, 0)
structure FairI (ps : List Mc) (s : Int → Int → Nat) (m : Mc) : Prop where
  pos : 0 < ps.length
  last : mth ps (ps.length - 1) = m
  good : ∀ i, i < ps.length → chkM (mth ps i) = 0
  low : ∀ d p, s d p < ps.length
  lines : ∀ x ∈ m.b.cache, LineOK ps (s x.1 x.2.1) x
theorem FairI.first {m : Mc} (h : chkM m = 0) (hc : m.b.cache = []) : FairI [m] (fun _ _ => 0) m :=
  ⟨by simp, rfl, fun i hi => by
    have hi' : i < 1 := hi
    obtain rfl : i = 0 := by omega
    exact h, fun _ _ => by simp, fun x hx => by rw [hc] at hx; cases hx⟩
theorem goT_mem {zs : List Int} {b : Br} {d p : Int} {wr : Bool} (h : thE zs b d p = 0) (hm : b.mode = 2) (hn : ¬ 0 ≤ fndC b.cache d p) : (goT zs (b.with []) d p wr).2 = (goT zs b d p wr).2 := by
  obtain ⟨hk, hb, hd, hp⟩ := thE_ok h
  have h0 : ¬ 0 ≤ fndC [] d p := by simp [fndC]
  have e1 : goT zs b d p wr = byT zs (b.with b.cache) d p wr := by rw [goT, if_neg (by omega), if_neg (by omega), if_neg hn]; rfl
  have e2 : goT zs (b.with []) d p wr = byT zs (b.with []) d p wr := by
    rw [goT, if_neg (show ¬ (b.with []).mode = 0 from fun e => by have e' : b.mode = 0 := e; omega), if_neg (show ¬ (b.with []).mode = 1 from fun e => by have e' : b.mode = 1 := e; omega), if_neg (show ¬ 0 ≤ fndC (b.with []).cache d p from h0)]
  rw [e1, e2]
  rcases byT_ways (b := b) (d := d) (wr := wr) hk hp with ⟨f, _, e⟩ | e | ⟨a, x, _, _, e⟩
  · rw [e, e]
  · rw [e, e]
  · rw [e, e]
theorem FairI.touch {ps : List Mc} {s : Int → Int → Nat} {m y : Mc} {x : Hp} {t : To} (I : FairI ps s m) (hlen : ps.length ≤ 121) (h : hpE m (shX x) = 0) (hr : hpR m (shX x) = (y, t)) (hk : x.kind = 3) {u : Tc} (hu : u ∈ t.tch) :
    frE (ps.drop (s u.1 (u.2.1 / 8))) u = 0 ∧ ∀ k, IsLast (ps.drop (s u.1 (u.2.1 / 8))) u k → 0 ≤ k := by
  obtain ⟨c, k, hth, hg, hk1, ha, hd, hf, hft, -, htc⟩ := hp_short h hr hk
  obtain ⟨u1, u2, u3, u4, u5⟩ := htc u hu
  have hf0 : t.f = 0 := by
    by_cases e : t.f = 0
    · exact e
    · rw [hft e] at hu; cases hu
  rw [hf0] at hg
  have hlow := I.low u.1 (u.2.1 / 8)
  have hone : ∃ j, s u.1 (u.2.1 / 8) ≤ j ∧ j < ps.length ∧ lets (mth ps j) u = true := by
    have hlast : ∀ c', (goT m.zs (m.b.with []) x.d (x.a / 8) x.wr).2 = c' → c' = (k, 0) → ∃ j, s u.1 (u.2.1 / 8) ≤ j ∧ j < ps.length ∧ lets (mth ps j) u = true := fun c' e1 e2 => by
      have hp := I.pos
      refine ⟨ps.length - 1, by omega, by omega, ?_⟩
      rw [I.last]
      unfold lets
      rw [u1, u2, u3, e1, e2, u4]
      simp
    rcases Int.lt_trichotomy m.b.mode 1 with e | e | e
    · obtain ⟨⟨g1, _⟩, _⟩ := chkB_ok (thE_ok hth).2.1
      rw [goT, if_pos (by omega), Prod.mk.injEq, Prod.mk.injEq] at hg
      exact absurd hg.2.2 (by decide)
    · rw [goT, if_neg (by omega), if_pos e, Prod.mk.injEq, Prod.mk.injEq] at hg
      refine hlast _ rfl ?_
      rw [goT, if_neg (show ¬ (m.b.with []).mode = 0 from fun e' => by have e2 : m.b.mode = 0 := e'; omega), if_pos (show (m.b.with []).mode = 1 from e)]
      show (x.a / 8, (0 : Int)) = _
      rw [hg.2.1]
    · obtain ⟨⟨_, g1⟩, _⟩ := chkB_ok (thE_ok hth).2.1
      have hm2 : m.b.mode = 2 := by omega
      by_cases hn : 0 ≤ fndC m.b.cache x.d (x.a / 8)
      · obtain ⟨_, hh, hmem⟩ := fnd_line hn
        rw [goT, if_neg (by omega), if_neg (by omega), if_pos hn] at hg
        by_cases hw : (x.wr && !(lineC m.b.cache x.d (x.a / 8)).2.2.2.2) = true
        · rw [if_pos hw, Prod.mk.injEq, Prod.mk.injEq] at hg
          exact absurd hg.2.2 (by decide)
        · rw [if_neg hw, Prod.mk.injEq, Prod.mk.injEq] at hg
          obtain ⟨j, j1, j2, j3⟩ := I.lines _ hmem
          simp only [hasB, Bool.and_eq_true, decide_eq_true_eq] at hh
          rw [hh.1, hh.2] at j1 j3
          refine ⟨j, by rw [u1, u2]; exact j1, j2, ?_⟩
          have := j3 x.wr (fun e => by
            rw [e] at hw
            simpa using hw)
          unfold lets
          rw [u1, u2, u3, this, u4, ← hg.2.1]
          simp
      · refine hlast _ rfl ?_
        rw [goT_mem hth hm2 hn, hg]
  refine ⟨frE_mk (by rw [List.length_drop]; omega) (mcE_mk fun i hi => ?_) u5, fun k' hL => ?_⟩
  · rw [List.length_drop] at hi
    rw [mth_drop]
    exact I.good _ (by omega)
  · obtain ⟨j, j1, j2, j3⟩ := hone
    obtain ⟨l1, _, l3⟩ := hL
    by_cases e : 0 ≤ k'
    · exact e
    · have := l3 (j - s u.1 (u.2.1 / 8)) (by omega) (by rw [List.length_drop]; omega)
      rw [mth_drop, show s u.1 (u.2.1 / 8) + (j - s u.1 (u.2.1 / 8)) = j by omega, j3] at this
      exact absurd this (by decide)
def AtRow (w : World) (b o : Nat) (cs : Array Value) : Prop := ∀ j v, cs[j]? = some v → w.cell? ⟨b, o + j, none⟩ = some v
theorem AtRow.keep {w w' : World} {b o : Nat} {cs : Array Value} (h : AtRow w b o cs) (hb : Below w.heap.size w w') (hl : b < w.heap.size) : AtRow w' b o cs := fun j v hv => ((bcell hb).1 b _ hl).trans (h j v hv)
def AtM (w : World) (b o : Nat) (m : Mc) : Prop := ∃ cs, IsM w m cs ∧ AtRow w b o cs
theorem AtM.keep {w w' : World} {b o : Nat} {m : Mc} (h : AtM w b o m) (hb : Below w.heap.size w w') (hl : b < w.heap.size) : AtM w' b o m := by
  obtain ⟨cs, h1, h2⟩ := h; exact ⟨cs, h1.keep hb, h2.keep hb hl⟩
def Ms (w : World) (v : Value) (l : List Mc) : Prop :=
  ∃ a cap, v = .slice a l.length cap ∧ l.length ≤ cap ∧ cap ≤ maxLen ∧
    (l = [] ∨ ∃ b o, a = some ⟨b, o, none⟩ ∧ b < w.heap.size ∧ ∀ i, i < l.length → AtM w b (o + i * 16) (mth l i))
theorem Ms.shape {w : World} {v : Value} {l : List Mc} (h : Ms w v l) : ∃ a cap, v = .slice a l.length cap ∧ l.length ≤ cap ∧ cap ≤ maxLen := by
  obtain ⟨a, cap, h, k1, k2, _⟩ := h; exact ⟨a, cap, h, k1, k2⟩
theorem Ms.at {w w' : World} {a : Option Addr} {n cap : Nat} {l : List Mc} (h : Ms w (.slice a n cap) l) (hb : Below w.heap.size w w') {i : Nat} (hi : i < l.length) :
    ∃ b o cs, a = some ⟨b, o, none⟩ ∧ b < w'.heap.size ∧ IsM w' (mth l i) cs ∧ AtRow w' b (o + i * 16) cs := by
  obtain ⟨a', c', e', -, -, q⟩ := h
  simp only [Value.slice.injEq] at e'
  rcases q with q | ⟨b', o', q, q2, q3⟩
  · rw [q] at hi; simp at hi
  · obtain ⟨cs, h1, h2⟩ := (q3 i hi).keep hb q2
    exact ⟨b', o', cs, by rw [e'.1, q], Nat.lt_of_lt_of_le q2 hb.size, h1, h2⟩
section
variable {P : Program}
theorem run_loadVar_off (w : World) (g o : Nat) (ty : TypeId) (cs : Array Value) (d : TypeDesc) (hg : AtRow w g o cs)
    (hu : P.underlying ty = some d) (hd : (match d with | .struct _ | .array _ _ => true | _ => false) = true) (hi : (P.info? ty).map (·.size) = some cs.size) :
    (loadVar ty ⟨g, o, none⟩).run P w = .ok (.agg cs) w := by
  have hl : (loadCells ⟨g, o, none⟩ cs.toList.length).run P w = .ok cs.toList.toArray w :=
    run_loadCells_list (P := P) w ⟨g, o, none⟩ cs.toList (fun j v hv => by
      have hadd : (⟨g, o, none⟩ : Addr).add j = ⟨g, o + j, none⟩ := by unfold Addr.add; split <;> simp_all
      rw [hadd]
      exact hg j v (by simpa using hv))
  cases hq : P.info? ty with
  | none => simp [hq] at hi
  | some i =>
    have hs : i.size = cs.size := by simpa [hq] using hi
    have hagg : (isAgg ty).run P w = .ok true w := by
      unfold isAgg
      rw [Sem.run_bind, run_underlying hu w]
      cases d <;> simp_all
    simp only [Array.length_toList, Array.toArray_toList] at hl
    simp [loadVar, Sem.run_bind, hagg, sizeOf, typeInfo, hq, hs, hl]
theorem wp_load_off {o : Oper} {a : Act} {w : World} {K : Act → World → Prop} {Q : Exit → Act → World → Prop} (ty : TypeId) (x : Operand) (ho : o.op = .load ty x)
    (g q : Nat) (hx : a.eval x = .pointer (some ⟨g, q, none⟩)) (cs : Array Value) (d : TypeDesc) (hg : AtRow w g q cs)
    (hu : P.underlying ty = some d) (hd : (match d with | .struct _ | .array _ _ => true | _ => false) = true) (hi : (P.info? ty).map (·.size) = some cs.size)
    (h : K (a.put o.dst (.agg cs)) w) : o.wp P a w K Q := by
  unfold Oper.wp execOp
  simp only [ho, hx, Instr.loadAt, Instr.sureAddr, Sem.run_bind, Sem.run_pure, Result.andThen_ok, run_loadVar_off w g q ty cs d hg hu hd hi]
  exact h
theorem wpList_load_off {ops : Array Oper} {rest : List Oper} {o : Oper} {a : Act} {w : World} {Q : Exit → Act → World → Prop} (hgd : o.guard = none) (ty : TypeId) (x : Operand) (ho : o.op = .load ty x)
    (g q : Nat) (hx : a.eval x = .pointer (some ⟨g, q, none⟩)) (cs : Array Value) (d : TypeDesc) (hg : AtRow w g q cs)
    (hu : P.underlying ty = some d) (hd : (match d with | .struct _ | .array _ _ => true | _ => false) = true) (hi : (P.info? ty).map (·.size) = some cs.size)
    (h : wpList P ops Q rest (a.put o.dst (.agg cs)) w) : wpList P ops Q (o :: rest) a w :=
  wpList_plain hgd fun _ hK => wp_load_off ty x ho g q hx cs d hg hu hd hi (hK _ _ h)
end
theorem flat16_at : ∀ {css : List (Array Value)}, (∀ c ∈ css, c.size = 16) → ∀ {i j : Nat} {cs : Array Value} {v : Value}, css[i]? = some cs → cs[j]? = some v → (css.flatMap Array.toList)[i * 16 + j]? = some v
  | [], _, i, _, _, _, hi, _ => by simp at hi
  | c :: css, h, 0, j, cs, v, hi, hj => by
    simp only [List.getElem?_cons_zero, Option.some.injEq] at hi
    subst hi
    have hl : j < c.toList.length := by
      rw [Array.length_toList]
      rcases Nat.lt_or_ge j c.size with k | k
      · exact k
      · rw [Array.getElem?_eq_none k] at hj; exact absurd hj (by simp)
    rw [List.flatMap_cons, Nat.zero_mul, Nat.zero_add, List.getElem?_append_left hl, Array.getElem?_toList]
    exact hj
  | c :: css, h, i + 1, j, cs, v, hi, hj => by
    have hc : c.toList.length = 16 := by rw [Array.length_toList]; exact h c (by simp)
    rw [List.flatMap_cons, List.getElem?_append_right (by omega), hc, show (i + 1) * 16 + j - 16 = i * 16 + j by omega]
    exact flat16_at (fun c' hc' => h c' (by simp [hc'])) (by simpa using hi) hj
theorem ms_box {w : World} {n cap : Nat} {t : TypeId} {fr : Nat × Nat} {l : List Mc} {css : List (Array Value)} {row : Array Value} (hB : w.heap[n]? = some (.cells row t fr)) (hrow : ∀ (q : Nat) (v : Value), (css.flatMap Array.toList)[q]? = some v → row[q]? = some v)
    (hl : css.length = l.length) (h : ∀ i, i < l.length → ∃ cs, css[i]? = some cs ∧ IsM w (mth l i) cs) (hc : l.length ≤ cap) (hm : cap ≤ maxLen) : Ms w (.slice (some ⟨n, 0, none⟩) l.length cap) l := by
  have hall : ∀ c ∈ css, c.size = 16 := fun c hc => by
    obtain ⟨i, hi, e⟩ := List.getElem_of_mem hc
    obtain ⟨cs, h1, h2⟩ := h i (by omega)
    rw [List.getElem?_eq_getElem hi, Option.some.injEq] at h1
    rw [← e, h1]
    exact h2.size.1
  refine ⟨_, cap, rfl, hc, hm, .inr ⟨n, 0, rfl, ?_, fun i hi => ?_⟩⟩
  · rcases Nat.lt_or_ge n w.heap.size with k | k
    · exact k
    · rw [Array.getElem?_eq_none k] at hB; exact absurd hB (by simp)
  · obtain ⟨cs, h1, h2⟩ := h i hi
    refine ⟨cs, h2, fun j v hv => ?_⟩
    rw [Nat.zero_add, cell_of_row w n _ row t fr hB]
    exact hrow _ _ (flat16_at hall h1 hv)
def auX : Mc := ⟨tab, ⟨0, List.replicate 8 0, false⟩, ⟨2, 1, [], 40, 0, 0, false, 0, 41, 0, 0, false⟩⟩
def auY : Mc := ⟨tab, ⟨0, List.replicate 8 0, false⟩, ⟨0, 1, [], 40, 0, 0, false, 0, 41, 0, 0, false⟩⟩
def auT : Tc := (1, 1, 73, true, 0)
theorem auX_good : chkM auX = 0 := by decide +kernel
theorem auY_good : chkM auY = 0 := by decide +kernel
theorem auX_lets : lets auX auT = true := by decide +kernel
theorem auY_lets : lets auY auT = false := by decide +kernel
theorem auT_good : ckT auT = 0 := by decide
theorem au_two : frE [auX, auY] auT = 0 := frE_mk (by decide) (by rw [mcE, if_pos auX_good, mcE, if_pos auY_good]; rfl) auT_good
theorem au_one : frE [auY] auT = 0 := frE_mk (by decide) (by rw [mcE, if_pos auY_good]; rfl) auT_good
theorem au_last2 {k : Int} (h : IsLast [auX, auY] auT k) : k = 0 := h.one ⟨by decide, fun _ => auX_lets, fun j h1 h2 => by
  have : j < 2 := h2
  obtain rfl : j = 1 := by omega
  exact auY_lets⟩
theorem au_last1 {k : Int} (h : IsLast [auY] auT k) : k = -1 := h.one ⟨by decide, fun h => absurd h (by decide), fun j h1 h2 => by
  have : j < 1 := h2
  obtain rfl : j = 0 := by omega
  exact auY_lets⟩
theorem list16 {cs : List Value} (h : cs.length = 16) : ∃ c0 c1 c2 c3 c4 c5 c6 c7 c8 c9 c10 c11 c12 c13 c14 c15, cs = [c0, c1, c2, c3, c4, c5, c6, c7, c8, c9, c10, c11, c12, c13, c14, c15] := by
  match cs, h with
  | [c0, c1, c2, c3, c4, c5, c6, c7, c8, c9, c10, c11, c12, c13, c14, c15], _ => exact ⟨c0, c1, c2, c3, c4, c5, c6, c7, c8, c9, c10, c11, c12, c13, c14, c15, rfl⟩
theorem row16 {cs : Array Value} (h : cs.size = 16) : ∃ c0 c1 c2 c3 c4 c5 c6 c7 c8 c9 c10 c11 c12 c13 c14 c15, cs = #[c0, c1, c2, c3, c4, c5, c6, c7, c8, c9, c10, c11, c12, c13, c14, c15] := by
  obtain ⟨l⟩ := cs
  obtain ⟨c0, c1, c2, c3, c4, c5, c6, c7, c8, c9, c10, c11, c12, c13, c14, c15, rfl⟩ := list16 (cs := l) h
  exact ⟨c0, c1, c2, c3, c4, c5, c6, c7, c8, c9, c10, c11, c12, c13, c14, c15, rfl⟩
theorem run_built1 (w : World) (c0 c1 c2 c3 c4 c5 c6 c7 c8 c9 c10 c11 c12 c13 c14 c15 : Value) : (Instr.buildSlice 79 1 #[(0, .agg #[c0, c1, c2, c3, c4, c5, c6, c7, c8, c9, c10, c11, c12, c13, c14, c15])]).run Tryz.prog w = .ok (.slice (some ⟨w.heap.size, 0, none⟩) 1 1) (w.alloc (.cells #[c0, c1, c2, c3, c4, c5, c6, c7, c8, c9, c10, c11, c12, c13, c14, c15] 33)) := by kernel_rfl
theorem run_built2 (w : World) (c0 c1 c2 c3 c4 c5 c6 c7 c8 c9 c10 c11 c12 c13 c14 c15 d0 d1 d2 d3 d4 d5 d6 d7 d8 d9 d10 d11 d12 d13 d14 d15 : Value) : (Instr.buildSlice 79 2 #[(0, .agg #[c0, c1, c2, c3, c4, c5, c6, c7, c8, c9, c10, c11, c12, c13, c14, c15]), (1, .agg #[d0, d1, d2, d3, d4, d5, d6, d7, d8, d9, d10, d11, d12, d13, d14, d15])]).run Tryz.prog w = .ok (.slice (some ⟨w.heap.size, 0, none⟩) 2 2) (w.alloc (.cells (#[c0, c1, c2, c3, c4, c5, c6, c7, c8, c9, c10, c11, c12, c13, c14, c15] ++ #[d0, d1, d2, d3, d4, d5, d6, d7, d8, d9, d10, d11, d12, d13, d14, d15]) 33)) := by kernel_rfl
theorem wpList_built1 {ops : Array Oper} {rest : List Oper} {o : Oper} {a : Act} {w : World} {Q : Exit → Act → World → Prop} (hg : o.guard = none) (x : Operand) (ho : o.op = .buildSlice 79 1 #[(0, x)])
    {cs : Array Value} (hx : a.eval x = .agg cs) (hs : cs.size = 16) (h : wpList Tryz.prog ops Q rest (a.put o.dst (.slice (some ⟨w.heap.size, 0, none⟩) 1 1)) (w.alloc (.cells cs 33))) : wpList Tryz.prog ops Q (o :: rest) a w := by
  obtain ⟨c0, c1, c2, c3, c4, c5, c6, c7, c8, c9, c10, c11, c12, c13, c14, c15, rfl⟩ := row16 hs
  refine wpList_plain hg fun _ hK => ?_
  unfold Oper.wp execOp
  have e : (#[(0, x)] : Array (Nat × Operand)).map (fun (i, x) => (i, a.eval x)) = #[(0, .agg #[c0, c1, c2, c3, c4, c5, c6, c7, c8, c9, c10, c11, c12, c13, c14, c15])] := by simp [hx]
  simp only [ho, Sem.run_bind, e, run_built1, Result.andThen_ok]
  exact hK _ _ h
theorem wpList_built2 {ops : Array Oper} {rest : List Oper} {o : Oper} {a : Act} {w : World} {Q : Exit → Act → World → Prop} (hg : o.guard = none) (x y : Operand) (ho : o.op = .buildSlice 79 2 #[(0, x), (1, y)])
    {cs ds : Array Value} (hx : a.eval x = .agg cs) (hy : a.eval y = .agg ds) (hs : cs.size = 16) (hd : ds.size = 16) (h : wpList Tryz.prog ops Q rest (a.put o.dst (.slice (some ⟨w.heap.size, 0, none⟩) 2 2)) (w.alloc (.cells (cs ++ ds) 33))) : wpList Tryz.prog ops Q (o :: rest) a w := by
  obtain ⟨c0, c1, c2, c3, c4, c5, c6, c7, c8, c9, c10, c11, c12, c13, c14, c15, rfl⟩ := row16 hs
  obtain ⟨d0, d1, d2, d3, d4, d5, d6, d7, d8, d9, d10, d11, d12, d13, d14, d15, rfl⟩ := row16 hd
  refine wpList_plain hg fun _ hK => ?_
  unfold Oper.wp execOp
  have e : (#[(0, x), (1, y)] : Array (Nat × Operand)).map (fun (i, x) => (i, a.eval x)) = #[(0, .agg #[c0, c1, c2, c3, c4, c5, c6, c7, c8, c9, c10, c11, c12, c13, c14, c15]), (1, .agg #[d0, d1, d2, d3, d4, d5, d6, d7, d8, d9, d10, d11, d12, d13, d14, d15])] := by simp [hx, hy]
  simp only [ho, Sem.run_bind, e, run_built2, Result.andThen_ok]
  exact hK _ _ h
theorem ms_one {w : World} {n : Nat} {t : TypeId} {m : Mc} {cs : Array Value} (hB : Box w n t cs) (hm : IsM w m cs) : Ms w (.slice (some ⟨n, 0, none⟩) 1 1) [m] :=
  ms_box (l := [m]) (css := [cs]) hB (fun q v h => by rw [← Array.getElem?_toList]; simpa using h) rfl (fun i hi => by
    have : i < 1 := hi
    obtain rfl : i = 0 := by omega
    exact ⟨cs, rfl, hm⟩) (Nat.le_refl _) (by decide)
theorem ms_two {w : World} {n : Nat} {t : TypeId} {m k : Mc} {cs ck : Array Value} (hB : Box w n t (cs ++ ck)) (hm : IsM w m cs) (hk : IsM w k ck) : Ms w (.slice (some ⟨n, 0, none⟩) 2 2) [m, k] :=
  ms_box (l := [m, k]) (css := [cs, ck]) hB (fun q v h => by rw [← Array.getElem?_toList]; simpa using h) rfl (fun i hi => by
    have : i < 2 := hi
    have hc : i = 0 ∨ i = 1 := by omega
    rcases hc with rfl | rfl
    · exact ⟨cs, rfl, hm⟩
    · exact ⟨ck, rfl, hk⟩) (Nat.le_refl _) (by decide)
theorem ckT_who {d s a v : Int} {f : Bool} (h : ¬ ((0 ≤ d ∧ d ≤ 7) ∧ (0 ≤ s ∧ s ≤ 511) ∧ (0 ≤ a ∧ a ≤ 511))) : ckT (d, s, a, f, v) = 4 := by unfold ckT; rw [if_neg h]
theorem ckT_rng {d s a v : Int} {f : Bool} (h : (0 ≤ d ∧ d ≤ 7) ∧ (0 ≤ s ∧ s ≤ 511) ∧ (0 ≤ a ∧ a ≤ 511)) (k : ¬ (0 ≤ v ∧ v ≤ 65535)) : ckT (d, s, a, f, v) = 2 := by unfold ckT; rw [if_pos h, if_neg k]
theorem ckT_frm {d s a v : Int} {f : Bool} (h : (0 ≤ d ∧ d ≤ 7) ∧ (0 ≤ s ∧ s ≤ 511) ∧ (0 ≤ a ∧ a ≤ 511)) (k : 0 ≤ v ∧ v ≤ 65535) (q : ¬ s % 8 = a % 8) : ckT (d, s, a, f, v) = 3 := by unfold ckT; rw [if_pos h, if_pos k, if_neg q]
set_option maxHeartbeats 2000000 in
theorem aCheck_any (d s a : Int) (f : Bool) (v : Int) (w : World) :
    Calls Tryz.prog 60 #[.agg #[J d, J s, J a, .bool f, J v]] w fun e w' => e = .returned (J (ckT (d, s, a, f, v))) ∧ Below w.heap.size w w' := by
  have ways : (¬ 0 ≤ d) ∨ (0 ≤ d ∧ ¬ d < 8) ∨ (0 ≤ d ∧ d < 8 ∧ ¬ 0 ≤ s) ∨ (0 ≤ d ∧ d < 8 ∧ 0 ≤ s ∧ ¬ s < 512) ∨ (0 ≤ d ∧ d < 8 ∧ 0 ≤ s ∧ s < 512 ∧ ¬ 0 ≤ a) ∨ (0 ≤ d ∧ d < 8 ∧ 0 ≤ s ∧ s < 512 ∧ 0 ≤ a ∧ ¬ a < 512) ∨ (0 ≤ d ∧ d < 8 ∧ 0 ≤ s ∧ s < 512 ∧ 0 ≤ a ∧ a < 512) := by omega
  rcases ways with h1 | ⟨h1, h2⟩ | ⟨h1, h2, h3⟩ | ⟨h1, h2, h3, h4⟩ | ⟨h1, h2, h3, h4, h5⟩ | ⟨h1, h2, h3, h4, h5, h6⟩ | ⟨h1, h2, h3, h4, h5, h6⟩
  iterate 6
    focus
      rw [ckT_who (by omega)]
      go_enter Tryz.func60, Tryz.ntmps60
      go_wp2
      go_ret
      exact ⟨rfl, bel_alloc (Below.refl _ _) _⟩
  have ways : (¬ 0 ≤ v) ∨ (0 ≤ v ∧ ¬ v ≤ 65535) ∨ (0 ≤ v ∧ v ≤ 65535) := by omega
  rcases ways with k1 | ⟨k1, k2⟩ | ⟨k1, k2⟩
  iterate 2
    focus
      rw [ckT_rng (by omega) (by omega)]
      go_enter Tryz.func60, Tryz.ntmps60
      go_wp2
      go_ret
      exact ⟨rfl, bel_alloc (Below.refl _ _) _⟩
  have e1 : s.tmod 8 = s % 8 := Int.tmod_eq_emod_of_nonneg h3
  have e2 : a.tmod 8 = a % 8 := Int.tmod_eq_emod_of_nonneg h5
  by_cases q : s % 8 = a % 8
  · rw [ckT_mk (t := (d, s, a, f, v)) (by show 0 ≤ d ∧ d ≤ 7; omega) (by show 0 ≤ s ∧ s ≤ 511; omega) (by show 0 ≤ a ∧ a ≤ 511; omega) ⟨k1, k2⟩ q]
    go_enter Tryz.func60, Tryz.ntmps60
    go_wp2
    go_ret
    exact ⟨rfl, bel_alloc (Below.refl _ _) _⟩
  · rw [ckT_frm (by omega) (by omega) q]
    go_enter Tryz.func60, Tryz.ntmps60
    go_wp2
    go_ret
    exact ⟨rfl, bel_alloc (Below.refl _ _) _⟩
set_option maxRecDepth 10000 in
set_option maxHeartbeats 4000000 in
theorem lets_row {m : Mc} {cs : Array Value} {d s a : Int} {f : Bool} {v : Int} {w : World} (hm : IsM w m cs) (hE : chkM m = 0) (ht : ckT (d, s, a, f, v) = 0) :
    Calls Tryz.prog 61 #[.agg cs, .agg #[J d, J s, J a, .bool f, J v]] w fun e w' => e = .returned (.bool (lets m (d, s, a, f, v))) ∧ Below w.heap.size w w' := by
  have hth := thE_lets hE ht
  obtain ⟨k1, k2, k3, -, -⟩ := ckT_ok ht
  dsimp only at k1 k2 k3 hth
  obtain ⟨zs, ⟨p, r, dn⟩, ⟨mo, ba, l, op, oh, ot, st, fe, fp, fh, ft, lo⟩⟩ := m
  obtain ⟨⟨c, k, q⟩, hR⟩ : ∃ R, goT zs (Br.with ⟨mo, ba, l, op, oh, ot, st, fe, fp, fh, ft, lo⟩ []) d (s / 8) f = R := ⟨_, rfl⟩
  have hR2 : thR zs (Br.with ⟨mo, ba, l, op, oh, ot, st, fe, fp, fh, ft, lo⟩ []) d (s / 8) f = (c, k, q) := by rw [thR, if_pos hth, hR]
  have HV : Hid (lets ⟨zs, ⟨p, r, dn⟩, ⟨mo, ba, l, op, oh, ot, st, fe, fp, fh, ft, lo⟩⟩ (d, s, a, f, v) = decide (q = 0 ∧ k = a / 8)) := by
    show decide ((goT zs (Br.with ⟨mo, ba, l, op, oh, ot, st, fe, fp, fh, ft, lo⟩ []) d (s / 8) f).2.2 = 0 ∧ (goT zs (Br.with ⟨mo, ba, l, op, oh, ot, st, fe, fp, fh, ft, lo⟩ []) d (s / 8) f).2.1 = a / 8) = _
    rw [hR]
  have HE : Hid (thE zs (Br.with ⟨mo, ba, l, op, oh, ot, st, fe, fp, fh, ft, lo⟩ []) d (s / 8) = 0) := hth
  have HR : Hid (thR zs (Br.with ⟨mo, ba, l, op, oh, ot, st, fe, fp, fh, ft, lo⟩ []) d (s / 8) f = (c, k, q)) := hR2
  obtain ⟨a1, n1, c1, a2, n2, c2, a3, n3, c3, rfl, h1, h2, h3⟩ := hm
  have H1 : Hid (Sl w (.slice a1 n1 c1) zs) := h1
  have H3 : Hid (Ls w (.slice a3 n3 c3) l) := h3
  dsimp only at h1 h2 h3
  clear h1 h2 h3 hE ht hth hR hR2
  have X0 := (Box.newAt (w := w) (n := w.heap.size) rfl 33 #[.slice a1 n1 c1, J p, .slice a2 n2 c2, .bool dn, J mo, J ba, .slice a3 n3 c3, J op, J oh, J ot, .bool st, J fe, J fp, J fh, J ft, .bool lo]).past (.cells #[J d, J s, J a, .bool f, J v] 72)
  have X1 := Box.newAt (w := w.alloc (.cells #[.slice a1 n1 c1, J p, .slice a2 n2 c2, .bool dn, J mo, J ba, .slice a3 n3 c3, J op, J oh, J ot, .bool st, J fe, J fp, J fh, J ft, .bool lo] 33)) (n := w.heap.size + 1) (by simp) 72 #[J d, J s, J a, .bool f, J v]
  have BW : Hid (Below w.heap.size w _) := bel_alloc (bel_alloc (Below.refl w.heap.size w) (.cells #[.slice a1 n1 c1, J p, .slice a2 n2 c2, .bool dn, J mo, J ba, .slice a3 n3 c3, J op, J oh, J ot, .bool st, J fe, J fp, J fh, J ft, .bool lo] 33)) (.cells #[J d, J s, J a, .bool f, J v] 72)
  go_enter Tryz.func61, Tryz.ntmps61
  go_upto_region 1 with fail
  generalize ((w.alloc (.cells #[.slice a1 n1 c1, J p, .slice a2 n2 c2, .bool dn, J mo, J ba, .slice a3 n3 c3, J op, J oh, J ot, .bool st, J fe, J fp, J fh, J ft, .bool lo] 33)).alloc (.cells #[J d, J s, J a, .bool f, J v] 72)) = W at *
  obtain ⟨⟨q0, q1, q2, q3⟩, ⟨g0, g1, g2, g3, g4, g5, g6, g7, g8, g9, g10, g11⟩, s0⟩ := X0.sixteen
  obtain ⟨t0, t1, t2, t3, t4⟩ := X1.blk.five
  have s1 := X1.lt
  have hs8 : s.tdiv 8 = s / 8 := Int.tdiv_eq_ediv_of_nonneg k2.1
  have ha8 : a.tdiv 8 = a / 8 := Int.tdiv_eq_ediv_of_nonneg k3.1
  have k21 := k2.1
  have k22 := k2.2
  have k31 := k3.1
  have k32 := k3.2
  clear k1 k2 k3
  go_wp2_with fail
  refine (plain_at (H1.out.keep BW.out) (H3.out.keep BW.out) HE.out HR.out).mono ?_
  rintro e w2 ⟨rfl, b2⟩
  clear q0 q1 q2 q3 g0 g1 g2 g3 g4 g5 g6 g7 g8 g9 g10 g11 s0 t0 t1 t2 t3 t4
  have X1 := X1.keep b2
  obtain ⟨t0, t1, t2, t3, t4⟩ := X1.blk.five
  have s1 := X1.lt
  have B2 : Hid (Below w.heap.size w w2) := bel_trans BW.out b2
  clear b2 BW HE HR
  by_cases hq : q = 0
  · subst hq
    by_cases hk : k = a / 8
    · have : decide ((0 : Int) = 0 ∧ k = a / 8) = true := by simpa using hk
      have HF : Hid (_ = _) := (HV.out.trans this).symm
      clear this HV
      go_wp2_with fail
      go_ret
      exact ⟨ret_bool HF.out, B2.out⟩
    · have : decide ((0 : Int) = 0 ∧ k = a / 8) = false := by simpa using hk
      have kk : (k == a / 8) = false := by simpa using hk
      have HF : Hid (_ = _) := (HV.out.trans this).symm
      clear this HV
      go_wp2_with fail
      go_ret
      exact ⟨ret_bool HF.out, B2.out⟩
  · have : decide (q = 0 ∧ k = a / 8) = false := by simp [hq]
    have HF : Hid (_ = _) := (HV.out.trans this).symm
    clear this HV
    have qq : (q == 0) = false := by simpa using hq
    clear hq
    go_wp2_with fail
    go_ret
    exact ⟨ret_bool HF.out, B2.out⟩
end Go.Proofs.YthlhocneggcekaaGreat
