/-
  Laid together: WalkMath, BridgeMath, DmaMath, MapB, DropC, Kept, PageMath, Short, AuditMath, ShortMath, MPlainB, Ms, AuditB, AuditR, FairMath, PastR.
-/
import Derived.Test.YthlhocneggcekaaGreatB1
import Derived.Test.YthlhocneggcekaaGreatB2
import Derived.Test.YthlhocneggcekaaGreatB3
import Derived.Test.YthlhocneggcekaaGreatB4
import Derived.Test.YthlhocneggcekaaGreatB5
import Derived.Test.YthlhocneggcekaaGreatB6
import Derived.Test.YthlhocneggcekaaGreatB7
import Derived.Test.YthlhocneggcekaaGreatB8
import Derived.Test.YthlhocneggcekaaGreatB9
import Derived.Test.YthlhocneggcekaaGreatB10
import Derived.Test.YthlhocneggcekaaGreatB11
import Derived.Test.YthlhocneggcekaaGreatB12
import Derived.Test.YthlhocneggcekaaGreatB13
import Derived.Test.YthlhocneggcekaaGreatB14
import Derived.Test.YthlhocneggcekaaGreatB15
import Derived.Test.YthlhocneggcekaaGreatB16
import Derived.Test.YthlhocneggcekaaGreatB17
import Derived.Test.YthlhocneggcekaaGreatB18
import Derived.Test.YthlhocneggcekaaGreatB19
import Derived.Test.YthlhocneggcekaaGreatB20
import Derived.Test.YthlhocneggcekaaGreatB21
import Derived.Test.YthlhocneggcekaaGreatB22
import Derived.Test.YthlhocneggcekaaGreatB23
import Derived.Test.YthlhocneggcekaaGreatB24
import Derived.Test.YthlhocneggcekaaGreatB25
import Derived.Test.YthlhocneggcekaaGreatB26
import Derived.Test.YthlhocneggcekaaGreatB27
import Derived.Test.YthlhocneggcekaaGreatB28
import Derived.Test.YthlhocneggcekaaGreatB29
import Derived.Test.YthlhocneggcekaaGreatB30
import Derived.Test.YthlhocneggcekaaGreatB31
import Derived.Test.YthlhocneggcekaaGreatB32
import Derived.Test.YthlhocneggcekaaGreatB33
import Derived.Test.YthlhocneggcekaaGreatB34
import Derived.Test.YthlhocneggcekaaGreatB35
import Derived.Test.YthlhocneggcekaaGreatB36
import Derived.Test.YthlhocneggcekaaGreatB37
import Derived.Test.YthlhocneggcekaaGreatB38
import Derived.Test.YthlhocneggcekaaGreatB39
import Derived.Test.YthlhocneggcekaaGreatB40
import Derived.Test.YthlhocneggcekaaGreatB41
import Derived.Test.YthlhocneggcekaaGreatB42
import Derived.Test.YthlhocneggcekaaGreatB43
import Derived.Test.YthlhocneggcekaaGreatB44
import Derived.Maps.OwnOps
import Derived.Maps.OwnSet
namespace Go.Proofs.YthlhocneggcekaaGreat
open Go.RowKit
theorem wkd_ways {zs : List Int} {root page : Int} (hk : chk zs = 0) (hd : pageB root = true ∧ pageB page = true) :
    (∃ f, ¬ f = 0 ∧ ∀ wr, wkd zs root page wr = ((false, false, false, false, 0), f, 0)) ∨
    (∃ p, ∀ wr, wkd zs root page wr = ((true, true, true, true, p), 0, 0)) ∨
    (∃ p, wkd zs root page false = ((true, true, false, true, p), 0, 0) ∧ wkd zs root page true = ((false, false, false, false, 0), 5, 0)) := by
  obtain ⟨⟨⟨b, r, x, l, p⟩, f⟩, hF⟩ : ∃ F, fnd zs root page = F := ⟨_, rfl⟩
  have hw : ∀ wr, wkd zs root page wr = if f = 0 then (if (r && (x || !wr)) = true then ((b, r, x, l, p), 0, 0) else ((false, false, false, false, 0), 5, 0)) else ((false, false, false, false, 0), f, 0) := by
    intro wr
    rw [wkd, if_pos hk, if_pos hd, wkF, hF]
    by_cases h : f = 0
    · simp only [h, if_true]
      split <;> rfl
    · simp only [h, if_false]
      rfl
  by_cases h : f = 0
  · subst h
    obtain ⟨rfl, rfl⟩ := fnd_good hF
    cases r
    · exact .inl ⟨5, by decide, fun wr => by rw [hw]; rfl⟩
    cases x
    · exact .inr (.inr ⟨p, by rw [hw]; rfl, by rw [hw]; rfl⟩)
    · exact .inr (.inl ⟨p, fun wr => by rw [hw]; rfl⟩)
  · exact .inl ⟨f, h, fun wr => by rw [hw, if_neg h]⟩
theorem chkC_nil : chkC [] = 0 := by decide
theorem tth_get {l : List Tc} {i : Nat} (h : i < l.length) : tth l i = l[i] := by simp [tth, h]
theorem wds_b {d : Int} {wr : Bool} {ds : List Int} {o : Nat} {k : Int} : ∀ (j x : Nat) (s : St), (wds d wr ds o k j x s).b = s.b
  | 0, _, _ => rfl
  | j + 1, x, s => by rw [wds, wds_b j]; rfl
theorem grown_none {w w' : World} (h : Below w.heap.size w w') : w.grownBy w' none := ⟨h.os, h.tape, h.output, h.size, fun k hk _ => h.block k hk⟩
theorem drop_any (v : Value) (l : List Ln) (k d p : Int) (w : World) (h : Ls w v l) (k0 : -9223372036854775808 ≤ k) (k1 : k ≤ 9223372036854775807) :
    Calls Tryz.prog 64 #[v, .agg #[J k, J d, J p]] w fun e w' => (∃ v', e = .returned (.tuple #[v', J (drE l k)]) ∧ Ls w' v' (drC l k d p)) ∧ Below w.heap.size w w' := by
  refine (drop_anyN v l k d p w h k0 k1).mono ?_
  rintro e w' ⟨⟨v', h1, h2, -⟩, h3⟩
  exact ⟨⟨v', h1, h2⟩, h3⟩
theorem drop_at' {v : Value} {l : List Ln} {k d p : Int} {w : World} (h : Ls w v l) (k0 : -9223372036854775808 ≤ k) (k1 : k ≤ 9223372036854775807) {e0 : Int} {c : List Ln} (hE : drE l k = e0) (hC : drC l k d p = c) :
    Calls Tryz.prog 64 #[v, .agg #[J k, J d, J p]] w fun e w' => ∃ b cap, e = .returned (.tuple #[.slice b c.length cap, J e0]) ∧ Ls w' (.slice b c.length cap) c ∧ Below w.heap.size w w' := by
  subst hE hC
  refine (drop_any v l k d p w h k0 k1).mono ?_
  rintro e w' ⟨⟨v', rfl, hs⟩, hb⟩
  obtain ⟨b, cap, rfl, hs'⟩ := hs.shape
  exact ⟨b, cap, rfl, hs', hb⟩
theorem wds_tch {d : Int} {wr : Bool} {ds : List Int} {o : Nat} {k : Int} : ∀ (m x : Nat) (s : St) (t : Tc), t ∈ (wds d wr ds o k m x s).tch → t ∈ s.tch ∨ ∃ i v, i < m ∧ t = (d, ((x + i : Nat) : Int), plc k (x + i), wr, v)
  | 0, _, _, _, h => .inl h
  | m + 1, x, s, t, h => by
    rcases wds_tch m (x + 1) (wd d wr ds o k x s) t h with h | ⟨i, v, hi, h⟩
    · have h' : t ∈ s.tch ++ [(d, (x : Int), plc k x, wr, nth (wdM wr ds o k x s.zs) (plc k x).toNat)] := h
      rcases List.mem_append.1 h' with h' | h'
      · exact .inl h'
      · refine .inr ⟨0, _, by omega, List.mem_singleton.1 h'⟩
    · refine .inr ⟨i + 1, v, by omega, ?_⟩
      rw [h, show x + 1 + i = x + (i + 1) by omega]
theorem do_page {zs : List Int} {b c : Br} {d a n f : Int} {wr : Bool} {ds ms dat : List Int} {tch : List Tc} (hE : doE zs b d a n wr ds = 0) (hp : a % 8 + n ≤ 8) (hR : doR zs b d a n wr ds = (⟨ms, c, dat, tch⟩, f)) :
    ∃ c' k, goT zs b d (a / 8) wr = (c', k, f) ∧ (0 ≤ k ∧ k ≤ 63) ∧ (¬ f = 0 → tch = []) ∧ (f = 0 → c = c') ∧ ∀ t ∈ tch, ∃ i v, i < n.toNat ∧ t = (d, a + (i : Int), plc k (a.toNat + i), wr, v) := by
  obtain ⟨hz, hb, hc⟩ := doE_ok hE
  obtain ⟨hn, hd, ha, hln, hal⟩ := ckA_ok hc
  rw [doR, if_pos hE] at hR
  have hpg : ((a.toNat / 8 : Nat) : Int) = a / 8 := by omega
  obtain ⟨⟨c', k, f'⟩, hg⟩ : ∃ R, goT zs b d ((a.toNat / 8 : Nat) : Int) wr = R := ⟨_, rfl⟩
  have hth : thE zs b d ((a.toNat / 8 : Nat) : Int) = 0 := thE_mk hz hb hd (page_in (by omega))
  obtain ⟨g1, g2, g3, g4, l', g5⟩ := goT_good hth hg
  obtain ⟨m, hm⟩ : ∃ m : Nat, n.toNat = m + 1 := ⟨n.toNat - 1, by omega⟩
  by_cases hf : f' = 0
  · subst hf
    have hrun := page_run (d := d) (wr := wr) (ds := ds) (o := a.toNat) (m := n.toNat) (x := a.toNat) (k := 0) (s := ⟨zs, b, [], []⟩) (by omega) (Nat.le_refl _) (.inl rfl) hg
    rw [hR] at hrun
    have hmin : min n.toNat (8 - a.toNat % 8) = n.toNat := Nat.min_eq_left (by omega)
    rw [hmin, Nat.sub_self, runW_zero, Prod.mk.injEq] at hrun
    obtain ⟨hs, rfl⟩ := hrun
    have hbr := wds_b (d := d) (wr := wr) (ds := ds) (o := a.toNat) (k := k) n.toNat a.toNat ⟨zs, c', [], []⟩
    rw [← hs] at hbr
    refine ⟨c', k, by rw [← hpg]; exact hg, g3, fun e => absurd rfl e, fun _ => hbr, fun t ht => ?_⟩
    have ht' : t ∈ (wds d wr ds a.toNat k n.toNat a.toNat ⟨zs, c', [], []⟩).tch := by rw [← hs]; exact ht
    rcases wds_tch _ _ _ t ht' with h | ⟨i, v, hi, h⟩
    · cases h
    · refine ⟨i, v, hi, ?_⟩
      rw [h, show ((a.toNat + i : Nat) : Int) = a + (i : Int) by omega]
  · rw [hm, runW_fault (.inl rfl) hg hf, Prod.mk.injEq] at hR
    obtain ⟨hs, rfl⟩ := hR
    simp only [St.mk.injEq] at hs
    obtain ⟨rfl, rfl, rfl, rfl⟩ := hs
    exact ⟨c', k, by rw [← hpg]; exact hg, g3, fun _ => rfl, fun e => absurd e hf, fun t ht => by cases ht⟩
def shN (a n : Int) : Int := if a < 0 ∨ n < 1 then n else if n ≤ 8 - a % 8 then n else 8 - a % 8
def shD (a n : Int) (f : Bool) (ds : List Int) : List Int := if a < 0 ∨ n < 1 then ds else if f = true then ds.take (shN a n).toNat else ds
def shX (x : Hp) : Hp := ⟨x.kind, x.num, x.d, x.a, shN x.a x.n, x.wr, shD x.a x.n x.wr x.ds⟩
theorem Sl.upto {w : World} {a : Option Addr} {n c : Nat} {zs : List Int} (h : Sl w (.slice a n c) zs) {k : Nat} (hk : k ≤ zs.length) : Sl w (.slice a k c) (zs.take k) := by
  obtain ⟨a', c', e, hm, h⟩ := h
  simp only [Value.slice.injEq] at e
  obtain ⟨rfl, rfl, rfl⟩ := e
  have hl : (zs.take k).length = k := by rw [List.length_take]; omega
  refine ⟨a, c, by rw [hl], by omega, ?_⟩
  rcases h with rfl | ⟨b, o, rfl, hb, hc⟩
  · exact .inl (by simp)
  · refine .inr ⟨b, o, rfl, hb, fun i hi => ?_⟩
    rw [hl] at hi
    rw [show nth (zs.take k) i = nth zs i by simp [nth, hi]]
    exact hc i (by omega)
theorem Sl.empty {w : World} {a : Option Addr} {c : Nat} {zs : List Int} {k : Nat} (hk : k = 0) (hz : zs = []) : Sl w (.slice a k c) zs := by subst hk hz; exact Sl.nil w a c
abbrev ShC (d a n : Int) (f : Bool) (u : Value) (ds : List Int) (w : World) (e : Ending) (w' : World) : Prop :=
  ∃ ua un uc, e = .returned (.agg #[J d, J a, J (shN a n), .bool f, .slice ua un uc]) ∧ (∀ w0, Sl w0 u ds → Sl w0 (.slice ua un uc) (shD a n f ds)) ∧ Below w.heap.size w w'
theorem shC_mk {d a n m : Int} {f : Bool} {u : Value} {ds : List Int} {w w' : World} {ua : Option Addr} {un uc : Nat} (hn : shN a n = m) (h : ∀ w0, Sl w0 u ds → Sl w0 (.slice ua un uc) (shD a n f ds)) (hb : Below w.heap.size w w') : ShC d a n f u ds w (.returned (.agg #[J d, J a, J m, .bool f, .slice ua un uc])) w' :=
  ⟨ua, un, uc, by rw [hn], h, hb⟩
set_option maxRecDepth 10000 in
set_option maxHeartbeats 2000000 in
theorem short_any {d a n : Int} {f : Bool} {u : Value} {ds : List Int} {w : World} (hs : Slc w u ds) :
    Calls Tryz.prog 29 #[.agg #[J d, J a, J n, .bool f, u]] w fun e w' => ShC d a n f u ds w e w' := by
  obtain ⟨hs, va, vk, rfl, hlk, hkm⟩ := hs
  have HS : Hid (Sl w (.slice va ds.length vk) ds) := hs
  unfold maxLen at hkm
  have hlk' : (ds.length : Int) ≤ vk := by omega
  by_cases h0 : a < 0 ∨ n < 1
  · have HN : Hid (shN a n = n) := by show _ = _; rw [shN, if_pos h0]
    have HD : Hid (shD a n f ds = ds) := by show _ = _; rw [shD, if_pos h0]
    have ways : a < 0 ∨ (¬ a < 0 ∧ n < 1) := by omega
    clear h0 hs
    rcases ways with h1 | ⟨h1, h2⟩
    all_goals
      go_enter Tryz.func29, Tryz.ntmps29
      go_wp2
      refine bodyPost_ret (v := .agg #[J d, J a, J (n), .bool f, .slice va ds.length vk]) (by simp [results, Tryz.results29, go_sem, *]) rfl (shC_mk HN.out (fun w0 h0 => by rw [HD.out]; exact h0) ?_)
      (repeat (first | with_reducible exact Below.refl _ _ | with_reducible refine bel_alloc ?_ _ | (with_reducible refine bel_set ?_ ?_ _; (focus (dsimp only; omega)))))
  have h1 : ¬ a < 0 := by omega
  have h2 : ¬ n < 1 := by omega
  have e1 : a.tmod 8 = a % 8 := Int.tmod_eq_emod_of_nonneg (by omega)
  have r1 : 0 ≤ a % 8 := by omega
  have r2 : a % 8 < 8 := by omega
  obtain ⟨rr, hrr⟩ : ∃ r, a % 8 = r := ⟨_, rfl⟩
  rw [hrr] at e1 r1 r2
  have HRR : Hid (a % 8 = rr) := hrr
  clear hrr hs
  by_cases hm : n ≤ 8 - rr
  · have HN : Hid (shN a n = n) := by show _ = _; rw [shN, if_neg h0, HRR.out, if_pos hm]
    cases f with
    | false =>
      have HD : Hid (shD a n false ds = ds) := by show _ = _; rw [shD, if_neg h0]; rfl
      clear h0
      go_enter Tryz.func29, Tryz.ntmps29
      go_wp2
      refine bodyPost_ret (v := .agg #[J d, J a, J (n), .bool false, .slice va ds.length vk]) (by simp [results, Tryz.results29, go_sem, *]) rfl (shC_mk HN.out (fun w0 h0 => by rw [HD.out]; exact h0) ?_)
      (repeat (first | with_reducible exact Below.refl _ _ | with_reducible refine bel_alloc ?_ _ | (with_reducible refine bel_set ?_ ?_ _; (focus (dsimp only; omega)))))
    | true =>
      have HD : Hid (shD a n true ds = ds.take (n).toNat) := by show _ = _; rw [shD, if_neg h0, HN.out]; rfl
      clear h0
      by_cases hl : (ds.length : Int) ≤ n
      · have HT : Hid (shD a n true ds = ds) := by show _ = _; rw [HD.out, List.take_of_length_le (by omega)]
        by_cases hz : ds.length = 0
        · obtain rfl : ds = [] := List.eq_nil_of_length_eq_zero hz
          clear HD hz
          cases va with
          | none =>
            go_enter Tryz.func29, Tryz.ntmps29
            go_wp2
            skip
            refine bodyPost_ret (v := .agg #[J d, J a, J (n), .bool true, .slice none 0 vk]) (by simp [results, Tryz.results29, go_sem, *]) rfl (shC_mk HN.out (fun w0 h0 => Sl.empty rfl HT.out) ?_)
            (repeat (first | with_reducible exact Below.refl _ _ | with_reducible refine bel_alloc ?_ _ | (with_reducible refine bel_set ?_ ?_ _; (focus (dsimp only; omega)))))
          | some ad =>
            by_cases hc0 : vk = 0
            · subst hc0
              go_enter Tryz.func29, Tryz.ntmps29
              go_wp2
              skip
              refine bodyPost_ret (v := .agg #[J d, J a, J (n), .bool true, .slice (some ad) 0 0]) (by simp [results, Tryz.results29, go_sem, *]) rfl (shC_mk HN.out (fun w0 h0 => Sl.empty rfl HT.out) ?_)
              (repeat (first | with_reducible exact Below.refl _ _ | with_reducible refine bel_alloc ?_ _ | (with_reducible refine bel_set ?_ ?_ _; (focus (dsimp only; omega)))))
            · skip
              go_enter Tryz.func29, Tryz.ntmps29
              go_wp2
              skip
              refine bodyPost_ret (v := .agg #[J d, J a, J (n), .bool true, .slice (some ad) 0 vk]) (by simp [results, Tryz.results29, go_sem, *]) rfl (shC_mk HN.out (fun w0 h0 => Sl.empty rfl HT.out) ?_)
              (repeat (first | with_reducible exact Below.refl _ _ | with_reducible refine bel_alloc ?_ _ | (with_reducible refine bel_set ?_ ?_ _; (focus (dsimp only; omega)))))
        · obtain ⟨b, o, hva, -⟩ := HS.out.open (i := 0) (by omega)
          subst hva
          have hc0 : ¬ vk = 0 := by omega
          go_enter Tryz.func29, Tryz.ntmps29
          go_wp2
          refine bodyPost_ret (v := .agg #[J d, J a, J (n), .bool true, .slice (some ⟨b, o, none⟩) ds.length vk]) (by simp [results, Tryz.results29, go_sem, *]) rfl (shC_mk HN.out (fun w0 h0 => by rw [HT.out]; exact h0) ?_)
          (repeat (first | with_reducible exact Below.refl _ _ | with_reducible refine bel_alloc ?_ _ | (with_reducible refine bel_set ?_ ?_ _; (focus (dsimp only; omega)))))
      · obtain ⟨b, o, hva, -⟩ := HS.out.open (i := 0) (by omega)
        subst hva
        have hc0 : ¬ vk = 0 := by omega
        have hl2 : n < (ds.length : Int) := by omega
        have hl3 : n ≤ (vk : Int) := by omega
        have hl4 : 0 ≤ n := by omega
        go_enter Tryz.func29, Tryz.ntmps29
        go_wp2
        refine bodyPost_ret (v := .agg #[J d, J a, J (n), .bool true, .slice (some ⟨b, o, none⟩) (n).toNat vk]) (by simp [results, Tryz.results29, go_sem, *]) rfl (shC_mk HN.out (fun w0 h0 => by rw [HD.out]; exact h0.upto (by omega)) ?_)
        (repeat (first | with_reducible exact Below.refl _ _ | with_reducible refine bel_alloc ?_ _ | (with_reducible refine bel_set ?_ ?_ _; (focus (dsimp only; omega)))))
  · have HN : Hid (shN a n = 8 - rr) := by show _ = _; rw [shN, if_neg h0, HRR.out, if_neg hm]
    have hm2 : 8 - rr < n := by omega
    cases f with
    | false =>
      have HD : Hid (shD a n false ds = ds) := by show _ = _; rw [shD, if_neg h0]; rfl
      clear h0
      go_enter Tryz.func29, Tryz.ntmps29
      go_wp2
      refine bodyPost_ret (v := .agg #[J d, J a, J (8 - rr), .bool false, .slice va ds.length vk]) (by simp [results, Tryz.results29, go_sem, *]) rfl (shC_mk HN.out (fun w0 h0 => by rw [HD.out]; exact h0) ?_)
      (repeat (first | with_reducible exact Below.refl _ _ | with_reducible refine bel_alloc ?_ _ | (with_reducible refine bel_set ?_ ?_ _; (focus (dsimp only; omega)))))
    | true =>
      have HD : Hid (shD a n true ds = ds.take (8 - rr).toNat) := by show _ = _; rw [shD, if_neg h0, HN.out]; rfl
      clear h0
      by_cases hl : (ds.length : Int) ≤ 8 - rr
      · have HT : Hid (shD a n true ds = ds) := by show _ = _; rw [HD.out, List.take_of_length_le (by omega)]
        by_cases hz : ds.length = 0
        · obtain rfl : ds = [] := List.eq_nil_of_length_eq_zero hz
          clear HD hz
          cases va with
          | none =>
            go_enter Tryz.func29, Tryz.ntmps29
            go_wp2
            skip
            refine bodyPost_ret (v := .agg #[J d, J a, J (8 - rr), .bool true, .slice none 0 vk]) (by simp [results, Tryz.results29, go_sem, *]) rfl (shC_mk HN.out (fun w0 h0 => Sl.empty rfl HT.out) ?_)
            (repeat (first | with_reducible exact Below.refl _ _ | with_reducible refine bel_alloc ?_ _ | (with_reducible refine bel_set ?_ ?_ _; (focus (dsimp only; omega)))))
          | some ad =>
            by_cases hc0 : vk = 0
            · subst hc0
              go_enter Tryz.func29, Tryz.ntmps29
              go_wp2
              skip
              refine bodyPost_ret (v := .agg #[J d, J a, J (8 - rr), .bool true, .slice (some ad) 0 0]) (by simp [results, Tryz.results29, go_sem, *]) rfl (shC_mk HN.out (fun w0 h0 => Sl.empty rfl HT.out) ?_)
              (repeat (first | with_reducible exact Below.refl _ _ | with_reducible refine bel_alloc ?_ _ | (with_reducible refine bel_set ?_ ?_ _; (focus (dsimp only; omega)))))
            · skip
              go_enter Tryz.func29, Tryz.ntmps29
              go_wp2
              skip
              refine bodyPost_ret (v := .agg #[J d, J a, J (8 - rr), .bool true, .slice (some ad) 0 vk]) (by simp [results, Tryz.results29, go_sem, *]) rfl (shC_mk HN.out (fun w0 h0 => Sl.empty rfl HT.out) ?_)
              (repeat (first | with_reducible exact Below.refl _ _ | with_reducible refine bel_alloc ?_ _ | (with_reducible refine bel_set ?_ ?_ _; (focus (dsimp only; omega)))))
        · obtain ⟨b, o, hva, -⟩ := HS.out.open (i := 0) (by omega)
          subst hva
          have hc0 : ¬ vk = 0 := by omega
          go_enter Tryz.func29, Tryz.ntmps29
          go_wp2
          refine bodyPost_ret (v := .agg #[J d, J a, J (8 - rr), .bool true, .slice (some ⟨b, o, none⟩) ds.length vk]) (by simp [results, Tryz.results29, go_sem, *]) rfl (shC_mk HN.out (fun w0 h0 => by rw [HT.out]; exact h0) ?_)
          (repeat (first | with_reducible exact Below.refl _ _ | with_reducible refine bel_alloc ?_ _ | (with_reducible refine bel_set ?_ ?_ _; (focus (dsimp only; omega)))))
      · obtain ⟨b, o, hva, -⟩ := HS.out.open (i := 0) (by omega)
        subst hva
        have hc0 : ¬ vk = 0 := by omega
        have hl2 : 8 - rr < (ds.length : Int) := by omega
        have hl3 : 8 - rr ≤ (vk : Int) := by omega
        have hl4 : 0 ≤ 8 - rr := by omega
        go_enter Tryz.func29, Tryz.ntmps29
        go_wp2
        refine bodyPost_ret (v := .agg #[J d, J a, J (8 - rr), .bool true, .slice (some ⟨b, o, none⟩) (8 - rr).toNat vk]) (by simp [results, Tryz.results29, go_sem, *]) rfl (shC_mk HN.out (fun w0 h0 => by rw [HD.out]; exact h0.upto (by omega)) ?_)
        (repeat (first | with_reducible exact Below.refl _ _ | with_reducible refine bel_alloc ?_ _ | (with_reducible refine bel_set ?_ ?_ _; (focus (dsimp only; omega)))))
def mth (l : List Mc) (i : Nat) : Mc := (l[i]?).getD M0
theorem mth_drop {l : List Mc} {i k : Nat} : mth (l.drop k) i = mth l (k + i) := by simp [mth]
def ckT (t : Tc) : Int :=
  if (0 ≤ t.1 ∧ t.1 ≤ 7) ∧ (0 ≤ t.2.1 ∧ t.2.1 ≤ 511) ∧ (0 ≤ t.2.2.1 ∧ t.2.2.1 ≤ 511) then (if 0 ≤ t.2.2.2.2 ∧ t.2.2.2.2 ≤ 65535 then (if t.2.1 % 8 = t.2.2.1 % 8 then 0 else 3) else 2) else 4
theorem ckT_ok {t : Tc} (h : ckT t = 0) : (0 ≤ t.1 ∧ t.1 ≤ 7) ∧ (0 ≤ t.2.1 ∧ t.2.1 ≤ 511) ∧ (0 ≤ t.2.2.1 ∧ t.2.2.1 ≤ 511) ∧ (0 ≤ t.2.2.2.2 ∧ t.2.2.2.2 ≤ 65535) ∧ t.2.1 % 8 = t.2.2.1 % 8 := by
  unfold ckT at h
  by_cases h1 : (0 ≤ t.1 ∧ t.1 ≤ 7) ∧ (0 ≤ t.2.1 ∧ t.2.1 ≤ 511) ∧ (0 ≤ t.2.2.1 ∧ t.2.2.1 ≤ 511)
  · rw [if_pos h1] at h
    by_cases h2 : 0 ≤ t.2.2.2.2 ∧ t.2.2.2.2 ≤ 65535
    · rw [if_pos h2] at h
      by_cases h3 : t.2.1 % 8 = t.2.2.1 % 8
      · exact ⟨h1.1, h1.2.1, h1.2.2, h2, h3⟩
      · rw [if_neg h3] at h; exact absurd h (by decide)
    · rw [if_neg h2] at h; exact absurd h (by decide)
  · rw [if_neg h1] at h; exact absurd h (by decide)
theorem ckT_mk {t : Tc} (h1 : 0 ≤ t.1 ∧ t.1 ≤ 7) (h2 : 0 ≤ t.2.1 ∧ t.2.1 ≤ 511) (h3 : 0 ≤ t.2.2.1 ∧ t.2.2.1 ≤ 511) (h4 : 0 ≤ t.2.2.2.2 ∧ t.2.2.2.2 ≤ 65535) (h5 : t.2.1 % 8 = t.2.2.1 % 8) : ckT t = 0 := by
  rw [ckT, if_pos ⟨h1, h2, h3⟩, if_pos h4, if_pos h5]
def lets (m : Mc) (t : Tc) : Bool := decide ((goT m.zs (m.b.with []) t.1 (t.2.1 / 8) t.2.2.2.1).2.2 = 0 ∧ (goT m.zs (m.b.with []) t.1 (t.2.1 / 8) t.2.2.2.1).2.1 = t.2.2.1 / 8)
def mcE : List Mc → Int
  | [] => 0
  | m :: l => if chkM m = 0 then mcE l else chkM m
theorem mcE_zero : ∀ {l : List Mc}, mcE l = 0 → ∀ i, i < l.length → chkM (mth l i) = 0
  | [], _, i, hi => absurd hi (Nat.not_lt_zero _)
  | m :: l, h, i, hi => by
    unfold mcE at h
    by_cases e : chkM m = 0
    · rw [if_pos e] at h
      cases i with
      | zero => exact e
      | succ i => exact mcE_zero h i (by simpa using hi)
    · rw [if_neg e] at h; exact absurd h e
theorem mcE_mk : ∀ {l : List Mc}, (∀ i, i < l.length → chkM (mth l i) = 0) → mcE l = 0
  | [], _ => rfl
  | m :: l, h => by
    rw [mcE, if_pos (show chkM m = 0 from h 0 (by simp))]
    exact mcE_mk fun i hi => h (i + 1) (by simpa using hi)
theorem mcE_bad : ∀ {l : List Mc} {i : Nat}, (∀ j, j < i → chkM (mth l j) = 0) → i < l.length → ¬ chkM (mth l i) = 0 → mcE l = chkM (mth l i)
  | [], _, _, hi, _ => absurd hi (Nat.not_lt_zero _)
  | m :: l, 0, _, _, hn => by rw [mcE, if_neg (show ¬ chkM m = 0 from hn)]; rfl
  | m :: l, i + 1, h, hi, hn => by
    rw [mcE, if_pos (show chkM m = 0 from h 0 (by omega))]
    exact mcE_bad (fun j hj => h (j + 1) (by omega)) (by simpa using hi) hn
def frE (l : List Mc) (t : Tc) : Int := if l.length ≤ 121 then (if mcE l = 0 then ckT t else mcE l) else 1
theorem frE_ok {l : List Mc} {t : Tc} (h : frE l t = 0) : l.length ≤ 121 ∧ mcE l = 0 ∧ ckT t = 0 := by
  unfold frE at h
  by_cases h1 : l.length ≤ 121
  · rw [if_pos h1] at h
    by_cases h2 : mcE l = 0
    · rw [if_pos h2] at h; exact ⟨h1, h2, h⟩
    · rw [if_neg h2] at h; exact absurd h h2
  · rw [if_neg h1] at h; exact absurd h (by decide)
theorem frE_mk {l : List Mc} {t : Tc} (h1 : l.length ≤ 121) (h2 : mcE l = 0) (h3 : ckT t = 0) : frE l t = 0 := by rw [frE, if_pos h1, if_pos h2, h3]
def IsLast (l : List Mc) (t : Tc) (k : Int) : Prop := (-1 ≤ k ∧ k < l.length) ∧ (0 ≤ k → lets (mth l k.toNat) t = true) ∧ ∀ j : Nat, k < j → j < l.length → lets (mth l j) t = false
theorem thE_lets {m : Mc} {t : Tc} (hm : chkM m = 0) (ht : ckT t = 0) : thE m.zs (m.b.with []) t.1 (t.2.1 / 8) = 0 := by
  obtain ⟨h1, h2, h3⟩ := chkM_ok hm
  obtain ⟨k1, k2, k3, k4, k5⟩ := ckT_ok ht
  exact thE_mk h1 (chkB_with h3 chkC_nil) k1 (by omega)
theorem nth_set_word {zs : List Int} {i j : Nat} {z : Int} (h : wordB (nth zs j) = true) (hz : wordB z = true) : wordB (nth (zs.set i z) j) = true := by
  by_cases e : i = j
  · subst e
    by_cases hl : i < zs.length
    · have : nth (zs.set i z) i = z := by simp [nth, hl]
      rw [this]; exact hz
    · rw [List.set_eq_of_length_le (by omega)]; exact h
  · have : nth (zs.set i z) j = nth zs j := by simp [nth, e]
    rw [this]; exact h
theorem rep_word {zs ds : List Int} {T : List Tc} {i : Nat} (hz : wordB (nth zs i) = true) : ∀ k, (∀ j, j < k → (tth T j).2.2.2.1 = true → wordB (nth ds j) = true) → wordB (nth (rep zs ds T k) i) = true
  | 0, _ => hz
  | k + 1, h => by
    have ih := rep_word hz k (fun j hj => h j (by omega))
    unfold rep
    split
    · next e => exact nth_set_word ih (h k (by omega) e)
    · exact ih
theorem do_words {zs : List Int} {b c : Br} {d a n f : Int} {fw : Bool} {ds ms dat : List Int} {tch : List Tc} (hE : doE zs b d a n fw ds = 0) (hR : doR zs b d a n fw ds = (⟨ms, c, dat, tch⟩, f)) {u : Tc} (hu : u ∈ tch) : wordB u.2.2.2.2 = true := by
  obtain ⟨hz, hb, hc⟩ := doE_ok hE
  obtain ⟨hn, hd, ha, hln, hal⟩ := ckA_ok hc
  obtain ⟨-, -, -, -, -, -, -, g, gl, -⟩ := do_held hE hR
  obtain ⟨j, hj, e⟩ := List.getElem_of_mem hu
  obtain ⟨p, hp, ht⟩ := g j hj
  rw [tth_get hj, e] at ht
  rw [ht]
  refine rep_word ((chk_ok hz).2 _ (by omega)) (j + 1) (fun i hi hw => ?_)
  obtain ⟨p', -, ht'⟩ := g i (by omega)
  rw [ht'] at hw
  exact all_nth hal (by have := gl hw; omega)
theorem hp_short {m y : Mc} {x : Hp} {t : To} (h : hpE m (shX x) = 0) (hr : hpR m (shX x) = (y, t)) (hk : x.kind = 3) :
    ∃ c k, thE m.zs m.b x.d (x.a / 8) = 0 ∧ goT m.zs m.b x.d (x.a / 8) x.wr = (c, k, t.f) ∧ (0 ≤ k ∧ k ≤ 63) ∧ (0 ≤ x.a ∧ x.a ≤ 511) ∧ (0 ≤ x.d ∧ x.d ≤ 7) ∧ (0 ≤ t.f ∧ t.f ≤ 5) ∧ (¬ t.f = 0 → t.tch = []) ∧ (t.f = 0 → y.b = c) ∧
      ∀ u ∈ t.tch, u.1 = x.d ∧ u.2.1 / 8 = x.a / 8 ∧ u.2.2.2.1 = x.wr ∧ u.2.2.1 / 8 = k ∧ ckT u = 0 := by
  have hk' : (shX x).kind = 3 := hk
  rw [hpR, if_pos h, hpG, if_neg (by omega), if_neg (by omega), if_pos hk'] at hr
  have hcm : chkM m = 0 := by
    unfold hpE at h
    by_cases hc : chkM m = 0
    · exact hc
    · rw [if_neg hc] at h; exact absurd h hc
  have hck : ckA x.d x.a (shN x.a x.n) x.wr (shD x.a x.n x.wr x.ds) = 0 := by
    unfold hpE at h
    rw [if_pos hcm, if_neg (by omega), if_neg (by omega), if_pos hk'] at h; exact h
  obtain ⟨hz, hh, hb⟩ := chkM_ok hcm
  obtain ⟨hn, hd, ha, hln, hal⟩ := ckA_ok hck
  have hE : doE m.zs m.b x.d x.a (shN x.a x.n) x.wr (shD x.a x.n x.wr x.ds) = 0 := doE_mk hz hb hck
  obtain ⟨⟨⟨ms, c, dat, tch⟩, f⟩, hR⟩ : ∃ R, doR m.zs m.b x.d x.a (shN x.a x.n) x.wr (shD x.a x.n x.wr x.ds) = R := ⟨_, rfl⟩
  have hr' : (⟨(doR m.zs m.b x.d x.a (shN x.a x.n) x.wr (shD x.a x.n x.wr x.ds)).1.zs, m.h, (doR m.zs m.b x.d x.a (shN x.a x.n) x.wr (shD x.a x.n x.wr x.ds)).1.b⟩,
    ⟨decide ((doR m.zs m.b x.d x.a (shN x.a x.n) x.wr (shD x.a x.n x.wr x.ds)).2 = 0), (doR m.zs m.b x.d x.a (shN x.a x.n) x.wr (shD x.a x.n x.wr x.ds)).1.dat, (doR m.zs m.b x.d x.a (shN x.a x.n) x.wr (shD x.a x.n x.wr x.ds)).2, (doR m.zs m.b x.d x.a (shN x.a x.n) x.wr (shD x.a x.n x.wr x.ds)).1.tch⟩) = (y, t) := hr
  rw [hR] at hr'
  simp only [Prod.mk.injEq] at hr'
  obtain ⟨rfl, rfl⟩ := hr'
  have hpg : x.a % 8 + shN x.a x.n ≤ 8 := by
    by_cases h0 : x.a < 0 ∨ x.n < 1
    · have e : shN x.a x.n = x.n := by rw [shN, if_pos h0]
      rw [e] at hn
      omega
    · rw [shN, if_neg h0]
      split <;> omega
  obtain ⟨c', k, hg, hk1, hf, hc, ht⟩ := do_page hE hpg hR
  obtain ⟨-, -, -, hfr, -⟩ := do_held hE hR
  refine ⟨c', k, thE_mk hz hb hd (by omega), hg, hk1, by omega, hd, hfr, hf, hc, fun u hu => ?_⟩
  have hwd := do_words hE hR hu
  obtain ⟨i, v, hi, rfl⟩ := ht u hu
  simp only [wordB, decide_eq_true_eq] at hwd
  have hpl : plc k (x.a.toNat + i) = k * 8 + (x.a + (i : Int)) % 8 := by unfold plc; omega
  refine ⟨rfl, by show (x.a + (i : Int)) / 8 = _; omega, rfl, by show plc k _ / 8 = k; rw [hpl]; omega, ckT_mk hd (by show 0 ≤ x.a + (i : Int) ∧ x.a + (i : Int) ≤ 511; omega) (by show 0 ≤ plc k _ ∧ plc k _ ≤ 511; rw [hpl]; omega) hwd (by show (x.a + (i : Int)) % 8 = plc k _ % 8; rw [hpl]; omega)⟩
def plMc (m : Mc) : Mc := ⟨m.zs, m.h, m.b.with []⟩
theorem IsM.bare {w : World} {m : Mc} {cs : Array Value} (h : IsM w m cs) : IsM w (plMc m) (cs.setIfInBounds 6 (.slice none 0 0)) := by
  obtain ⟨a1, n1, c1, a2, n2, c2, a3, n3, c3, rfl, h1, h2, h3⟩ := h
  exact ⟨a1, n1, c1, a2, n2, c2, none, 0, 0, by simp [plMc, Br.with], h1, h2, Ls.nothing _⟩
theorem Box.fiveOn {w : World} {n : Nat} {t : TypeId} {a0 a1 a2 a3 a4 a5 a6 : Value} (h : Box w n t #[a0, a1, a2, a3, a4, a5, a6]) (u2 u3 u4 u5 u6 : Value) :
    Box (((((w.setCell ⟨n, 2, none⟩ u2).setCell ⟨n, 3, none⟩ u3).setCell ⟨n, 4, none⟩ u4).setCell ⟨n, 5, none⟩ u5).setCell ⟨n, 6, none⟩ u6) n t #[a0, a1, u2, u3, u4, u5, u6] := ((((h.set 2 u2).set 3 u3).set 4 u4).set 5 u5).set 6 u6
theorem bel_fiveOn {a w : World} {n : Nat} (hp : a.heap.size ≤ n) (h : Below a.heap.size a w) (u2 u3 u4 u5 u6 : Value) :
    Below a.heap.size a (((((w.setCell ⟨n, 2, none⟩ u2).setCell ⟨n, 3, none⟩ u3).setCell ⟨n, 4, none⟩ u4).setCell ⟨n, 5, none⟩ u5).setCell ⟨n, 6, none⟩ u6) :=
  bel_set (p := ⟨n, 6, none⟩) hp (bel_set (p := ⟨n, 5, none⟩) hp (bel_set (p := ⟨n, 4, none⟩) hp (bel_set (p := ⟨n, 3, none⟩) hp (bel_set (p := ⟨n, 2, none⟩) hp h u2) u3) u4) u5) u6
theorem ts_at {w w' : World} {va : Option Addr} {n vk : Nat} {l : List Tc} (h : Ts w (.slice va n vk) l) (hb : Below w.heap.size w w') {i : Nat} (hi : i < l.length) :
    ∃ b o, va = some ⟨b, o, none⟩ ∧ b < w'.heap.size ∧ AtT w' b (o + i * 5) (tth l i) := by
  obtain ⟨a', c', e', -, -, q⟩ := h
  simp only [Value.slice.injEq] at e'
  rcases q with q | ⟨b', o', q, q2, q3⟩
  · rw [q] at hi; simp at hi
  · exact ⟨b', o', by rw [e'.1, q], Nat.lt_of_lt_of_le q2 hb.size, (q3 i hi).keep hb q2⟩
def AtRow (w : World) (b o : Nat) (cs : Array Value) : Prop := ∀ j v, cs[j]? = some v → w.cell? ⟨b, o + j, none⟩ = some v
theorem AtRow.keep {w w' : World} {b o : Nat} {cs : Array Value} (h : AtRow w b o cs) (hb : Below w.heap.size w w') (hl : b < w.heap.size) : AtRow w' b o cs := fun j v hv => ((bcell hb).1 b _ hl).trans (h j v hv)
def AtM (w : World) (b o : Nat) (m : Mc) : Prop := ∃ cs, IsM w m cs ∧ AtRow w b o cs
theorem AtM.keep {w w' : World} {b o : Nat} {m : Mc} (h : AtM w b o m) (hb : Below w.heap.size w w') (hl : b < w.heap.size) : AtM w' b o m := by
  obtain ⟨cs, h1, h2⟩ := h; exact ⟨cs, h1.keep hb, h2.keep hb hl⟩
def Ms (w : World) (v : Value) (l : List Mc) : Prop :=
  ∃ a cap, v = .slice a l.length cap ∧ l.length ≤ cap ∧ cap ≤ maxLen ∧
    (l = [] ∨ ∃ b o, a = some ⟨b, o, none⟩ ∧ b < w.heap.size ∧ ∀ i, i < l.length → AtM w b (o + i * 16) (mth l i))
theorem Ms.keep {w w' : World} {v : Value} {l : List Mc} (h : Ms w v l) (hb : Below w.heap.size w w') : Ms w' v l := by
  obtain ⟨a, cap, rfl, hl, hm, h⟩ := h
  refine ⟨a, cap, rfl, hl, hm, h.imp id ?_⟩
  rintro ⟨b, o, rfl, hbl, hc⟩
  exact ⟨b, o, rfl, Nat.lt_of_lt_of_le hbl hb.size, fun i hi => (hc i hi).keep hb hbl⟩
theorem Ms.shape {w : World} {v : Value} {l : List Mc} (h : Ms w v l) : ∃ a cap, v = .slice a l.length cap ∧ l.length ≤ cap ∧ cap ≤ maxLen := by
  obtain ⟨a, cap, h, k1, k2, _⟩ := h; exact ⟨a, cap, h, k1, k2⟩
theorem Ms.at {w w' : World} {a : Option Addr} {n cap : Nat} {l : List Mc} (h : Ms w (.slice a n cap) l) (hb : Below w.heap.size w w') {i : Nat} (hi : i < l.length) :
    ∃ b o cs, a = some ⟨b, o, none⟩ ∧ b < w'.heap.size ∧ IsM w' (mth l i) cs ∧ AtRow w' b (o + i * 16) cs := by
  obtain ⟨a', c', e', -, -, q⟩ := h
  simp only [Value.slice.injEq] at e'
  rcases q with q | ⟨b', o', q, q2, q3⟩
  · rw [q] at hi; simp at hi
  · obtain ⟨cs, h1, h2⟩ := (q3 i hi).keep hb q2
    exact ⟨b', o', cs, by rw [e'.1, q], Nat.lt_of_lt_of_le q2 hb.size, h1, h2⟩
theorem Ms.drop {w : World} {b o n cap : Nat} {l : List Mc} (h : Ms w (.slice (some ⟨b, o, none⟩) n cap) l) {k : Nat} (hk : k ≤ l.length) : Ms w (.slice (some ⟨b, o + k * 16, none⟩) (l.length - k) (cap - k)) (l.drop k) := by
  obtain ⟨a', c', e', h1, h2, q⟩ := h
  simp only [Value.slice.injEq] at e'
  obtain ⟨rfl, rfl, rfl⟩ := e'
  refine ⟨_, _, by rw [List.length_drop], by rw [List.length_drop]; omega, by omega, ?_⟩
  rcases q with q | ⟨b', o', q, q2, q3⟩
  · exact .inl (by rw [q]; simp)
  · simp only [Option.some.injEq, Addr.mk.injEq] at q
    obtain ⟨rfl, rfl, -⟩ := q
    refine .inr ⟨b, _, rfl, q2, fun i hi => ?_⟩
    rw [List.length_drop] at hi
    rw [mth_drop, show o + k * 16 + i * 16 = o + (k + i) * 16 by omega]
    exact q3 _ (by omega)
section
variable {P : Program}
theorem run_loadVar_off (w : World) (g o : Nat) (ty : TypeId) (cs : Array Value) (d : TypeDesc) (hg : AtRow w g o cs)
    (hu : P.underlying ty = some d) (hd : (match d with | .struct _ | .array _ _ => true | _ => false) = true) (hi : (P.info? ty).map (·.size) = some cs.size) :
    (loadVar ty ⟨g, o, none⟩).run P w = .ok (.agg cs) w := by
  have hl : (loadCells ⟨g, o, none⟩ cs.toList.length).run P w = .ok cs.toList.toArray w :=
    run_loadCells_list (P := P) w ⟨g, o, none⟩ cs.toList (fun j v hv => by
      have hadd : (⟨g, o, none⟩ : Addr).add j = ⟨g, o + j, none⟩ := by unfold Addr.add; split <;> simp_all
      rw [hadd]
      exact hg j v (by simpa using hv))
  cases hq : P.info? ty with
  | none => simp [hq] at hi
  | some i =>
    have hs : i.size = cs.size := by simpa [hq] using hi
    have hagg : (isAgg ty).run P w = .ok true w := by
      unfold isAgg
      rw [Sem.run_bind, run_underlying hu w]
      cases d <;> simp_all
    simp only [Array.length_toList, Array.toArray_toList] at hl
    simp [loadVar, Sem.run_bind, hagg, sizeOf, typeInfo, hq, hs, hl]
theorem wp_load_off {o : Oper} {a : Act} {w : World} {K : Act → World → Prop} {Q : Exit → Act → World → Prop} (ty : TypeId) (x : Operand) (ho : o.op = .load ty x)
    (g q : Nat) (hx : a.eval x = .pointer (some ⟨g, q, none⟩)) (cs : Array Value) (d : TypeDesc) (hg : AtRow w g q cs)
    (hu : P.underlying ty = some d) (hd : (match d with | .struct _ | .array _ _ => true | _ => false) = true) (hi : (P.info? ty).map (·.size) = some cs.size)
    (h : K (a.put o.dst (.agg cs)) w) : o.wp P a w K Q := by
  unfold Oper.wp execOp
  simp only [ho, hx, Instr.loadAt, Instr.sureAddr, Sem.run_bind, Sem.run_pure, Result.andThen_ok, run_loadVar_off w g q ty cs d hg hu hd hi]
  exact h
theorem wpList_load_off {ops : Array Oper} {rest : List Oper} {o : Oper} {a : Act} {w : World} {Q : Exit → Act → World → Prop} (hgd : o.guard = none) (ty : TypeId) (x : Operand) (ho : o.op = .load ty x)
    (g q : Nat) (hx : a.eval x = .pointer (some ⟨g, q, none⟩)) (cs : Array Value) (d : TypeDesc) (hg : AtRow w g q cs)
    (hu : P.underlying ty = some d) (hd : (match d with | .struct _ | .array _ _ => true | _ => false) = true) (hi : (P.info? ty).map (·.size) = some cs.size)
    (h : wpList P ops Q rest (a.put o.dst (.agg cs)) w) : wpList P ops Q (o :: rest) a w :=
  wpList_plain hgd fun _ hK => wp_load_off ty x ho g q hx cs d hg hu hd hi (hK _ _ h)
end
theorem flat16_at : ∀ {css : List (Array Value)}, (∀ c ∈ css, c.size = 16) → ∀ {i j : Nat} {cs : Array Value} {v : Value}, css[i]? = some cs → cs[j]? = some v → (css.flatMap Array.toList)[i * 16 + j]? = some v
  | [], _, i, _, _, _, hi, _ => by simp at hi
  | c :: css, h, 0, j, cs, v, hi, hj => by
    simp only [List.getElem?_cons_zero, Option.some.injEq] at hi
    subst hi
    have hl : j < c.toList.length := by
      rw [Array.length_toList]
      rcases Nat.lt_or_ge j c.size with k | k
      · exact k
      · rw [Array.getElem?_eq_none k] at hj; exact absurd hj (by simp)
    rw [List.flatMap_cons, Nat.zero_mul, Nat.zero_add, List.getElem?_append_left hl, Array.getElem?_toList]
    exact hj
  | c :: css, h, i + 1, j, cs, v, hi, hj => by
    have hc : c.toList.length = 16 := by rw [Array.length_toList]; exact h c (by simp)
    rw [List.flatMap_cons, List.getElem?_append_right (by omega), hc, show (i + 1) * 16 + j - 16 = i * 16 + j by omega]
    exact flat16_at (fun c' hc' => h c' (by simp [hc'])) (by simpa using hi) hj
theorem list16 {cs : List Value} (h : cs.length = 16) : ∃ c0 c1 c2 c3 c4 c5 c6 c7 c8 c9 c10 c11 c12 c13 c14 c15, cs = [c0, c1, c2, c3, c4, c5, c6, c7, c8, c9, c10, c11, c12, c13, c14, c15] := by
  match cs, h with
  | [c0, c1, c2, c3, c4, c5, c6, c7, c8, c9, c10, c11, c12, c13, c14, c15], _ => exact ⟨c0, c1, c2, c3, c4, c5, c6, c7, c8, c9, c10, c11, c12, c13, c14, c15, rfl⟩
theorem row16 {cs : Array Value} (h : cs.size = 16) : ∃ c0 c1 c2 c3 c4 c5 c6 c7 c8 c9 c10 c11 c12 c13 c14 c15, cs = #[c0, c1, c2, c3, c4, c5, c6, c7, c8, c9, c10, c11, c12, c13, c14, c15] := by
  obtain ⟨l⟩ := cs
  obtain ⟨c0, c1, c2, c3, c4, c5, c6, c7, c8, c9, c10, c11, c12, c13, c14, c15, rfl⟩ := list16 (cs := l) h
  exact ⟨c0, c1, c2, c3, c4, c5, c6, c7, c8, c9, c10, c11, c12, c13, c14, c15, rfl⟩
theorem run_built1 (w : World) (c0 c1 c2 c3 c4 c5 c6 c7 c8 c9 c10 c11 c12 c13 c14 c15 : Value) : (Instr.buildSlice 79 1 #[(0, .agg #[c0, c1, c2, c3, c4, c5, c6, c7, c8, c9, c10, c11, c12, c13, c14, c15])]).run Tryz.prog w = .ok (.slice (some ⟨w.heap.size, 0, none⟩) 1 1) (w.alloc (.cells #[c0, c1, c2, c3, c4, c5, c6, c7, c8, c9, c10, c11, c12, c13, c14, c15] 33)) := by kernel_rfl
theorem wpList_built1 {ops : Array Oper} {rest : List Oper} {o : Oper} {a : Act} {w : World} {Q : Exit → Act → World → Prop} (hg : o.guard = none) (x : Operand) (ho : o.op = .buildSlice 79 1 #[(0, x)])
    {cs : Array Value} (hx : a.eval x = .agg cs) (hs : cs.size = 16) (h : wpList Tryz.prog ops Q rest (a.put o.dst (.slice (some ⟨w.heap.size, 0, none⟩) 1 1)) (w.alloc (.cells cs 33))) : wpList Tryz.prog ops Q (o :: rest) a w := by
  obtain ⟨c0, c1, c2, c3, c4, c5, c6, c7, c8, c9, c10, c11, c12, c13, c14, c15, rfl⟩ := row16 hs
  refine wpList_plain hg fun _ hK => ?_
  unfold Oper.wp execOp
  have e : (#[(0, x)] : Array (Nat × Operand)).map (fun (i, x) => (i, a.eval x)) = #[(0, .agg #[c0, c1, c2, c3, c4, c5, c6, c7, c8, c9, c10, c11, c12, c13, c14, c15])] := by simp [hx]
  simp only [ho, Sem.run_bind, e, run_built1, Result.andThen_ok]
  exact hK _ _ h
def LineOK (ps : List Mc) (s : Nat) (x : Ln) : Prop :=
  ∃ j, s ≤ j ∧ j < ps.length ∧ ∀ wr : Bool, (wr = true → x.2.2.2.2 = true) → (goT (mth ps j).zs ((mth ps j).b.with []) x.1 x.2.1 wr).2 = (x.2.2.1, 0)
structure FairI (ps : List Mc) (s : Int → Int → Nat) (m : Mc) : Prop where
  pos : 0 < ps.length
  last : mth ps (ps.length - 1) = m
  good : ∀ i, i < ps.length → chkM (mth ps i) = 0
  low : ∀ d p, s d p < ps.length
  lines : ∀ x ∈ m.b.cache, LineOK ps (s x.1 x.2.1) x
theorem mth_left {ps : List Mc} {y : Mc} {i : Nat} (h : i < ps.length) : mth (ps ++ [y]) i = mth ps i := by simp [mth, List.getElem?_append_left h]
theorem mth_last (ps : List Mc) (y : Mc) : mth (ps ++ [y]) ps.length = y := by simp [mth]
theorem LineOK.more {ps : List Mc} {s : Nat} {x : Ln} (h : LineOK ps s x) (y : Mc) : LineOK (ps ++ [y]) s x := by
  obtain ⟨j, h1, h2, h3⟩ := h
  refine ⟨j, h1, by rw [List.length_append]; omega, ?_⟩
  rw [mth_left h2]; exact h3
theorem FairI.first {m : Mc} (h : chkM m = 0) (hc : m.b.cache = []) : FairI [m] (fun _ _ => 0) m :=
  ⟨by simp, rfl, fun i hi => by
    have hi' : i < 1 := hi
    obtain rfl : i = 0 := by omega
    exact h, fun _ _ => by simp, fun x hx => by rw [hc] at hx; cases hx⟩
theorem goT_mem {zs : List Int} {b : Br} {d p : Int} {wr : Bool} (h : thE zs b d p = 0) (hm : b.mode = 2) (hn : ¬ 0 ≤ fndC b.cache d p) : (goT zs (b.with []) d p wr).2 = (goT zs b d p wr).2 := by
  obtain ⟨hk, hb, hd, hp⟩ := thE_ok h
  have h0 : ¬ 0 ≤ fndC [] d p := by simp [fndC]
  have e1 : goT zs b d p wr = byT zs (b.with b.cache) d p wr := by rw [goT, if_neg (by omega), if_neg (by omega), if_neg hn]; rfl
  have e2 : goT zs (b.with []) d p wr = byT zs (b.with []) d p wr := by
    rw [goT, if_neg (show ¬ (b.with []).mode = 0 from fun e => by have e' : b.mode = 0 := e; omega), if_neg (show ¬ (b.with []).mode = 1 from fun e => by have e' : b.mode = 1 := e; omega), if_neg (show ¬ 0 ≤ fndC (b.with []).cache d p from h0)]
  rw [e1, e2]
  rcases byT_ways (b := b) (d := d) (wr := wr) hk hp with ⟨f, _, e⟩ | e | ⟨a, x, _, _, e⟩
  · rw [e, e]
  · rw [e, e]
  · rw [e, e]
theorem byT_line {zs : List Int} {b : Br} {d p : Int} {wr : Bool} {a : Int} {x : Bool} (h : thE zs b d p = 0) (hm : b.mode = 2) (hn : ¬ 0 ≤ fndC b.cache d p) (hg : goT zs b d p wr = (b.with (flC b.cache (d, p, a, true, x)), a, 0)) (hfl : flE b.cache (d, p, a, true, x) = 0) :
    ∀ wr' : Bool, (wr' = true → x = true) → (goT zs (b.with []) d p wr').2 = (a, 0) := by
  obtain ⟨hk, hb, hd, hp⟩ := thE_ok h
  have h0 : ¬ 0 ≤ fndC [] d p := by simp [fndC]
  have e2 : ∀ wr', goT zs (b.with []) d p wr' = byT zs (b.with []) d p wr' := fun wr' => by
    rw [goT, if_neg (show ¬ (b.with []).mode = 0 from fun e => by have e' : b.mode = 0 := e; omega), if_neg (show ¬ (b.with []).mode = 1 from fun e => by have e' : b.mode = 1 := e; omega), if_neg (show ¬ 0 ≤ fndC (b.with []).cache d p from h0)]
  have e1 : byT zs b d p wr = (b.with (flC b.cache (d, p, a, true, x)), a, 0) := by
    rw [goT, if_neg (by omega), if_neg (by omega), if_neg hn] at hg; exact hg
  intro wr' hw
  rw [e2]
  have hcw : ctxW zs (b.with []) d = ctxW zs b d := rfl
  by_cases hv : vC (ctxW zs b d) = true
  rotate_left
  · rw [byT, if_neg hv, Prod.mk.injEq, Prod.mk.injEq] at e1
    exact absurd e1.2.2 (by decide)
  by_cases hpa : aC (ctxW zs b d) = true
  · rw [byT, if_pos hv, if_pos hpa, Prod.mk.injEq, Prod.mk.injEq] at e1
    rw [byT, hcw, if_pos hv, if_pos hpa]
    have e4 : p = a := e1.2.1
    show (p, (0 : Int)) = _
    rw [e4]
  · rw [byT, if_pos hv, if_neg hpa] at e1
    rw [byT, hcw, if_pos hv, if_neg hpa]
    rcases wkd_ways hk ⟨pC_page (ctxW zs b d), page_of hp⟩ with ⟨f, hf, e⟩ | ⟨q, e⟩ | ⟨q, e, e'⟩
    · rw [e, if_neg hf, Prod.mk.injEq, Prod.mk.injEq] at e1
      exact absurd e1.2.2 hf
    · rw [e wr, if_pos rfl, Prod.mk.injEq, Prod.mk.injEq] at e1
      rw [e wr', if_pos rfl]
      have e4 : q = a := e1.2.1
      show (q, (0 : Int)) = _
      rw [e4]
    · cases wr
      · rw [e, if_pos rfl, Prod.mk.injEq, Prod.mk.injEq] at e1
        obtain ⟨e3, e4, -⟩ := e1
        have hx : x = false := by
          have := congrArg Br.cache e3
          have h6 : flE b.cache (d, p, q, true, false) = 0 := by
            have e4' : q = a := e4
            subst e4'
            unfold flE at hfl ⊢
            by_cases c1 : chkC b.cache = 0
            · rw [if_pos c1] at hfl ⊢
              by_cases c2 : chkC [((d, p, q, true, x) : Ln)] = 0
              · rw [if_pos c2] at hfl
                have c3 : chkC [((d, p, q, true, false) : Ln)] = 0 := by
                  obtain ⟨g1, g2, g3⟩ := chkC_zero.1 c2
                  refine chkC_zero.2 ⟨g1, fun y hy => ?_, List.pairwise_singleton _ _⟩
                  obtain rfl := List.mem_singleton.1 hy
                  exact g2 (d, p, q, true, x) (by simp)
                rw [if_pos c3]; exact hfl
              · rw [if_neg c2] at hfl; exact absurd hfl c2
            · rw [if_neg c1] at hfl; exact absurd hfl c1
          have e5 : flC b.cache (d, p, q, true, false) = flC b.cache (d, p, a, true, x) := this
          rw [flC, flC, if_pos h6, if_pos hfl] at e5
          have e7 := congrArg List.getLast? e5
          simp at e7
          exact e7.2.symm ▸ rfl
        have hw' : wr' = false := by
          cases wr'
          · rfl
          · exact absurd (hw rfl) (by rw [hx]; decide)
        subst hw'
        rw [e, if_pos rfl]
        have e4' : q = a := e4
        show (q, (0 : Int)) = _
        rw [e4']
      · rw [e', if_neg (by decide), Prod.mk.injEq, Prod.mk.injEq] at e1
        exact absurd e1.2.2 (by decide)
theorem FairI.touch {ps : List Mc} {s : Int → Int → Nat} {m y : Mc} {x : Hp} {t : To} (I : FairI ps s m) (hlen : ps.length ≤ 121) (h : hpE m (shX x) = 0) (hr : hpR m (shX x) = (y, t)) (hk : x.kind = 3) {u : Tc} (hu : u ∈ t.tch) :
    frE (ps.drop (s u.1 (u.2.1 / 8))) u = 0 ∧ ∀ k, IsLast (ps.drop (s u.1 (u.2.1 / 8))) u k → 0 ≤ k := by
  obtain ⟨c, k, hth, hg, hk1, ha, hd, hf, hft, -, htc⟩ := hp_short h hr hk
  obtain ⟨u1, u2, u3, u4, u5⟩ := htc u hu
  have hf0 : t.f = 0 := by
    by_cases e : t.f = 0
    · exact e
    · rw [hft e] at hu; cases hu
  rw [hf0] at hg
  have hlow := I.low u.1 (u.2.1 / 8)
  have hone : ∃ j, s u.1 (u.2.1 / 8) ≤ j ∧ j < ps.length ∧ lets (mth ps j) u = true := by
    have hlast : ∀ c', (goT m.zs (m.b.with []) x.d (x.a / 8) x.wr).2 = c' → c' = (k, 0) → ∃ j, s u.1 (u.2.1 / 8) ≤ j ∧ j < ps.length ∧ lets (mth ps j) u = true := fun c' e1 e2 => by
      have hp := I.pos
      refine ⟨ps.length - 1, by omega, by omega, ?_⟩
      rw [I.last]
      unfold lets
      rw [u1, u2, u3, e1, e2, u4]
      simp
    rcases Int.lt_trichotomy m.b.mode 1 with e | e | e
    · obtain ⟨⟨g1, _⟩, _⟩ := chkB_ok (thE_ok hth).2.1
      rw [goT, if_pos (by omega), Prod.mk.injEq, Prod.mk.injEq] at hg
      exact absurd hg.2.2 (by decide)
    · rw [goT, if_neg (by omega), if_pos e, Prod.mk.injEq, Prod.mk.injEq] at hg
      refine hlast _ rfl ?_
      rw [goT, if_neg (show ¬ (m.b.with []).mode = 0 from fun e' => by have e2 : m.b.mode = 0 := e'; omega), if_pos (show (m.b.with []).mode = 1 from e)]
      show (x.a / 8, (0 : Int)) = _
      rw [hg.2.1]
    · obtain ⟨⟨_, g1⟩, _⟩ := chkB_ok (thE_ok hth).2.1
      have hm2 : m.b.mode = 2 := by omega
      by_cases hn : 0 ≤ fndC m.b.cache x.d (x.a / 8)
      · obtain ⟨_, hh, hmem⟩ := fnd_line hn
        rw [goT, if_neg (by omega), if_neg (by omega), if_pos hn] at hg
        by_cases hw : (x.wr && !(lineC m.b.cache x.d (x.a / 8)).2.2.2.2) = true
        · rw [if_pos hw, Prod.mk.injEq, Prod.mk.injEq] at hg
          exact absurd hg.2.2 (by decide)
        · rw [if_neg hw, Prod.mk.injEq, Prod.mk.injEq] at hg
          obtain ⟨j, j1, j2, j3⟩ := I.lines _ hmem
          simp only [hasB, Bool.and_eq_true, decide_eq_true_eq] at hh
          rw [hh.1, hh.2] at j1 j3
          refine ⟨j, by rw [u1, u2]; exact j1, j2, ?_⟩
          have := j3 x.wr (fun e => by
            rw [e] at hw
            simpa using hw)
          unfold lets
          rw [u1, u2, u3, this, u4, ← hg.2.1]
          simp
      · refine hlast _ rfl ?_
        rw [goT_mem hth hm2 hn, hg]
  refine ⟨frE_mk (by rw [List.length_drop]; omega) (mcE_mk fun i hi => ?_) u5, fun k' hL => ?_⟩
  · rw [List.length_drop] at hi
    rw [mth_drop]
    exact I.good _ (by omega)
  · obtain ⟨j, j1, j2, j3⟩ := hone
    obtain ⟨l1, _, l3⟩ := hL
    by_cases e : 0 ≤ k'
    · exact e
    · have := l3 (j - s u.1 (u.2.1 / 8)) (by omega) (by rw [List.length_drop]; omega)
      rw [mth_drop, show s u.1 (u.2.1 / 8) + (j - s u.1 (u.2.1 / 8)) = j by omega, j3] at this
      exact absurd this (by decide)
theorem infoMach : ∃ i, Tryz.prog.info? 33 = some i ∧ i.zero = some (.agg #[.slice none 0 0, J 0, .slice none 0 0, .bool false, J 0, J 0, .slice none 0 0, J 0, J 0, J 0, .bool false, J 0, J 0, J 0, J 0, .bool false]) ∧ i.size = 16 ∧ i.bytes ≤ 1000 := by
  have h : (Tryz.prog.info? 33).map (fun i => (i.zero, i.size, decide (i.bytes ≤ 1000))) = some (some (.agg #[.slice none 0 0, J 0, .slice none 0 0, .bool false, J 0, J 0, .slice none 0 0, J 0, J 0, J 0, .bool false, J 0, J 0, J 0, J 0, .bool false]), 16, true) := by kernel_rfl
  cases hi : Tryz.prog.info? 33 with
  | none => rw [hi] at h; simp at h
  | some i => rw [hi] at h; simp at h; exact ⟨i, rfl, h.1, h.2.1, h.2.2⟩
def OwnP (w : World) (base : Nat) (v : Value) (css : List (Array Value)) : Prop := w.ownsRow base 33 16 v css.length (css.flatMap Array.toList)
theorem OwnP.one {w : World} {base n : Nat} {cs : Array Value} (e : n = w.heap.size) (h : base ≤ w.heap.size) (hs : cs.size = 16) : OwnP (w.alloc (.cells cs 33)) base (.slice (some ⟨n, 0, none⟩) 1 1) [cs] := by
  subst e
  have := World.ownsRow_lit (base := base) (e := 33) (size := 16) w cs 1 h (by simp [maxLen]) (by rw [hs])
  unfold OwnP
  simpa using this
theorem OwnP.base {w : World} {base : Nat} {v : Value} {css : List (Array Value)} (h : OwnP w base v css) : ∀ k, v.ownBlock = some k → base ≤ k := fun k hk => (World.ownsRow.lt h k hk).1
theorem OwnP.lt {w : World} {base : Nat} {v : Value} {css : List (Array Value)} (h : OwnP w base v css) : ∀ k, v.ownBlock = some k → k < w.heap.size := fun k hk => (World.ownsRow.lt h k hk).2
theorem OwnP.keep {w w' : World} {base : Nat} {v : Value} {css : List (Array Value)} (h : OwnP w base v css) (hb : ∀ k, v.ownBlock = some k → w'.heap[k]? = w.heap[k]?) : OwnP w' base v css := by
  obtain ⟨h1, h2⟩ := h
  refine ⟨h1, ?_⟩
  rcases h2 with h2 | ⟨g, cap, cur, rfl, hb0, hg, r⟩
  · exact .inl h2
  · exact .inr ⟨g, cap, cur, rfl, hb0, by rw [hb g (by simp [Value.ownBlock])]; exact hg, r⟩
theorem OwnP.below {w w' : World} {base : Nat} {v : Value} {css : List (Array Value)} (h : OwnP w base v css) (hb : Below w.heap.size w w') : OwnP w' base v css := h.keep fun k hk => hb.block k (h.lt k hk)
theorem wpList_append_P {w : World} {ops : Array Oper} {rest : List Oper} {o : Oper} {a : Act} {Q : Exit → Act → World → Prop} (hgd : o.guard = none) (s x : Operand)
    (ho : o.op = .call { callee := .builtin .append, args := #[s, x], argTypes := #[79, 79] })
    (base : Nat) (v : Value) (css : List (Array Value)) (hs : a.eval s = v) {n : Nat} (hu : a.eval x = .slice (some ⟨n, 0, none⟩) 1 1) (hown : OwnP w base v css) {t : TypeId} {cs : Array Value} (hx : Box w n t cs) (h16 : cs.size = 16) (h1 : cs.all (·.oneCell') = true) (hn : css.length ≤ 1000) (hbase : base ≤ w.heap.size)
    (h : ∀ g cap w', OwnP w' base (.slice (some ⟨g, 0, none⟩) (css.length + 1) cap) (css ++ [cs]) → w.grownBy w' v.ownBlock → (v.ownBlock = some g ∨ g = w.heap.size) → g < w'.heap.size → wpList Tryz.prog ops Q rest (a.put o.dst (.slice (some ⟨g, 0, none⟩) (css.length + 1) cap)) w') :
    wpList Tryz.prog ops Q (o :: rest) a w := by
  obtain ⟨i, hi, hz, hsz, hby⟩ := infoMach
  obtain ⟨g, c, w', hr, hO, hgr, hat, hlt⟩ := run_append_lies (P := Tryz.prog) w 79 o.type base 33 i _ 16 i.bytes Tryz.underlying79 hi hz hsz rfl rfl (by omega) v css.length (css.flatMap Array.toList) hown ⟨n, 0, none⟩ 1 1 cs.toList (by simpa using h16)
    (fun j u hu => by
      have hadd : (⟨n, 0, none⟩ : Addr).add j = ⟨n, j, none⟩ := by unfold Addr.add; split <;> simp_all
      rw [hadd, hx.cell j, ← Array.getElem?_toList]; exact hu)
    (fun u hu => by rw [Array.all_eq_true_iff_forall_mem] at h1; exact h1 u (by simpa using hu)) (by omega) (by unfold maxLen; omega) (by
      have : (css.length + 1) * i.bytes ≤ 1001 * 1000 := Nat.mul_le_mul (by omega) hby
      omega) hbase w.heap.size rfl
  refine wpList_plain hgd fun _ hK => ?_
  unfold Oper.wp execOp
  simp only [ho, resolve, invoke, builtin, Sem.run_bind, Sem.run_pure, Result.andThen_ok, List.map_toArray, List.map_cons, List.map_nil, hs, hu, hr]
  refine hK _ _ (h g c w' ?_ hgr hat hlt)
  unfold OwnP
  rw [List.length_append, List.flatMap_append]
  simpa using hO
def OffM (bad : Nat → Prop) (m : Mc) (cs : Array Value) : Prop :=
  (m.zs = [] ∨ ∀ v, cs[0]? = some v → Off bad v) ∧ (m.h.r = [] ∨ ∀ v, cs[2]? = some v → Off bad v) ∧ (m.b.cache = [] ∨ ∀ v, cs[6]? = some v → Off bad v)
theorem OffM.of {bad : Nat → Prop} {m : Mc} {cs : Array Value} (h : OffRow bad cs) : OffM bad m cs := ⟨.inr (h 0), .inr (h 2), .inr (h 6)⟩
theorem OffM.new {w : World} {m : Mc} {cs : Array Value} (h : IsM w m cs) : OffM (fun q => w.heap.size ≤ q) m cs := by
  obtain ⟨a1, n1, c1, a2, n2, c2, a3, n3, c3, rfl, h1, h2, h3⟩ := h
  refine ⟨?_, ?_, ?_⟩
  · obtain ⟨a, c, e, -, q⟩ := h1
    refine q.imp id ?_
    rintro ⟨b, o, rfl, hb, -⟩ v hv k hk hbad
    simp only [Value.slice.injEq] at e
    rw [e.1] at hv
    simp at hv
    subst hv
    simp [Value.ownBlock] at hk
    omega
  · obtain ⟨a, c, e, -, q⟩ := h2
    refine q.imp id ?_
    rintro ⟨b, o, rfl, hb, -⟩ v hv k hk hbad
    simp only [Value.slice.injEq] at e
    rw [e.1] at hv
    simp at hv
    subst hv
    simp [Value.ownBlock] at hk
    omega
  · obtain ⟨a, c, e, -, -, q⟩ := h3
    refine q.imp id ?_
    rintro ⟨b, o, rfl, hb, -⟩ v hv k hk hbad
    simp only [Value.slice.injEq] at e
    rw [e.1] at hv
    simp at hv
    subst hv
    simp [Value.ownBlock] at hk
    omega
theorem OffM.or {a b : Nat → Prop} {m : Mc} {cs : Array Value} (h : OffM a m cs) (k : OffM b m cs) : OffM (fun q => a q ∨ b q) m cs := by
  refine ⟨?_, ?_, ?_⟩
  · rcases h.1 with e | e
    · exact .inl e
    · refine k.1.imp id fun e2 v hv q hq hb => ?_
      rcases hb with hb | hb
      · exact e v hv q hq hb
      · exact e2 v hv q hq hb
  · rcases h.2.1 with e | e
    · exact .inl e
    · refine k.2.1.imp id fun e2 v hv q hq hb => ?_
      rcases hb with hb | hb
      · exact e v hv q hq hb
      · exact e2 v hv q hq hb
  · rcases h.2.2 with e | e
    · exact .inl e
    · refine k.2.2.imp id fun e2 v hv q hq hb => ?_
      rcases hb with hb | hb
      · exact e v hv q hq hb
      · exact e2 v hv q hq hb
theorem OffM.less {a b : Nat → Prop} {m : Mc} {cs : Array Value} (h : OffM b m cs) (k : ∀ q, a q → b q) : OffM a m cs :=
  ⟨h.1.imp id fun e v hv q hq hb => e v hv q hq (k q hb), h.2.1.imp id fun e v hv q hq hb => e v hv q hq (k q hb), h.2.2.imp id fun e v hv q hq hb => e v hv q hq (k q hb)⟩
theorem Sl.empty' {w w' : World} {v : Value} {zs : List Int} (h : Sl w v zs) (e : zs = []) : Sl w' v zs := by
  obtain ⟨a, c, rfl, hm, -⟩ := h
  exact ⟨a, c, rfl, hm, .inl e⟩
theorem Ls.empty' {w w' : World} {v : Value} {l : List Ln} (h : Ls w v l) (e : l = []) : Ls w' v l := by
  obtain ⟨a, c, rfl, hm, hc, -⟩ := h
  exact ⟨a, c, rfl, hm, hc, .inl e⟩
theorem IsM.keptM {may : Nat → Prop} {w w' : World} {m : Mc} {cs : Array Value} (h : IsM w m cs) (k : KeptB may w w') (o : OffM may m cs) : IsM w' m cs := by
  obtain ⟨a1, n1, c1, a2, n2, c2, a3, n3, c3, rfl, h1, h2, h3⟩ := h
  refine ⟨a1, n1, c1, a2, n2, c2, a3, n3, c3, rfl, ?_, ?_, ?_⟩
  · rcases o.1 with e | e
    · exact h1.empty' e
    · exact h1.kept k (fun q hq hb => e _ rfl q hq hb)
  · rcases o.2.1 with e | e
    · exact h2.empty' e
    · exact h2.kept k (fun q hq hb => e _ rfl q hq hb)
  · rcases o.2.2 with e | e
    · exact h3.empty' e
    · exact h3.kept k (fun q hq hb => e _ rfl q hq hb)
theorem keptOf {w w' : World} {k : Option Nat} (h : w.grownBy w' k) : KeptB (fun q => k = some q) w w' := ⟨h.os, h.tape, h.output, h.size, fun i hi hn => h.block i hi (fun e => hn e.symm)⟩
def PastI (bad : Nat → Prop) (w : World) (css : List (Array Value)) (ps : List Mc) : Prop := css.length = ps.length ∧ ∀ i, i < ps.length → ∃ cs, css[i]? = some cs ∧ IsM w (mth ps i) cs ∧ OffM bad (mth ps i) cs
theorem PastI.keep {bad : Nat → Prop} {w w' : World} {css : List (Array Value)} {ps : List Mc} (h : PastI bad w css ps) (hb : Below w.heap.size w w') : PastI bad w' css ps :=
  ⟨h.1, fun i hi => by obtain ⟨cs, h1, h2, h3⟩ := h.2 i hi; exact ⟨cs, h1, h2.keep hb, h3⟩⟩
theorem PastI.kept {bad may : Nat → Prop} {w w' : World} {css : List (Array Value)} {ps : List Mc} (h : PastI bad w css ps) (k : KeptB may w w') (hm : ∀ q, may q → bad q) : PastI bad w' css ps :=
  ⟨h.1, fun i hi => by obtain ⟨cs, h1, h2, h3⟩ := h.2 i hi; exact ⟨cs, h1, h2.keptM k (h3.less hm), h3⟩⟩
theorem PastI.less {a b : Nat → Prop} {w : World} {css : List (Array Value)} {ps : List Mc} (h : PastI b w css ps) (k : ∀ q, a q → b q) : PastI a w css ps :=
  ⟨h.1, fun i hi => by obtain ⟨cs, h1, h2, h3⟩ := h.2 i hi; exact ⟨cs, h1, h2, h3.less k⟩⟩
theorem PastI.wide {bad : Nat → Prop} {w : World} {css : List (Array Value)} {ps : List Mc} (h : PastI bad w css ps) : PastI (fun q => bad q ∨ w.heap.size ≤ q) w css ps :=
  ⟨h.1, fun i hi => by obtain ⟨cs, h1, h2, h3⟩ := h.2 i hi; exact ⟨cs, h1, h2, h3.or (OffM.new h2)⟩⟩
theorem PastI.snoc {bad : Nat → Prop} {w : World} {css : List (Array Value)} {ps : List Mc} (h : PastI bad w css ps) {y : Mc} {cs : Array Value} (hy : IsM w y cs) (ho : OffM bad y cs) : PastI bad w (css ++ [cs]) (ps ++ [y]) := by
  obtain ⟨h1, h2⟩ := h
  refine ⟨by simp [h1], fun i hi => ?_⟩
  by_cases e : i < ps.length
  · obtain ⟨c, q1, q2, q3⟩ := h2 i e
    exact ⟨c, by rw [List.getElem?_append_left (by omega)]; exact q1, by rw [mth_left e]; exact q2, by rw [mth_left e]; exact q3⟩
  · have e2 : i = ps.length := by simp at hi; omega
    subst e2
    exact ⟨cs, by rw [← h1]; simp, by rw [mth_last]; exact hy, by rw [mth_last]; exact ho⟩
theorem PastI.ms {bad : Nat → Prop} {w : World} {base g n cap : Nat} {css : List (Array Value)} {ps : List Mc} (h : PastI bad w css ps) (hO : OwnP w base (.slice (some ⟨g, 0, none⟩) n cap) css) : Ms w (.slice (some ⟨g, 0, none⟩) ps.length cap) ps := by
  obtain ⟨h1, h2⟩ := h
  have hall : ∀ c ∈ css, c.size = 16 := fun c hc => by
    obtain ⟨i, hi, e⟩ := List.getElem_of_mem hc
    obtain ⟨cs, q1, q2, -⟩ := h2 i (by omega)
    rw [List.getElem?_eq_getElem hi, Option.some.injEq] at q1
    rw [← e, q1]
    exact q2.size.1
  have hO' := hO
  rcases hO.2 with ⟨e, h0⟩ | ⟨g', cap', cur, e, hb, hg, hnc, hcm, hcs, htake⟩
  · cases e
  · simp only [Value.slice.injEq, Option.some.injEq, Addr.mk.injEq] at e
    obtain ⟨⟨rfl, -, -⟩, rfl, rfl⟩ := e
    refine ⟨_, cap, rfl, by omega, hcm, .inr ⟨g, 0, rfl, hO.lt g rfl, fun i hi => ?_⟩⟩
    obtain ⟨cs, q1, q2, -⟩ := h2 i hi
    refine ⟨cs, q2, fun j v hv => ?_⟩
    have hj : j < 16 := by
      have := q2.size.1
      rcases Nat.lt_or_ge j cs.size with k | k
      · omega
      · rw [Array.getElem?_eq_none k] at hv; exact absurd hv (by simp)
    rw [Nat.zero_add]
    have := World.ownsRow.cellAt hO' (i * 16 + j) (by omega)
    rw [this]
    exact flat16_at hall q1 hv
end Go.Proofs.YthlhocneggcekaaGreat
