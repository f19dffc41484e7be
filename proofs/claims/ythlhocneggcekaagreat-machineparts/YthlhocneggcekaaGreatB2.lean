/-
  Laid together: Mem2, Walk1, Find.
-/
import Derived.Test.YthlhocneggcekaaGreatB1
import Derived.Test.YthlhocneggcekaaGreatRows
import Derived.WalkKit
import Derived.WalkSpells
import Derived.WalkLawsBesides
import Derived.Below
import Derived.WalkSmall
import Derived.Deep.QuietTactic
import Derived.BigQuiet
import Derived.Deep.Draws
import Derived.Deep.RegionWith
import Derived.LoopN
import Derived.Deep.CutRange
import Derived.Deep.RegionHeld3
namespace Go.Proofs.YthlhocneggcekaaGreat
open Go.RowKit
def rdV (zs : List Int) (k : Int) : Int := if chk zs = 0 ∧ placeB k = true then nth zs k.toNat else 0
def rdE (zs : List Int) (k : Int) : Int := if chk zs = 0 then (if placeB k = true then 0 else 4) else chk zs
theorem Sl.open512 {w : World} {v : Value} {zs : List Int} (h : Sl w v zs) (hn : zs.length = 512) : ∃ b o cap, v = .slice (some ⟨b, o, none⟩) 512 cap ∧ b < w.heap.size ∧ ∀ i, i < 512 → w.cell? ⟨b, o + i, none⟩ = some (J (nth zs i)) := by
  obtain ⟨a, cap, rfl, hl, h⟩ := h
  rcases h with rfl | ⟨b, o, rfl, hb, hc⟩
  · simp at hn
  · exact ⟨b, o, cap, by rw [hn], hb, fun i hi => hc i (by omega)⟩
theorem ret_pair {a b c d : Int} (h : a = c) (k : b = d) : Ending.returned (.tuple #[J a, J b]) = .returned (.tuple #[J c, J d]) := by rw [h, k]
set_option maxHeartbeats 1000000 in
theorem read_any (v : Value) (zs : List Int) (k : Int) (w : World) (h : Sl w v zs) :
    Calls Tryz.prog 169 #[.agg #[v], J k] w fun e w' => e = .returned (.tuple #[J (rdV zs k), J (rdE zs k)]) ∧ Below w.heap.size w w' := by
  by_cases hk : chk zs = 0
  · by_cases hp : placeB k = true
    · have HR : Hid (rdV zs k = nth zs k.toNat ∧ rdE zs k = 0) := ⟨by simp [rdV, hk, hp], by simp [rdE, hk, hp]⟩
      obtain ⟨hn, _⟩ := chk_ok hk
      have hp' := hp
      simp only [placeB, decide_eq_true_eq] at hp'
      obtain ⟨p0, p1⟩ := hp'
      obtain ⟨b, o, cap, rfl, hb, hc⟩ := h.open512 hn
      have g := hc k.toNat (by omega)
      clear hc hn
      go_enter Tryz.func169, Tryz.ntmps169
      go_wp2_with fail
      refine (check_any _ zs _ ?_).mono ?_
      · exact h.keep (bel_alloc (Below.refl _ _) _)
      rintro e w1 ⟨rfl, hb1⟩
      obtain ⟨hc1, hf1⟩ := bcell hb1
      go_wp2_with (go_at_call 172; refine (isPlace_any _ _).mono ?_; rintro e w' ⟨rfl, rfl⟩)
      go_ret2
      exact ⟨ret_pair HR.out.1.symm HR.out.2.symm, bel_trans (bel_alloc (Below.refl _ _) _) hb1⟩
    · have hp' : placeB k = false := by simpa using hp
      have HR : Hid (rdV zs k = 0 ∧ rdE zs k = 4) := ⟨by simp [rdV, hk, hp], by simp [rdE, hk, hp]⟩
      clear hp
      go_enter Tryz.func169, Tryz.ntmps169
      go_wp2_with fail
      refine (check_any _ zs _ ?_).mono ?_
      · exact h.keep (bel_alloc (Below.refl _ _) _)
      rintro e w1 ⟨rfl, hb1⟩
      obtain ⟨hc1, hf1⟩ := bcell hb1
      go_wp2_with (go_at_call 172; refine (isPlace_any _ _).mono ?_; rintro e w' ⟨rfl, rfl⟩)
      go_ret2
      exact ⟨ret_pair HR.out.1.symm HR.out.2.symm, bel_trans (bel_alloc (Below.refl _ _) _) hb1⟩
  · have HR : Hid (rdV zs k = 0 ∧ rdE zs k = chk zs) := ⟨by simp [rdV, hk], by simp [rdE, hk]⟩
    have hk' : (chk zs != 0) = true := by simpa using hk
    clear hk
    go_enter Tryz.func169, Tryz.ntmps169
    go_wp2_with fail
    refine (check_any _ zs _ ?_).mono ?_
    · exact h.keep (bel_alloc (Below.refl _ _) _)
    rintro e w1 ⟨rfl, hb1⟩
    obtain ⟨hc1, hf1⟩ := bcell hb1
    go_wp2
    go_ret2
    exact ⟨ret_pair HR.out.1.symm HR.out.2.symm, bel_trans (bel_alloc (Below.refl _ _) _) hb1⟩
def zeroCells : Array Value := madeCells #[J 0] 512
def zeros : List Int := List.replicate 512 0
theorem zeroCells_list : zeroCells.toList = zeros.map (fun z => J z) := by
  unfold zeroCells zeros
  rw [toList_madeCells_one, List.map_replicate]
theorem zeros_length : zeros.length = 512 := List.length_replicate
theorem infoInt : ∃ i, Tryz.prog.info? 3 = some i ∧ i.zero = some (J 0) ∧ i.size = 1 ∧ i.bytes = 8 := by
  have h : (Tryz.prog.info? 3).map (fun i => (i.zero, i.size, i.bytes)) = some (some (J 0), 1, 8) := by kernel_rfl
  cases hi : Tryz.prog.info? 3 with
  | none => rw [hi] at h; simp at h
  | some i => rw [hi] at h; simp at h; exact ⟨i, rfl, h.1, h.2.1, h.2.2⟩
theorem make512 (w : World) : (Instr.makeSlice 22 (J 512) (J 512)).run Tryz.prog w = .ok (.slice (some ⟨w.heap.size, 0, none⟩) 512 512) (w.alloc (.cells zeroCells 3)) := by
  obtain ⟨i, hi, hz, hs, hb⟩ := infoInt
  have h := run_make (P := Tryz.prog) w 22 3 i _ Tryz.underlying22 hi hz .i64 .i64 512 512 (by decide) (by decide) (by rw [hb]; decide) (by decide)
  rw [hs] at h
  exact h
set_option maxHeartbeats 1000000 in
theorem new_own (w : World) :
    Calls Tryz.prog 130 #[] w fun e w' => ∃ g, e = .returned (.agg #[.slice (some ⟨g, 0, none⟩) 512 512]) ∧ w'.heap[g]? = some (.cells zeroCells 3 (0, 0)) ∧ w.heap.size ≤ g ∧ Below w.heap.size w w' := by
  have hm := make512
  go_enter Tryz.func130, Tryz.ntmps130
  go_wp2
  exact bodyPost_ret (v := .agg #[.slice (some ⟨w.heap.size + 1, 0, none⟩) 512 512]) (by simp [results, Tryz.results130, go_sem]) rfl ⟨_, rfl, heap_at (by simp), by omega, bel_alloc (bel_alloc (Below.refl _ _) _) _⟩
theorem wPage_any (z : Int) (w : World) : Calls Tryz.prog 149 #[J z] w fun e w' => e = .returned (.bool (pageB z)) ∧ w' = w := by
  by_cases h1 : 0 ≤ z
  · by_cases h2 : z < 64
    · have : pageB z = true := by simp [pageB, h1, h2]
      rw [this]
      go_enter Tryz.func149, Tryz.ntmps149
      go_wp2
      go_ret
      exact ⟨rfl, rfl⟩
    · have : pageB z = false := by simp [pageB, h2]
      rw [this]
      go_enter Tryz.func149, Tryz.ntmps149
      go_wp2
      go_ret
      exact ⟨rfl, rfl⟩
  · have : pageB z = false := by simp [pageB, h1]
    rw [this]
    go_enter Tryz.func149, Tryz.ntmps149
    go_wp2
    go_ret
    exact ⟨rfl, rfl⟩
theorem may_any (v r x l : Bool) (p : Int) (wr : Bool) (w : World) :
    Calls Tryz.prog 151 #[.agg #[.bool v, .bool r, .bool x, .bool l, J p], .bool wr] w fun e w' => e = .returned (.bool (r && (x || !wr))) ∧ ∃ o, w' = w.alloc o := by
  cases r <;> cases x <;> cases wr
  all_goals
    go_enter Tryz.func151, Tryz.ntmps151
    go_wp2
    go_ret
    exact ⟨rfl, _, rfl⟩
def fltR (z : Int) : Int := if okE z = true then (if vE z = true then 0 else 3) else 4
theorem fields_none {z : Int} (h : vE z = false) : rE z = false ∧ xE z = false ∧ lE z = false ∧ pE z = 0 := by simp [rE, xE, lE, pE, h]
set_option maxHeartbeats 2000000 in
theorem wRead_any (v : Value) (zs : List Int) (t k : Int) (w : World) (h : Sl w v zs) (hn : zs.length = 512) (t0 : 0 ≤ t) (t1 : t < 64) (k0 : 0 ≤ k) (k1 : k < 8) :
    Calls Tryz.prog 164 #[.agg #[v], J t, J k] w fun e w' => e = .returned (.tuple #[.agg #[.bool (vE (nth zs (8 * t + k).toNat)), .bool (rE (nth zs (8 * t + k).toNat)), .bool (xE (nth zs (8 * t + k).toNat)), .bool (lE (nth zs (8 * t + k).toNat)), J (pE (nth zs (8 * t + k).toNat))], J (fltR (nth zs (8 * t + k).toNat))]) ∧ Below w.heap.size w w' := by
  obtain ⟨b, o, cap, rfl, hb, hc⟩ := h.open512 hn
  have g := hc (t * 8 + k).toNat (by omega)
  rw [show (8 * t + k).toNat = (t * 8 + k).toNat by rw [Int.mul_comm]]
  generalize nth zs (t * 8 + k).toNat = z at *
  clear hc hn h
  go_enter Tryz.func164, Tryz.ntmps164
  go_wp2_with fail
  refine (eRead_any _ _).mono ?_
  rintro e w1 ⟨rfl, b1⟩
  obtain ⟨c1, f1⟩ := bcell b1
  have B1 : Hid (Below w.heap.size w w1) := bel_trans (bel_alloc (bel_alloc (Below.refl _ _) _) _) b1
  have K1 := (Blk.newAt (n := w.heap.size + 1) (by simp) _ _ _).keep b1
  have L1 := K1.lt
  clear b1 K1
  cases ho : okE z
  · have hv : vE z = false := by simp [vE, ho]
    obtain ⟨e1, e2, e3, e4⟩ := fields_none hv
    have HF : Hid (vE z = false ∧ rE z = false ∧ xE z = false ∧ lE z = false ∧ pE z = 0 ∧ fltR z = 4) := ⟨hv, e1, e2, e3, e4, by simp [fltR, ho]⟩
    rw [hv, e1, e2, e3, e4]
    clear hv e1 e2 e3 e4 ho
    go_wp2
    refine bodyPost_ret (v := .tuple #[.agg #[.bool false, .bool false, .bool false, .bool false, J 0], J 4]) (by simp [results, Tryz.results164, go_sem, *]) rfl ⟨?_, ?_⟩
    · obtain ⟨e0, e1, e2, e3, e4, e5⟩ := HF.out
      rw [e0, e1, e2, e3, e4, e5]
    exact bel_alloc (bel_set5 (by omega) B1.out _ _ _ _ _) _
  · cases hv : vE z
    · obtain ⟨e1, e2, e3, e4⟩ := fields_none hv
      have HF : Hid (vE z = false ∧ rE z = false ∧ xE z = false ∧ lE z = false ∧ pE z = 0 ∧ fltR z = 3) := ⟨hv, e1, e2, e3, e4, by simp [fltR, ho, hv]⟩
      rw [e1, e2, e3, e4]
      clear e1 e2 e3 e4 ho hv
      go_wp2
      refine bodyPost_ret (v := .tuple #[.agg #[.bool false, .bool false, .bool false, .bool false, J 0], J 3]) (by simp [results, Tryz.results164, go_sem, *]) rfl ⟨?_, ?_⟩
      · obtain ⟨e0, e1, e2, e3, e4, e5⟩ := HF.out
        rw [e0, e1, e2, e3, e4, e5]
      exact bel_alloc (bel_set5 (by omega) B1.out _ _ _ _ _) _
    · have HF : Hid (vE z = true ∧ fltR z = 0) := ⟨hv, by simp [fltR, ho, hv]⟩
      clear ho hv
      go_wp2
      refine bodyPost_ret (v := .tuple #[.agg #[.bool true, .bool (rE z), .bool (xE z), .bool (lE z), J (pE z)], J 0]) (by simp [results, Tryz.results164, go_sem, *]) rfl ⟨?_, ?_⟩
      · obtain ⟨e0, e5⟩ := HF.out
        rw [e0, e5]
      exact bel_alloc (bel_set5 (by omega) B1.out _ _ _ _ _) _
set_option maxHeartbeats 2000000 in
theorem within_yes (v r x l : Bool) (p page span : Int) (w : World) (p0 : 0 ≤ p) (p1 : p < 64) (g0 : 0 ≤ page) (g1 : page < 64) (hs : span = 8 ∨ span = 1) (h : p % span = 0) :
    Calls Tryz.prog 165 #[.agg #[.bool v, .bool r, .bool x, .bool l, J p], J page, J span] w fun e w' => e = .returned (.tuple #[.agg #[.bool v, .bool r, .bool x, .bool l, J (p + page % span)], J 0]) ∧ Below w.heap.size w w' := by
  rcases hs with rfl | rfl
  · go_enter Tryz.func165, Tryz.ntmps165
    go_wp2
    go_region
    go_wp2
    refine bodyPost_ret (v := .tuple #[.agg #[.bool v, .bool r, .bool x, .bool l, J (p + page % 8)], J 0]) (by simp [results, Tryz.results165, go_sem]) rfl ⟨rfl, ?_⟩
    exact below_drew (bel_alloc (bel_alloc (Below.refl _ _) _) _)
  · go_enter Tryz.func165, Tryz.ntmps165
    go_wp2
    go_region
    go_wp2
    refine bodyPost_ret (v := .tuple #[.agg #[.bool v, .bool r, .bool x, .bool l, J (p + page % 1)], J 0]) (by simp [results, Tryz.results165, go_sem]) rfl ⟨rfl, ?_⟩
    exact below_drew (bel_alloc (bel_alloc (Below.refl _ _) _) _)
set_option maxHeartbeats 2000000 in
theorem within_no (v r x l : Bool) (p page : Int) (w : World) (p0 : 0 ≤ p) (p1 : p < 64) (h : ¬ p % 8 = 0) :
    Calls Tryz.prog 165 #[.agg #[.bool v, .bool r, .bool x, .bool l, J p], J page, J 8] w fun e w' => e = .returned (.tuple #[.agg #[.bool false, .bool false, .bool false, .bool false, J 0], J 4]) ∧ Below w.heap.size w w' := by
  go_enter Tryz.func165, Tryz.ntmps165
  go_wp2
  refine bodyPost_ret (v := .tuple #[.agg #[.bool false, .bool false, .bool false, .bool false, J 0], J 4]) (by simp [results, Tryz.results165, go_sem]) rfl ⟨rfl, ?_⟩
  exact bel_alloc (bel_alloc (Below.refl _ _) _) _
abbrev Five := Bool × Bool × Bool × Bool × Int
def E0 : Five := (false, false, false, false, 0)
def entE (z : Int) : Five := (vE z, rE z, xE z, lE z, pE z)
def one (zs : List Int) (root page : Int) : Int := nth zs (8 * root + page / 8).toNat
def two (zs : List Int) (root page : Int) : Int := nth zs (8 * pE (one zs root page) + page % 8).toNat
def fnd (zs : List Int) (root page : Int) : Five × Int :=
  if fltR (one zs root page) = 0 then
    (if lE (one zs root page) = true then
      (if pE (one zs root page) % 8 = 0 then ((vE (one zs root page), rE (one zs root page), xE (one zs root page), lE (one zs root page), pE (one zs root page) + page % 8), 0) else (E0, 4))
    else if fltR (two zs root page) = 0 then
      (if lE (two zs root page) = true then (entE (two zs root page), 0) else (E0, 4))
    else (E0, fltR (two zs root page)))
  else (E0, fltR (one zs root page))
theorem pE_in (z : Int) : 0 ≤ pE z ∧ pE z < 64 := by
  unfold pE; split <;> omega
theorem quo_one {p : Int} (h0 : 0 ≤ p) (h1 : p < 64) : (IntKind.i64.wrap (p.tdiv 8)).tmod 8 = p / 8 := by
  rw [Int.tdiv_eq_ediv_of_nonneg h0, wraps_i64 _ (by omega) (by omega), Int.tmod_eq_emod_of_nonneg (by omega)]
  omega
theorem quo_two {p : Int} (h0 : 0 ≤ p) (h1 : p < 64) : (IntKind.i64.wrap p).tmod 8 = p % 8 := by
  rw [wraps_i64 _ (by omega) (by omega), Int.tmod_eq_emod_of_nonneg (by omega)]
theorem span0 (w : World) : (Instr.index 82 (.agg #[J 8, J 1]) (J 0)).run Tryz.prog w = .ok (J 8) w := by kernel_rfl
theorem span1 (w : World) : (Instr.index 82 (.agg #[J 8, J 1]) (J 1)).run Tryz.prog w = .ok (J 1) w := by kernel_rfl
abbrev W0 (w : World) (b o cap : Nat) : World := (w.alloc (.cells #[.slice (some ⟨b, o, none⟩) 512 cap] 24)).alloc (.cells #[.bool false, .bool false, .bool false, .bool false, J 0] 171)
theorem W0_mem {w w' : World} {b o cap : Nat} (h : Below (W0 w b o cap).heap.size (W0 w b o cap) w') : w'.cell? ⟨w.heap.size, 0, none⟩ = some (.slice (some ⟨b, o, none⟩) 512 cap) ∧ Below (W0 w b o cap).heap.size (W0 w b o cap) w' := by
  refine ⟨?_, h⟩
  rw [(bcell h).1 _ _ (by simp [W0]; omega)]
  simp [W0, go_sem]
theorem W0_below {w w' : World} {b o cap : Nat} (h : Below (W0 w b o cap).heap.size (W0 w b o cap) w') : Below w.heap.size w w' := bel_trans (bel_alloc (bel_alloc (Below.refl _ _) _) _) h
theorem W0_set5 {w w' : World} {b o cap : Nat} (h : Below (W0 w b o cap).heap.size (W0 w b o cap) w') (u0 u1 u2 u3 u4 : Value) :
    Below (W0 w b o cap).heap.size (W0 w b o cap) (((((w'.setCell ⟨w.heap.size + 1 + 1, 0, none⟩ u0).setCell ⟨w.heap.size + 1 + 1, 1, none⟩ u1).setCell ⟨w.heap.size + 1 + 1, 2, none⟩ u2).setCell ⟨w.heap.size + 1 + 1, 3, none⟩ u3).setCell ⟨w.heap.size + 1 + 1, 4, none⟩ u4) :=
  bel_set5 (by simp [W0]) h _ _ _ _ _
theorem W0_setn {w w' : World} {b o cap n : Nat} (hn : w.heap.size + 1 < n) (h : Below (W0 w b o cap).heap.size (W0 w b o cap) w') (u0 u1 u2 u3 u4 : Value) :
    Below (W0 w b o cap).heap.size (W0 w b o cap) (((((w'.setCell ⟨n, 0, none⟩ u0).setCell ⟨n, 1, none⟩ u1).setCell ⟨n, 2, none⟩ u2).setCell ⟨n, 3, none⟩ u3).setCell ⟨n, 4, none⟩ u4) :=
  bel_set5 (by simp [W0]; omega) h _ _ _ _ _
set_option maxHeartbeats 1000000 in
theorem find_any (v : Value) (zs : List Int) (root page : Int) (w : World) (h : Sl w v zs) (hn : zs.length = 512) (r0 : 0 ≤ root) (r1 : root < 64) (g0 : 0 ≤ page) (g1 : page < 64) :
    Calls Tryz.prog 150 #[.agg #[v], J root, J page] w fun e w' => (∃ b r x l p f, e = .returned (.tuple #[.agg #[.bool b, .bool r, .bool x, .bool l, J p], J f]) ∧ fnd zs root page = ((b, r, x, l, p), f)) ∧ Below w.heap.size w w' := by
  obtain ⟨b, o, cap, rfl, _, _⟩ := h.open512 hn
  have HN : Hid (zs.length = 512) := hn
  have HS : Hid (Sl w (.slice (some ⟨b, o, none⟩) 512 cap) zs) := h
  clear hn h
  have m0 : 0 ≤ page / 8 := by omega
  have m1 : page / 8 < 8 := by omega
  have q1 : Hid ((IntKind.i64.wrap (page.tdiv 8)).tmod 8 = page / 8) := quo_one g0 g1
  have q2 : Hid ((IntKind.i64.wrap page).tmod 8 = page % 8) := quo_two g0 g1
  have i0 := span0
  have i1 := span1
  go_enter Tryz.func150, Tryz.ntmps150
  go_wp2
  refine wp_loop_rounds 3 ?_
  rw [rounds_succ]
  go_upto_region 5 with fail
  go_cut [11, 12] from 17 to 42 (fun s t wx => ∃ n, s = .pointer (some ⟨n, 0, none⟩) ∧ t = J (fltR (one zs root page)) ∧ Blk wx n #[.bool (vE (one zs root page)), .bool (rE (one zs root page)), .bool (xE (one zs root page)), .bool (lE (one zs root page)), J (pE (one zs root page))] ∧ Below (W0 w b o cap).heap.size (W0 w b o cap) wx)
  case first =>
    go_region_held3 (fun w' => w'.cell? ⟨w.heap.size, 0, none⟩ = some (.slice (some ⟨b, o, none⟩) 512 cap) ∧ Below (W0 w b o cap).heap.size (W0 w b o cap) w')
      (first | (refine W0_mem ?_; (repeat (first | with_reducible assumption | (with_reducible (refine And.right (a := _ = _) (?_ : _ ∧ _); assumption)) | with_reducible exact Below.refl _ _ | with_reducible refine W0_set5 ?_ _ _ _ _ _ | with_reducible refine Below.drew ?_ | with_reducible refine bel_drewN ?_ _ | with_reducible refine bel_alloc ?_ _ | with_reducible refine bel_trans ?_ (by assumption)))))
      (first | (go_at_call 164; rw [q1.out]; refine (wRead_any _ zs root (page / 8) _ ?_ HN.out r0 r1 m0 m1).mono ?_; (focus (refine HS.out.keep (W0_below (b := b) (o := o) (cap := cap) ?_); (repeat (first | with_reducible assumption | (with_reducible (refine And.right (a := _ = _) (?_ : _ ∧ _); assumption)) | with_reducible exact Below.refl _ _ | with_reducible refine Below.drew ?_ | with_reducible refine bel_drewN ?_ _ | with_reducible refine bel_alloc ?_ _ | with_reducible refine bel_trans ?_ (by assumption))))); rintro e w1 ⟨rfl, b1⟩; obtain ⟨c1, f1⟩ := bcell b1))
    all_goals (go_wp2_with fail; go_meet)
    · exact ⟨_, rfl, rfl, Blk.new _ _ _ _, And.right (a := _ = _) (by with_reducible assumption)⟩
    · exact ⟨_, rfl, rfl, blk_set5 (heap_kept b1 (by simp) (heap_drawn (m := 1) (heap_at (by simp)))) _ _ _ _ _, And.right (a := _ = _) (by with_reducible assumption)⟩
  case rest =>
    obtain ⟨n, rfl, rfl, K1, B1⟩ := hcut
    have HB : Hid (Below (W0 w b o cap).heap.size (W0 w b o cap) wc) := B1
    obtain ⟨c1, f1⟩ := bcell B1
    have s1 : w.heap.size + 1 < wc.heap.size := by have := B1.size; simp [W0] at this; omega
    obtain ⟨d0, d1, d2, d3, d4⟩ := K1.five
    clear B1
    by_cases hf : fltR (one zs root page) = 0
    rotate_left
    · have hq : (fltR (one zs root page) != 0) = true := by simpa using hf
      go_wp2
      refine bodyPost_ret (v := .tuple #[.agg #[.bool false, .bool false, .bool false, .bool false, J 0], J (fltR (one zs root page))]) (by simp [results, Tryz.results150, go_sem, *]) rfl ⟨⟨_, _, _, _, _, _, rfl, by rw [fnd, if_neg hf]; rfl⟩, ?_⟩
      exact bel_set5 (by omega) (W0_below HB.out) _ _ _ _ _
    have hq : (fltR (one zs root page) != 0) = false := by simpa using hf
    cases hl : lE (one zs root page)
    rotate_left
    · obtain ⟨p0, p1⟩ := pE_in (one zs root page)
      have hl' : Hid (lE (one zs root page) = true) := hl
      rw [hl] at d3
      clear hl
      by_cases hp : pE (one zs root page) % 8 = 0
      · go_wp2_with fail
        refine (within_yes _ _ _ _ _ page 8 _ p0 p1 g0 g1 (.inl rfl) hp).mono ?_
        rintro e w2 ⟨rfl, b2⟩
        have B2 : Hid (Below (W0 w b o cap).heap.size (W0 w b o cap) w2) := bel_trans HB.out b2
        clear c1 f1
        obtain ⟨c1, f1⟩ := bcell B2.out
        clear b2 K1 d0 d1 d2 d3 d4 HB
        go_wp2
        refine bodyPost_ret (v := .tuple #[.agg #[.bool (vE (one zs root page)), .bool (rE (one zs root page)), .bool (xE (one zs root page)), .bool true, J (pE (one zs root page) + page % 8)], J 0]) (by simp [results, Tryz.results150, go_sem, *]) rfl ⟨⟨_, _, _, _, _, _, rfl, by rw [fnd, if_pos hf, if_pos hl'.out, if_pos hp, hl'.out]⟩, ?_⟩
        exact bel_set5 (by omega) (W0_below B2.out) _ _ _ _ _
      · go_wp2_with fail
        refine (within_no _ _ _ _ _ page _ p0 p1 hp).mono ?_
        rintro e w2 ⟨rfl, b2⟩
        have B2 : Hid (Below (W0 w b o cap).heap.size (W0 w b o cap) w2) := bel_trans HB.out b2
        clear c1 f1
        obtain ⟨c1, f1⟩ := bcell B2.out
        clear b2 K1 d0 d1 d2 d3 d4 HB
        go_wp2
        refine bodyPost_ret (v := .tuple #[.agg #[.bool false, .bool false, .bool false, .bool false, J 0], J 4]) (by simp [results, Tryz.results150, go_sem, *]) rfl ⟨⟨_, _, _, _, _, _, rfl, by rw [fnd, if_pos hf, if_pos hl'.out, if_neg hp]; rfl⟩, ?_⟩
        exact bel_set5 (by omega) (W0_below B2.out) _ _ _ _ _
    have hl0 : ¬ lE (one zs root page) = true := by rw [hl]; decide
    have hl' : Hid (¬ lE (one zs root page) = true) := hl0
    clear hl0
    rw [hl] at d3
    clear hl
    go_wp2
    rw [rounds_succ]
    go_upto_region 5 with fail
    obtain ⟨p0, p1⟩ := pE_in (one zs root page)
    have n0 : 0 ≤ page % 8 := by omega
    have n1 : page % 8 < 8 := by omega
    go_cut [11, 12] from 17 to 42 (fun s t wx => ∃ n, s = .pointer (some ⟨n, 0, none⟩) ∧ t = J (fltR (two zs root page)) ∧ Blk wx n #[.bool (vE (two zs root page)), .bool (rE (two zs root page)), .bool (xE (two zs root page)), .bool (lE (two zs root page)), J (pE (two zs root page))] ∧ Below (W0 w b o cap).heap.size (W0 w b o cap) wx)
    case first =>
      have B1 := HB.out
      go_region_held3 (fun w' => w'.cell? ⟨w.heap.size, 0, none⟩ = some (.slice (some ⟨b, o, none⟩) 512 cap) ∧ Below (W0 w b o cap).heap.size (W0 w b o cap) w')
        (first | (refine W0_mem ?_; (repeat (first | with_reducible assumption | (with_reducible (refine And.right (a := _ = _) (?_ : _ ∧ _); assumption)) | with_reducible exact Below.refl _ _ | with_reducible refine W0_setn s1 ?_ _ _ _ _ _ | with_reducible refine Below.drew ?_ | with_reducible refine bel_drewN ?_ _ | with_reducible refine bel_alloc ?_ _ | with_reducible refine bel_trans ?_ (by assumption)))))
        (first | (go_at_call 164; rw [q2.out]; refine (wRead_any _ zs (pE (one zs root page)) (page % 8) _ ?_ HN.out p0 p1 n0 n1).mono ?_; (focus (refine HS.out.keep (W0_below (b := b) (o := o) (cap := cap) ?_); (repeat (first | with_reducible assumption | (with_reducible (refine And.right (a := _ = _) (?_ : _ ∧ _); assumption)) | with_reducible exact Below.refl _ _ | with_reducible refine Below.drew ?_ | with_reducible refine bel_drewN ?_ _ | with_reducible refine bel_alloc ?_ _ | with_reducible refine bel_trans ?_ (by assumption))))); rintro e w1 ⟨rfl, b1⟩; obtain ⟨c2, f2⟩ := bcell b1))
      all_goals (go_wp2_with fail; go_meet)
      · exact ⟨_, rfl, rfl, Blk.new _ _ _ _, And.right (a := _ = _) (by with_reducible assumption)⟩
      · exact ⟨_, rfl, rfl, blk_set5 (heap_kept b1 (by simp) (heap_drawn (m := 1) (heap_at (by simp)))) _ _ _ _ _, And.right (a := _ = _) (by with_reducible assumption)⟩
    case rest =>
      clear K1 d0 d1 d2 d3 d4 c1 f1 HB s1
      obtain ⟨n, rfl, rfl, K1, B1⟩ := hcut
      have HB : Hid (Below (W0 w b o cap).heap.size (W0 w b o cap) wc) := B1
      obtain ⟨c1, f1⟩ := bcell B1
      have s1 : w.heap.size + 1 < wc.heap.size := by have := B1.size; simp [W0] at this; omega
      obtain ⟨d0, d1, d2, d3, d4⟩ := K1.five
      clear B1
      by_cases hf2 : fltR (two zs root page) = 0
      rotate_left
      · have hq2 : (fltR (two zs root page) != 0) = true := by simpa using hf2
        go_wp2
        refine bodyPost_ret (v := .tuple #[.agg #[.bool false, .bool false, .bool false, .bool false, J 0], J (fltR (two zs root page))]) (by simp [results, Tryz.results150, go_sem, *]) rfl ⟨⟨_, _, _, _, _, _, rfl, by rw [fnd, if_pos hf, if_neg hl'.out, if_neg hf2]; rfl⟩, ?_⟩
        exact bel_set5 (by omega) (W0_below HB.out) _ _ _ _ _
      have hq2 : (fltR (two zs root page) != 0) = false := by simpa using hf2
      cases hl2 : lE (two zs root page)
      rotate_left
      · obtain ⟨y0, y1⟩ := pE_in (two zs root page)
        have hl2' : Hid (lE (two zs root page) = true) := hl2
        have H1 : Hid (pE (two zs root page) + page % 1 = pE (two zs root page)) := by show _ = _; omega
        rw [hl2] at d3
        clear hl2
        go_wp2_with fail
        refine (within_yes _ _ _ _ _ page 1 _ y0 y1 g0 g1 (.inr rfl) (by omega)).mono ?_
        rw [H1.out]
        rintro e w2 ⟨rfl, b2⟩
        have B2 : Hid (Below (W0 w b o cap).heap.size (W0 w b o cap) w2) := bel_trans HB.out b2
        clear c1 f1
        obtain ⟨c1, f1⟩ := bcell B2.out
        clear b2 K1 d0 d1 d2 d3 d4 HB
        go_wp2
        refine bodyPost_ret (v := .tuple #[.agg #[.bool (vE (two zs root page)), .bool (rE (two zs root page)), .bool (xE (two zs root page)), .bool true, J (pE (two zs root page))], J 0]) (by simp [results, Tryz.results150, go_sem, *]) rfl ⟨⟨_, _, _, _, _, _, rfl, by rw [fnd, if_pos hf, if_neg hl'.out, if_pos hf2, if_pos hl2'.out, entE, hl2'.out]⟩, ?_⟩
        exact bel_set5 (by omega) (W0_below B2.out) _ _ _ _ _
      have hl2' : ¬ lE (two zs root page) = true := by rw [hl2]; decide
      have HL : Hid _ := hl2'
      rw [hl2] at d3
      clear hl2 hl2'
      go_wp2
      rw [rounds_succ]
      go_wp2
      refine bodyPost_ret (v := .tuple #[.agg #[.bool false, .bool false, .bool false, .bool false, J 0], J 4]) (by simp [results, Tryz.results150, go_sem, *]) rfl ⟨⟨_, _, _, _, _, _, rfl, by rw [fnd, if_pos hf, if_neg hl'.out, if_pos hf2, if_neg HL.out]; rfl⟩, ?_⟩
      exact bel_set5 (by omega) (W0_below HB.out) _ _ _ _ _
end Go.Proofs.YthlhocneggcekaaGreat
