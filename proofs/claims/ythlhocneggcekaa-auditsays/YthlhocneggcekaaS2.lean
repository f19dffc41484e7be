/-
  Laid together: Walk1, Find, Write, Put, KeepsWalk, Walk2, WithA, With, WalkMath.
-/
import Derived.Test.YthlhocneggcekaaS1
import Derived.Deep.RegionWith
import Derived.Test.YthlhocneggcekaaRows
import Derived.WalkKit
import Derived.WalkSpells
import Derived.WalkLawsBesides
import Derived.Below
import Derived.WalkSmall
import Derived.Deep.QuietTactic
import Derived.BigQuiet
import Derived.Deep.Draws
import Derived.LoopN
import Derived.Deep.CutRange
import Derived.Deep.RegionHeld3
import Derived.Laws.CopyOwn
import Derived.Deep.AppendLies
namespace Go.Proofs.Ythlhocneggcekaa
open Go.RowKit
theorem wPage_any (z : Int) (w : World) : Calls Try.prog 64 #[.int .i64 z] w fun e w' => e = .returned (.bool (pageB z)) ∧ w' = w := by
  by_cases h1 : 0 ≤ z
  · by_cases h2 : z < 64
    · have : pageB z = true := by simp [pageB, h1, h2]
      rw [this]
      go_enter Try.func64, Try.ntmps64
      go_wp2
      go_ret
      exact ⟨rfl, rfl⟩
    · have : pageB z = false := by simp [pageB, h2]
      rw [this]
      go_enter Try.func64, Try.ntmps64
      go_wp2
      go_ret
      exact ⟨rfl, rfl⟩
  · have : pageB z = false := by simp [pageB, h1]
    rw [this]
    go_enter Try.func64, Try.ntmps64
    go_wp2
    go_ret
    exact ⟨rfl, rfl⟩
theorem may_any (v r x l : Bool) (p : Int) (wr : Bool) (w : World) :
    Calls Try.prog 66 #[.agg #[.bool v, .bool r, .bool x, .bool l, .int .i64 p], .bool wr] w fun e w' => e = .returned (.bool (r && (x || !wr))) ∧ ∃ o, w' = w.alloc o := by
  cases r <;> cases x <;> cases wr
  all_goals
    go_enter Try.func66, Try.ntmps66
    go_wp2
    go_ret
    exact ⟨rfl, _, rfl⟩
def fltR (z : Int) : Int := if okE z = true then (if vE z = true then 0 else 3) else 4
theorem fields_none {z : Int} (h : vE z = false) : rE z = false ∧ xE z = false ∧ lE z = false ∧ pE z = 0 := by simp [rE, xE, lE, pE, h]
set_option maxHeartbeats 2000000 in
theorem wRead_any (v : Value) (zs : List Int) (t k : Int) (w : World) (h : Sl w v zs) (hn : zs.length = 512) (t0 : 0 ≤ t) (t1 : t < 64) (k0 : 0 ≤ k) (k1 : k < 8) :
    Calls Try.prog 67 #[.agg #[v], .int .i64 t, .int .i64 k] w fun e w' => e = .returned (.tuple #[.agg #[.bool (vE (nth zs (8 * t + k).toNat)), .bool (rE (nth zs (8 * t + k).toNat)), .bool (xE (nth zs (8 * t + k).toNat)), .bool (lE (nth zs (8 * t + k).toNat)), .int .i64 (pE (nth zs (8 * t + k).toNat))], .int .i64 (fltR (nth zs (8 * t + k).toNat))]) ∧ Below w.heap.size w w' := by
  obtain ⟨b, o, cap, rfl, hb, hc⟩ := h.open512 hn
  have g := hc (t * 8 + k).toNat (by omega)
  rw [show (8 * t + k).toNat = (t * 8 + k).toNat by rw [Int.mul_comm]]
  generalize nth zs (t * 8 + k).toNat = z at *
  clear hc hn h
  go_enter Try.func67, Try.ntmps67
  go_wp2_with fail
  refine (eRead_any _ _).mono ?_
  rintro e w1 ⟨rfl, b1⟩
  obtain ⟨c1, f1⟩ := bcell b1
  have B1 : Hid (Below w.heap.size w w1) := bel_trans (bel_alloc (bel_alloc (Below.refl _ _) _) _) b1
  have K1 := (Blk.newAt (n := w.heap.size + 1) (by simp) _ _ _).keep b1
  have L1 := K1.lt
  clear b1 K1
  cases ho : okE z
  · have hv : vE z = false := by simp [vE, ho]
    obtain ⟨e1, e2, e3, e4⟩ := fields_none hv
    have HF : Hid (vE z = false ∧ rE z = false ∧ xE z = false ∧ lE z = false ∧ pE z = 0 ∧ fltR z = 4) := ⟨hv, e1, e2, e3, e4, by simp [fltR, ho]⟩
    rw [hv, e1, e2, e3, e4]
    clear hv e1 e2 e3 e4 ho
    go_wp2
    refine bodyPost_ret (v := .tuple #[.agg #[.bool false, .bool false, .bool false, .bool false, .int .i64 0], .int .i64 4]) (by simp [results, Try.results67, go_sem, *]) rfl ⟨?_, ?_⟩
    · obtain ⟨e0, e1, e2, e3, e4, e5⟩ := HF.out
      rw [e0, e1, e2, e3, e4, e5]
    exact bel_alloc (bel_set5 (by omega) B1.out _ _ _ _ _) _
  · cases hv : vE z
    · obtain ⟨e1, e2, e3, e4⟩ := fields_none hv
      have HF : Hid (vE z = false ∧ rE z = false ∧ xE z = false ∧ lE z = false ∧ pE z = 0 ∧ fltR z = 3) := ⟨hv, e1, e2, e3, e4, by simp [fltR, ho, hv]⟩
      rw [e1, e2, e3, e4]
      clear e1 e2 e3 e4 ho hv
      go_wp2
      refine bodyPost_ret (v := .tuple #[.agg #[.bool false, .bool false, .bool false, .bool false, .int .i64 0], .int .i64 3]) (by simp [results, Try.results67, go_sem, *]) rfl ⟨?_, ?_⟩
      · obtain ⟨e0, e1, e2, e3, e4, e5⟩ := HF.out
        rw [e0, e1, e2, e3, e4, e5]
      exact bel_alloc (bel_set5 (by omega) B1.out _ _ _ _ _) _
    · have HF : Hid (vE z = true ∧ fltR z = 0) := ⟨hv, by simp [fltR, ho, hv]⟩
      clear ho hv
      go_wp2
      refine bodyPost_ret (v := .tuple #[.agg #[.bool true, .bool (rE z), .bool (xE z), .bool (lE z), .int .i64 (pE z)], .int .i64 0]) (by simp [results, Try.results67, go_sem, *]) rfl ⟨?_, ?_⟩
      · obtain ⟨e0, e5⟩ := HF.out
        rw [e0, e5]
      exact bel_alloc (bel_set5 (by omega) B1.out _ _ _ _ _) _
set_option maxHeartbeats 2000000 in
theorem within_yes (v r x l : Bool) (p page span : Int) (w : World) (p0 : 0 ≤ p) (p1 : p < 64) (g0 : 0 ≤ page) (g1 : page < 64) (hs : span = 8 ∨ span = 1) (h : p % span = 0) :
    Calls Try.prog 68 #[.agg #[.bool v, .bool r, .bool x, .bool l, .int .i64 p], .int .i64 page, .int .i64 span] w fun e w' => e = .returned (.tuple #[.agg #[.bool v, .bool r, .bool x, .bool l, .int .i64 (p + page % span)], .int .i64 0]) ∧ Below w.heap.size w w' := by
  rcases hs with rfl | rfl
  · go_enter Try.func68, Try.ntmps68
    go_wp2
    go_region
    go_wp2
    refine bodyPost_ret (v := .tuple #[.agg #[.bool v, .bool r, .bool x, .bool l, .int .i64 (p + page % 8)], .int .i64 0]) (by simp [results, Try.results68, go_sem]) rfl ⟨rfl, ?_⟩
    exact below_drew (bel_alloc (bel_alloc (Below.refl _ _) _) _)
  · go_enter Try.func68, Try.ntmps68
    go_wp2
    go_region
    go_wp2
    refine bodyPost_ret (v := .tuple #[.agg #[.bool v, .bool r, .bool x, .bool l, .int .i64 (p + page % 1)], .int .i64 0]) (by simp [results, Try.results68, go_sem]) rfl ⟨rfl, ?_⟩
    exact below_drew (bel_alloc (bel_alloc (Below.refl _ _) _) _)
set_option maxHeartbeats 2000000 in
theorem within_no (v r x l : Bool) (p page : Int) (w : World) (p0 : 0 ≤ p) (p1 : p < 64) (h : ¬ p % 8 = 0) :
    Calls Try.prog 68 #[.agg #[.bool v, .bool r, .bool x, .bool l, .int .i64 p], .int .i64 page, .int .i64 8] w fun e w' => e = .returned (.tuple #[.agg #[.bool false, .bool false, .bool false, .bool false, .int .i64 0], .int .i64 4]) ∧ Below w.heap.size w w' := by
  go_enter Try.func68, Try.ntmps68
  go_wp2
  refine bodyPost_ret (v := .tuple #[.agg #[.bool false, .bool false, .bool false, .bool false, .int .i64 0], .int .i64 4]) (by simp [results, Try.results68, go_sem]) rfl ⟨rfl, ?_⟩
  exact bel_alloc (bel_alloc (Below.refl _ _) _) _
abbrev Five := Bool × Bool × Bool × Bool × Int
def E0 : Five := (false, false, false, false, 0)
def entE (z : Int) : Five := (vE z, rE z, xE z, lE z, pE z)
def one (zs : List Int) (root page : Int) : Int := nth zs (8 * root + page / 8).toNat
def two (zs : List Int) (root page : Int) : Int := nth zs (8 * pE (one zs root page) + page % 8).toNat
def fnd (zs : List Int) (root page : Int) : Five × Int :=
  if fltR (one zs root page) = 0 then
    (if lE (one zs root page) = true then
      (if pE (one zs root page) % 8 = 0 then ((vE (one zs root page), rE (one zs root page), xE (one zs root page), lE (one zs root page), pE (one zs root page) + page % 8), 0) else (E0, 4))
    else if fltR (two zs root page) = 0 then
      (if lE (two zs root page) = true then (entE (two zs root page), 0) else (E0, 4))
    else (E0, fltR (two zs root page)))
  else (E0, fltR (one zs root page))
theorem pE_in (z : Int) : 0 ≤ pE z ∧ pE z < 64 := by
  unfold pE; split <;> omega
theorem quo_one {p : Int} (h0 : 0 ≤ p) (h1 : p < 64) : (IntKind.i64.wrap (p.tdiv 8)).tmod 8 = p / 8 := by
  rw [Int.tdiv_eq_ediv_of_nonneg h0, wraps_i64 _ (by omega) (by omega), Int.tmod_eq_emod_of_nonneg (by omega)]
  omega
theorem quo_two {p : Int} (h0 : 0 ≤ p) (h1 : p < 64) : (IntKind.i64.wrap p).tmod 8 = p % 8 := by
  rw [wraps_i64 _ (by omega) (by omega), Int.tmod_eq_emod_of_nonneg (by omega)]
theorem span0 (w : World) : (Instr.index 97 (.agg #[.int .i64 8, .int .i64 1]) (.int .i64 0)).run Try.prog w = .ok (.int .i64 8) w := by kernel_rfl
theorem span1 (w : World) : (Instr.index 97 (.agg #[.int .i64 8, .int .i64 1]) (.int .i64 1)).run Try.prog w = .ok (.int .i64 1) w := by kernel_rfl
abbrev W0 (w : World) (b o cap : Nat) : World := (w.alloc (.cells #[.slice (some ⟨b, o, none⟩) 512 cap] 30)).alloc (.cells #[.bool false, .bool false, .bool false, .bool false, .int .i64 0] 69)
theorem W0_mem {w w' : World} {b o cap : Nat} (h : Below (W0 w b o cap).heap.size (W0 w b o cap) w') : w'.cell? ⟨w.heap.size, 0, none⟩ = some (.slice (some ⟨b, o, none⟩) 512 cap) ∧ Below (W0 w b o cap).heap.size (W0 w b o cap) w' := by
  refine ⟨?_, h⟩
  rw [(bcell h).1 _ _ (by simp [W0]; omega)]
  simp [W0, go_sem]
theorem W0_below {w w' : World} {b o cap : Nat} (h : Below (W0 w b o cap).heap.size (W0 w b o cap) w') : Below w.heap.size w w' := bel_trans (bel_alloc (bel_alloc (Below.refl _ _) _) _) h
theorem W0_set5 {w w' : World} {b o cap : Nat} (h : Below (W0 w b o cap).heap.size (W0 w b o cap) w') (u0 u1 u2 u3 u4 : Value) :
    Below (W0 w b o cap).heap.size (W0 w b o cap) (((((w'.setCell ⟨w.heap.size + 1 + 1, 0, none⟩ u0).setCell ⟨w.heap.size + 1 + 1, 1, none⟩ u1).setCell ⟨w.heap.size + 1 + 1, 2, none⟩ u2).setCell ⟨w.heap.size + 1 + 1, 3, none⟩ u3).setCell ⟨w.heap.size + 1 + 1, 4, none⟩ u4) :=
  bel_set5 (by simp [W0]) h _ _ _ _ _
theorem W0_setn {w w' : World} {b o cap n : Nat} (hn : w.heap.size + 1 < n) (h : Below (W0 w b o cap).heap.size (W0 w b o cap) w') (u0 u1 u2 u3 u4 : Value) :
    Below (W0 w b o cap).heap.size (W0 w b o cap) (((((w'.setCell ⟨n, 0, none⟩ u0).setCell ⟨n, 1, none⟩ u1).setCell ⟨n, 2, none⟩ u2).setCell ⟨n, 3, none⟩ u3).setCell ⟨n, 4, none⟩ u4) :=
  bel_set5 (by simp [W0]; omega) h _ _ _ _ _
set_option maxHeartbeats 1000000 in
theorem find_any (v : Value) (zs : List Int) (root page : Int) (w : World) (h : Sl w v zs) (hn : zs.length = 512) (r0 : 0 ≤ root) (r1 : root < 64) (g0 : 0 ≤ page) (g1 : page < 64) :
    Calls Try.prog 65 #[.agg #[v], .int .i64 root, .int .i64 page] w fun e w' => (∃ b r x l p f, e = .returned (.tuple #[.agg #[.bool b, .bool r, .bool x, .bool l, .int .i64 p], .int .i64 f]) ∧ fnd zs root page = ((b, r, x, l, p), f)) ∧ Below w.heap.size w w' := by
  obtain ⟨b, o, cap, rfl, _, _⟩ := h.open512 hn
  have HN : Hid (zs.length = 512) := hn
  have HS : Hid (Sl w (.slice (some ⟨b, o, none⟩) 512 cap) zs) := h
  clear hn h
  have m0 : 0 ≤ page / 8 := by omega
  have m1 : page / 8 < 8 := by omega
  have q1 : Hid ((IntKind.i64.wrap (page.tdiv 8)).tmod 8 = page / 8) := quo_one g0 g1
  have q2 : Hid ((IntKind.i64.wrap page).tmod 8 = page % 8) := quo_two g0 g1
  have i0 := span0
  have i1 := span1
  go_enter Try.func65, Try.ntmps65
  go_wp2
  refine wp_loop_rounds 3 ?_
  rw [rounds_succ]
  go_upto_region 5 with fail
  go_cut [11, 12] from 17 to 42 (fun s t wx => ∃ n, s = .pointer (some ⟨n, 0, none⟩) ∧ t = .int .i64 (fltR (one zs root page)) ∧ Blk wx n #[.bool (vE (one zs root page)), .bool (rE (one zs root page)), .bool (xE (one zs root page)), .bool (lE (one zs root page)), .int .i64 (pE (one zs root page))] ∧ Below (W0 w b o cap).heap.size (W0 w b o cap) wx)
  case first =>
    go_region_held3 (fun w' => w'.cell? ⟨w.heap.size, 0, none⟩ = some (.slice (some ⟨b, o, none⟩) 512 cap) ∧ Below (W0 w b o cap).heap.size (W0 w b o cap) w')
      (first | (refine W0_mem ?_; (repeat (first | with_reducible assumption | (with_reducible (refine And.right (a := _ = _) (?_ : _ ∧ _); assumption)) | with_reducible exact Below.refl _ _ | with_reducible refine W0_set5 ?_ _ _ _ _ _ | with_reducible refine Below.drew ?_ | with_reducible refine bel_drewN ?_ _ | with_reducible refine bel_alloc ?_ _ | with_reducible refine bel_trans ?_ (by assumption)))))
      (first | (go_at_call 67; rw [q1.out]; refine (wRead_any _ zs root (page / 8) _ ?_ HN.out r0 r1 m0 m1).mono ?_; (focus (refine HS.out.keep (W0_below (b := b) (o := o) (cap := cap) ?_); (repeat (first | with_reducible assumption | (with_reducible (refine And.right (a := _ = _) (?_ : _ ∧ _); assumption)) | with_reducible exact Below.refl _ _ | with_reducible refine Below.drew ?_ | with_reducible refine bel_drewN ?_ _ | with_reducible refine bel_alloc ?_ _ | with_reducible refine bel_trans ?_ (by assumption))))); rintro e w1 ⟨rfl, b1⟩; obtain ⟨c1, f1⟩ := bcell b1))
    all_goals (go_wp2_with fail; go_meet)
    · exact ⟨_, rfl, rfl, Blk.new _ _ _ _, And.right (a := _ = _) (by with_reducible assumption)⟩
    · exact ⟨_, rfl, rfl, blk_set5 (heap_kept b1 (by simp) (heap_drawn (m := 1) (heap_at (by simp)))) _ _ _ _ _, And.right (a := _ = _) (by with_reducible assumption)⟩
  case rest =>
    obtain ⟨n, rfl, rfl, K1, B1⟩ := hcut
    have HB : Hid (Below (W0 w b o cap).heap.size (W0 w b o cap) wc) := B1
    obtain ⟨c1, f1⟩ := bcell B1
    have s1 : w.heap.size + 1 < wc.heap.size := by have := B1.size; simp [W0] at this; omega
    obtain ⟨d0, d1, d2, d3, d4⟩ := K1.five
    clear B1
    by_cases hf : fltR (one zs root page) = 0
    rotate_left
    · have hq : (fltR (one zs root page) != 0) = true := by simpa using hf
      go_wp2
      refine bodyPost_ret (v := .tuple #[.agg #[.bool false, .bool false, .bool false, .bool false, .int .i64 0], .int .i64 (fltR (one zs root page))]) (by simp [results, Try.results65, go_sem, *]) rfl ⟨⟨_, _, _, _, _, _, rfl, by rw [fnd, if_neg hf]; rfl⟩, ?_⟩
      exact bel_set5 (by omega) (W0_below HB.out) _ _ _ _ _
    have hq : (fltR (one zs root page) != 0) = false := by simpa using hf
    cases hl : lE (one zs root page)
    rotate_left
    · obtain ⟨p0, p1⟩ := pE_in (one zs root page)
      have hl' : Hid (lE (one zs root page) = true) := hl
      rw [hl] at d3
      clear hl
      by_cases hp : pE (one zs root page) % 8 = 0
      · go_wp2_with fail
        refine (within_yes _ _ _ _ _ page 8 _ p0 p1 g0 g1 (.inl rfl) hp).mono ?_
        rintro e w2 ⟨rfl, b2⟩
        have B2 : Hid (Below (W0 w b o cap).heap.size (W0 w b o cap) w2) := bel_trans HB.out b2
        clear c1 f1
        obtain ⟨c1, f1⟩ := bcell B2.out
        clear b2 K1 d0 d1 d2 d3 d4 HB
        go_wp2
        refine bodyPost_ret (v := .tuple #[.agg #[.bool (vE (one zs root page)), .bool (rE (one zs root page)), .bool (xE (one zs root page)), .bool true, .int .i64 (pE (one zs root page) + page % 8)], .int .i64 0]) (by simp [results, Try.results65, go_sem, *]) rfl ⟨⟨_, _, _, _, _, _, rfl, by rw [fnd, if_pos hf, if_pos hl'.out, if_pos hp, hl'.out]⟩, ?_⟩
        exact bel_set5 (by omega) (W0_below B2.out) _ _ _ _ _
      · go_wp2_with fail
        refine (within_no _ _ _ _ _ page _ p0 p1 hp).mono ?_
        rintro e w2 ⟨rfl, b2⟩
        have B2 : Hid (Below (W0 w b o cap).heap.size (W0 w b o cap) w2) := bel_trans HB.out b2
        clear c1 f1
        obtain ⟨c1, f1⟩ := bcell B2.out
        clear b2 K1 d0 d1 d2 d3 d4 HB
        go_wp2
        refine bodyPost_ret (v := .tuple #[.agg #[.bool false, .bool false, .bool false, .bool false, .int .i64 0], .int .i64 4]) (by simp [results, Try.results65, go_sem, *]) rfl ⟨⟨_, _, _, _, _, _, rfl, by rw [fnd, if_pos hf, if_pos hl'.out, if_neg hp]; rfl⟩, ?_⟩
        exact bel_set5 (by omega) (W0_below B2.out) _ _ _ _ _
    have hl0 : ¬ lE (one zs root page) = true := by rw [hl]; decide
    have hl' : Hid (¬ lE (one zs root page) = true) := hl0
    clear hl0
    rw [hl] at d3
    clear hl
    go_wp2
    rw [rounds_succ]
    go_upto_region 5 with fail
    obtain ⟨p0, p1⟩ := pE_in (one zs root page)
    have n0 : 0 ≤ page % 8 := by omega
    have n1 : page % 8 < 8 := by omega
    go_cut [11, 12] from 17 to 42 (fun s t wx => ∃ n, s = .pointer (some ⟨n, 0, none⟩) ∧ t = .int .i64 (fltR (two zs root page)) ∧ Blk wx n #[.bool (vE (two zs root page)), .bool (rE (two zs root page)), .bool (xE (two zs root page)), .bool (lE (two zs root page)), .int .i64 (pE (two zs root page))] ∧ Below (W0 w b o cap).heap.size (W0 w b o cap) wx)
    case first =>
      have B1 := HB.out
      go_region_held3 (fun w' => w'.cell? ⟨w.heap.size, 0, none⟩ = some (.slice (some ⟨b, o, none⟩) 512 cap) ∧ Below (W0 w b o cap).heap.size (W0 w b o cap) w')
        (first | (refine W0_mem ?_; (repeat (first | with_reducible assumption | (with_reducible (refine And.right (a := _ = _) (?_ : _ ∧ _); assumption)) | with_reducible exact Below.refl _ _ | with_reducible refine W0_setn s1 ?_ _ _ _ _ _ | with_reducible refine Below.drew ?_ | with_reducible refine bel_drewN ?_ _ | with_reducible refine bel_alloc ?_ _ | with_reducible refine bel_trans ?_ (by assumption)))))
        (first | (go_at_call 67; rw [q2.out]; refine (wRead_any _ zs (pE (one zs root page)) (page % 8) _ ?_ HN.out p0 p1 n0 n1).mono ?_; (focus (refine HS.out.keep (W0_below (b := b) (o := o) (cap := cap) ?_); (repeat (first | with_reducible assumption | (with_reducible (refine And.right (a := _ = _) (?_ : _ ∧ _); assumption)) | with_reducible exact Below.refl _ _ | with_reducible refine Below.drew ?_ | with_reducible refine bel_drewN ?_ _ | with_reducible refine bel_alloc ?_ _ | with_reducible refine bel_trans ?_ (by assumption))))); rintro e w1 ⟨rfl, b1⟩; obtain ⟨c2, f2⟩ := bcell b1))
      all_goals (go_wp2_with fail; go_meet)
      · exact ⟨_, rfl, rfl, Blk.new _ _ _ _, And.right (a := _ = _) (by with_reducible assumption)⟩
      · exact ⟨_, rfl, rfl, blk_set5 (heap_kept b1 (by simp) (heap_drawn (m := 1) (heap_at (by simp)))) _ _ _ _ _, And.right (a := _ = _) (by with_reducible assumption)⟩
    case rest =>
      clear K1 d0 d1 d2 d3 d4 c1 f1 HB s1
      obtain ⟨n, rfl, rfl, K1, B1⟩ := hcut
      have HB : Hid (Below (W0 w b o cap).heap.size (W0 w b o cap) wc) := B1
      obtain ⟨c1, f1⟩ := bcell B1
      have s1 : w.heap.size + 1 < wc.heap.size := by have := B1.size; simp [W0] at this; omega
      obtain ⟨d0, d1, d2, d3, d4⟩ := K1.five
      clear B1
      by_cases hf2 : fltR (two zs root page) = 0
      rotate_left
      · have hq2 : (fltR (two zs root page) != 0) = true := by simpa using hf2
        go_wp2
        refine bodyPost_ret (v := .tuple #[.agg #[.bool false, .bool false, .bool false, .bool false, .int .i64 0], .int .i64 (fltR (two zs root page))]) (by simp [results, Try.results65, go_sem, *]) rfl ⟨⟨_, _, _, _, _, _, rfl, by rw [fnd, if_pos hf, if_neg hl'.out, if_neg hf2]; rfl⟩, ?_⟩
        exact bel_set5 (by omega) (W0_below HB.out) _ _ _ _ _
      have hq2 : (fltR (two zs root page) != 0) = false := by simpa using hf2
      cases hl2 : lE (two zs root page)
      rotate_left
      · obtain ⟨y0, y1⟩ := pE_in (two zs root page)
        have hl2' : Hid (lE (two zs root page) = true) := hl2
        have H1 : Hid (pE (two zs root page) + page % 1 = pE (two zs root page)) := by show _ = _; omega
        rw [hl2] at d3
        clear hl2
        go_wp2_with fail
        refine (within_yes _ _ _ _ _ page 1 _ y0 y1 g0 g1 (.inr rfl) (by omega)).mono ?_
        rw [H1.out]
        rintro e w2 ⟨rfl, b2⟩
        have B2 : Hid (Below (W0 w b o cap).heap.size (W0 w b o cap) w2) := bel_trans HB.out b2
        clear c1 f1
        obtain ⟨c1, f1⟩ := bcell B2.out
        clear b2 K1 d0 d1 d2 d3 d4 HB
        go_wp2
        refine bodyPost_ret (v := .tuple #[.agg #[.bool (vE (two zs root page)), .bool (rE (two zs root page)), .bool (xE (two zs root page)), .bool true, .int .i64 (pE (two zs root page))], .int .i64 0]) (by simp [results, Try.results65, go_sem, *]) rfl ⟨⟨_, _, _, _, _, _, rfl, by rw [fnd, if_pos hf, if_neg hl'.out, if_pos hf2, if_pos hl2'.out, entE, hl2'.out]⟩, ?_⟩
        exact bel_set5 (by omega) (W0_below B2.out) _ _ _ _ _
      have hl2' : ¬ lE (two zs root page) = true := by rw [hl2]; decide
      have HL : Hid _ := hl2'
      rw [hl2] at d3
      clear hl2 hl2'
      go_wp2
      rw [rounds_succ]
      go_wp2
      refine bodyPost_ret (v := .tuple #[.agg #[.bool false, .bool false, .bool false, .bool false, .int .i64 0], .int .i64 4]) (by simp [results, Try.results65, go_sem, *]) rfl ⟨⟨_, _, _, _, _, _, rfl, by rw [fnd, if_pos hf, if_neg hl'.out, if_pos hf2, if_neg HL.out]; rfl⟩, ?_⟩
      exact bel_set5 (by omega) (W0_below HB.out) _ _ _ _ _
def intCells (zs : List Int) : Array Value := (zs.map (fun z => Value.int .i64 z)).toArray
theorem intCells_list (zs : List Int) : (intCells zs).toList = zs.map (fun z => Value.int .i64 z) := by simp [intCells]
theorem Sl.setOther {w : World} {v : Value} {zs : List Int} (h : Sl w v zs) {p : Addr} (hp : v.ownBlock ≠ some p.block) (u : Value) : Sl (w.setCell p u) v zs := by
  obtain ⟨a, cap, rfl, hl, h⟩ := h
  refine ⟨a, cap, rfl, hl, ?_⟩
  rcases h with h | ⟨b, o, rfl, hlt, hc⟩
  · exact .inl h
  · have hne : b ≠ p.block := fun e => hp (by simp [Value.ownBlock, e])
    refine .inr ⟨b, o, rfl, by simpa [World.setCell] using hlt, fun i hi => ?_⟩
    rw [World.cell?_of_block (a := ⟨b, o + i, none⟩) (heap_setCell_other w p b u hne)]
    exact hc i hi
theorem Sl.shape {w : World} {v : Value} {zs : List Int} (h : Sl w v zs) : ∃ a cap, v = .slice a zs.length cap := by
  obtain ⟨a, cap, h, _⟩ := h; exact ⟨a, cap, h⟩
def wkF (zs : List Int) (root page : Int) (wr : Bool) : Five × Int :=
  if (fnd zs root page).2 = 0 then (if ((fnd zs root page).1.2.1 && ((fnd zs root page).1.2.2.1 || !wr)) = true then ((fnd zs root page).1, 0) else (E0, 5)) else (E0, (fnd zs root page).2)
def wkd (zs : List Int) (root page : Int) (wr : Bool) : Five × Int × Int :=
  if chk zs = 0 then
    (if pageB root = true ∧ pageB page = true then ((wkF zs root page wr).1, (wkF zs root page wr).2, 0) else (E0, 0, 4))
  else (E0, 0, chk zs)
set_option maxHeartbeats 2000000 in
theorem walk_any (v : Value) (zs : List Int) (root page : Int) (wr : Bool) (w : World) (h : Sl w v zs) :
    Calls Try.prog 57 #[.agg #[v], .int .i64 root, .int .i64 page, .bool wr] w fun e w' => (∃ b r x l p f c, e = .returned (.tuple #[.agg #[.bool b, .bool r, .bool x, .bool l, .int .i64 p], .int .i64 f, .int .i64 c]) ∧ wkd zs root page wr = ((b, r, x, l, p), f, c)) ∧ Below w.heap.size w w' := by
  have HS : Hid (Sl w v zs) := h
  obtain ⟨a0, c0, rfl⟩ := h.shape
  clear h
  go_enter Try.func57, Try.ntmps57
  go_wp2_with fail
  refine (check_any _ zs _ (HS.out.keep (bel_alloc (bel_alloc (Below.refl _ _) _) _))).mono ?_
  rintro e w1 ⟨rfl, b1⟩
  have B1 : Hid _ := b1
  have BB : Hid (Below w.heap.size w w1) := bel_trans (bel_alloc (bel_alloc (Below.refl _ _) _) _) b1
  obtain ⟨c1, f1⟩ := bcell b1
  have s1 : w.heap.size + 1 < w1.heap.size := by have := b1.size; simp at this; omega
  clear b1
  by_cases hk : chk zs = 0
  rotate_left
  · have hq : (chk zs != 0) = true := by simpa using hk
    go_wp2
    refine bodyPost_ret (v := .tuple #[.agg #[.bool false, .bool false, .bool false, .bool false, .int .i64 0], .int .i64 0, .int .i64 (chk zs)]) (by simp [results, Try.results57, go_sem, *]) rfl ⟨⟨_, _, _, _, _, _, _, rfl, by rw [wkd, if_neg hk]; rfl⟩, ?_⟩
    exact bel_set5 (by omega) BB.out _ _ _ _ _
  have hq : (chk zs != 0) = false := by simpa using hk
  have HN : Hid (zs.length = 512) := (chk_ok hk).1
  have HK : Hid (chk zs = 0) := hk
  clear hk
  cases hr : pageB root
  · have hd : ¬ (pageB root = true ∧ pageB page = true) := by rw [hr]; simp
    have HD : Hid _ := hd
    clear hd
    go_wp2_with fail
    refine (wPage_any _ _).mono ?_
    rintro e w2 ⟨rfl, rfl⟩
    rw [hr]
    go_wp2
    refine bodyPost_ret (v := .tuple #[.agg #[.bool false, .bool false, .bool false, .bool false, .int .i64 0], .int .i64 0, .int .i64 4]) (by simp [results, Try.results57, go_sem, *]) rfl ⟨⟨_, _, _, _, _, _, _, rfl, by rw [wkd, if_pos HK.out, if_neg HD.out]; rfl⟩, ?_⟩
    exact bel_set5 (by omega) BB.out _ _ _ _ _
  cases hp : pageB page
  · have hd : ¬ (pageB root = true ∧ pageB page = true) := by rw [hp]; simp
    have HD : Hid _ := hd
    clear hd
    go_wp2_with fail
    refine (wPage_any _ _).mono ?_
    rintro e w2 ⟨rfl, rfl⟩
    rw [hr]
    go_wp2_with fail
    refine (wPage_any _ _).mono ?_
    rintro e w2 ⟨rfl, rfl⟩
    rw [hp]
    go_wp2
    refine bodyPost_ret (v := .tuple #[.agg #[.bool false, .bool false, .bool false, .bool false, .int .i64 0], .int .i64 0, .int .i64 4]) (by simp [results, Try.results57, go_sem, *]) rfl ⟨⟨_, _, _, _, _, _, _, rfl, by rw [wkd, if_pos HK.out, if_neg HD.out]; rfl⟩, ?_⟩
    exact bel_set5 (by omega) BB.out _ _ _ _ _
  have hd : pageB root = true ∧ pageB page = true := ⟨hr, hp⟩
  have HD : Hid _ := hd
  clear hd
  obtain ⟨r0, r1⟩ : 0 ≤ root ∧ root < 64 := by simpa [pageB] using hr
  obtain ⟨g0, g1⟩ : 0 ≤ page ∧ page < 64 := by simpa [pageB] using hp
  go_wp2_with fail
  refine (wPage_any _ _).mono ?_
  rintro e w2 ⟨rfl, rfl⟩
  rw [hr]
  go_wp2_with fail
  refine (wPage_any _ _).mono ?_
  rintro e w2 ⟨rfl, rfl⟩
  rw [hp]
  clear hr hp
  go_wp2_with fail
  refine (find_any _ zs _ _ _ (HS.out.keep BB.out) HN.out r0 r1 g0 g1).mono ?_
  rintro e w2 ⟨⟨b, r, x, l, p, f, rfl, hfn⟩, b2⟩
  have HF : Hid (fnd zs root page = ((b, r, x, l, p), f)) := hfn
  have B2 : Hid _ := bel_trans B1.out b2
  have BB2 : Hid (Below w.heap.size w w2) := bel_trans BB.out b2
  have s2 : w.heap.size + 1 < w2.heap.size := by have := b2.size; omega
  clear c1 f1 b2 BB B1 s1 hfn
  obtain ⟨c2, f2⟩ := bcell B2.out
  by_cases hf : f = 0
  rotate_left
  · have hq1 : (f == 0) = false := by simpa using hf
    have hq2 : (f != 0) = true := by simpa using hf
    go_wp2
    refine bodyPost_ret (v := .tuple #[.agg #[.bool false, .bool false, .bool false, .bool false, .int .i64 0], .int .i64 f, .int .i64 0]) (by simp [results, Try.results57, go_sem, *]) rfl ⟨⟨_, _, _, _, _, _, _, rfl, by rw [wkd, if_pos HK.out, if_pos HD.out, wkF, HF.out, if_neg hf]; rfl⟩, ?_⟩
    exact bel_alloc (bel_set5 (by omega) BB2.out _ _ _ _ _) _
  subst hf
  go_wp2_with fail
  refine (may_any _ _ _ _ _ _ _).mono ?_
  rintro e w3 ⟨rfl, o3, hw3⟩
  have B3 : Hid (Below _ _ w3) := hw3 ▸ bel_alloc (bel_alloc B2.out _) o3
  have BB3 : Hid (Below w.heap.size w w3) := hw3 ▸ bel_alloc (bel_alloc BB2.out _) o3
  have K3 : Blk w3 w2.heap.size #[.bool b, .bool r, .bool x, .bool l, .int .i64 p] := hw3 ▸ (Blk.new w2 _ _ _).past o3
  have s3 : w.heap.size + 1 < w3.heap.size := by rw [hw3]; simp; omega
  obtain ⟨d0, d1, d2, d3, d4⟩ := K3.five
  clear c2 f2 hw3 K3
  obtain ⟨c3, f3⟩ := bcell B3.out
  cases hm : (r && (x || !wr))
  · have hm' : ¬ (r && (x || !wr)) = true := by rw [hm]; decide
    have HM : Hid _ := hm'
    clear hm hm'
    go_wp2
    refine bodyPost_ret (v := .tuple #[.agg #[.bool false, .bool false, .bool false, .bool false, .int .i64 0], .int .i64 5, .int .i64 0]) (by simp [results, Try.results57, go_sem, *]) rfl ⟨⟨_, _, _, _, _, _, _, rfl, by rw [wkd, if_pos HK.out, if_pos HD.out, wkF, HF.out, if_pos rfl, if_neg HM.out]; rfl⟩, ?_⟩
    exact bel_set5 (by omega) BB3.out _ _ _ _ _
  · have HM : Hid ((r && (x || !wr)) = true) := hm
    clear hm
    go_wp2
    refine bodyPost_ret (v := .tuple #[.agg #[.bool b, .bool r, .bool x, .bool l, .int .i64 p], .int .i64 0, .int .i64 0]) (by simp [results, Try.results57, go_sem, *]) rfl ⟨⟨_, _, _, _, _, _, _, rfl, by rw [wkd, if_pos HK.out, if_pos HD.out, wkF, HF.out, if_pos rfl, if_pos HM.out]⟩, ?_⟩
    exact bel_set5 (by omega) BB3.out _ _ _ _ _
def wth (ps : List Int) : Nat → List Int
  | 0 => zeros
  | j + 1 => (wth ps j).set (nth ps (2 * j)).toNat (nth ps (2 * j + 1))
theorem wth_len (ps : List Int) (j : Nat) : (wth ps j).length = 512 := by
  induction j with
  | zero => exact zeros_length
  | succ j ih => rw [wth, List.length_set, ih]
def WithRel (w : World) (ps : List Int) (j : Nat) (w' : World) : Prop :=
  (∃ cs : Array Value, w'.heap[w.heap.size + 1]? = some (.cells cs 3 (0, 0)) ∧ cs.toList = (wth ps j).map (fun z => Value.int .i64 z)) ∧
  w'.heap[w.heap.size + 1 + 1]? = some (.cells #[.slice (some ⟨w.heap.size + 1, 0, none⟩) 512 512] 30 (0, 0)) ∧
  w'.heap[w.heap.size]? = some (.cells #[.slice none 0 0] 30 (0, 0)) ∧
  Below w.heap.size w w'
theorem WithRel.next {w w' : World} {ps : List Int} {j : Nat} (h : WithRel w ps j w') : WithRel w ps (j + 1) ((w'.setCell ⟨w.heap.size + 1, (nth ps (2 * j)).toNat, none⟩ (.int .i64 (nth ps (2 * j + 1)))).drew) := by
  obtain ⟨⟨cs, h1, h2⟩, h3, h4, h5⟩ := h
  refine ⟨⟨_, heap_setCell_same _ _ _ cs _ _ h1, ?_⟩, ?_, ?_, ?_⟩
  · rw [Array.toList_setIfInBounds, h2, wth, List.map_set]
  · show (w'.setCell _ _).heap[_]? = _
    rw [heap_setCell_other _ _ _ _ (by simp)]; exact h3
  · show (w'.setCell _ _).heap[_]? = _
    rw [heap_setCell_other _ _ _ _ (by simp)]; exact h4
  · exact (h5.setCell (p := ⟨w.heap.size + 1, _, none⟩) (by simp) _).drew
set_option maxHeartbeats 2000000 in
theorem with_own (b o cap : Nat) (ps : List Int) (m : Nat) (w : World) (h : Sl w (.slice (some ⟨b, o, none⟩) (2 * m) cap) ps) (hl : ps.length = 2 * m) (hm9 : m < 1000) (hp : ∀ j, j < m → 0 ≤ nth ps (2 * j) ∧ nth ps (2 * j) < 512) :
    Calls Try.prog 29 #[.slice (some ⟨b, o, none⟩) (2 * m : Nat) cap] w fun e w' => ∃ g, e = .returned (.agg #[.slice (some ⟨g, 0, none⟩) 512 512]) ∧ Sl w' (.slice (some ⟨g, 0, none⟩) 512 512) (wth ps m) ∧ Below w.heap.size w w' ∧ w.heap.size ≤ g ∧ ∃ cs : Array Value, w'.heap[g]? = some (.cells cs 3 (0, 0)) ∧ cs.toList = (wth ps m).map (fun z => Value.int .i64 z) := by
  have hm := make512
  have HP : Hid (∀ j, j < m → 0 ≤ nth ps (2 * j) ∧ nth ps (2 * j) < 512) := hp
  have HS : Hid (∀ i, i < 2 * m → b < w.heap.size ∧ w.cell? ⟨b, o + i, none⟩ = some (.int .i64 (nth ps i))) := by
    intro i hi
    obtain ⟨a, c, ha, _, hh⟩ := h
    simp at ha
    obtain ⟨rfl, _⟩ := ha
    rcases hh with rfl | ⟨b', o', hb, hlt, hc⟩
    · simp at hl; omega
    · simp at hb
      obtain ⟨rfl, rfl⟩ := hb
      exact ⟨hlt, hc i (by omega)⟩
  clear h hp
  go_enter Try.func29, Try.ntmps29
  go_wp2
  go_loopw [4] (fun i w' => ∃ j : Nat, j ≤ m ∧ i = .int .i64 (2 * j : Nat) ∧ WithRel w ps j w') (fun i _ => 2 * m - (intOf i).toNat)
  case atStart =>
    refine ⟨0, Nat.zero_le _, rfl, ⟨_, heap_past (by simp) (heap_at (by simp)), zeroCells_list⟩, heap_at (by simp), heap_past (by simp; omega) (heap_past (by simp) (heap_at rfl)), bel_alloc (bel_alloc (bel_alloc (Below.refl _ _) _) _) _⟩
  case round =>
    obtain ⟨j, hj, rfl, hR⟩ := hrel
    have HR : Hid (WithRel w ps j wr) := hR
    obtain ⟨⟨cs, h1, h2⟩, h3, h4, h5⟩ := hR
    have q3 := cell_of_row wr (w.heap.size + 1 + 1) 0 _ _ _ h3
    by_cases hlt : j < m
    · obtain ⟨p0, p1⟩ := HP.out j hlt
      obtain ⟨hb, e0⟩ := HS.out (2 * j) (by omega)
      obtain ⟨_, e1⟩ := HS.out (2 * j + 1) (by omega)
      have g0 : wr.cell? ⟨b, o + 2 * j, none⟩ = some (.int .i64 (nth ps (2 * j))) := by rw [h5.cell (p := ⟨b, _, none⟩) hb]; exact e0
      have g1 : wr.cell? ⟨b, o + (2 * j + 1), none⟩ = some (.int .i64 (nth ps (2 * j + 1))) := by rw [h5.cell (p := ⟨b, _, none⟩) hb]; exact e1
      have gm : wr.cell? ⟨w.heap.size + 1, (nth ps (2 * j)).toNat, none⟩ = some (.int .i64 (nth (wth ps j) (nth ps (2 * j)).toNat)) := by
        rw [cell_of_row _ _ _ _ _ _ h1, ← Array.getElem?_toList, h2, List.getElem?_map, getElem?_nth (by rw [wth_len]; omega)]; rfl
      have gf : wr.frozen? ⟨w.heap.size + 1, (nth ps (2 * j)).toNat, none⟩ = false := frozen_of_row _ _ _ _ _ h1
      have HX : Hid _ := HR.out.next
      generalize nth ps (2 * j) = p at *
      generalize nth ps (2 * j + 1) = x at *
      generalize hk : 2 * j = k at *
      have hlt1 : (k : Int) + 1 < (2 * m : Nat) := by omega
      have hlt0 : (k : Int) < (2 * m : Nat) := by omega
      have hw : wrap64 ((k : Int) + 1) = k + 1 := by unfold wrap64; omega
      clear e0 e1 h1 h2 h3 h4 h5
      go_wp2
      go_region
      go_wp2
      refine ⟨⟨j + 1, by omega, by congr 1; omega, HX.out⟩, by simp [intOf]; omega⟩
    · obtain rfl : j = m := by omega
      have HQ : Hid (Sl wr (.slice (some ⟨w.heap.size + 1, 0, none⟩) 512 512) (wth ps j)) := sl_block h1 h2 (wth_len _ _).symm (by rw [wth_len]; simp [maxLen])
      have q4 := cell_of_row wr w.heap.size 0 _ _ _ h4
      have q5 := frozen_of_row wr w.heap.size 0 _ _ h4
      have HB : Hid (Below w.heap.size w wr) := h5
      have HC : Hid (wr.heap[w.heap.size + 1]? = some (.cells cs 3 (0, 0)) ∧ cs.toList = (wth ps j).map (fun z => Value.int .i64 z)) := ⟨h1, h2⟩
      clear h1 h2 h3 h4 h5 HR
      generalize hk : 2 * j = k at *
      have hk9 : k < 2000 := by omega
      have hw : wrap64 ((k : Int) + 1) = k + 1 := by unfold wrap64; omega
      have hge : ¬ (k : Int) + 1 < (k : Int) := by omega
      go_wp2
      refine bodyPost_ret (v := .agg #[.slice (some ⟨w.heap.size + 1, 0, none⟩) 512 512]) (by simp [results, Try.results29, go_sem, *]) rfl ⟨_, rfl, HQ.out.setOther (by simp [Value.ownBlock]) _, HB.out.setCell (p := ⟨w.heap.size, 0, none⟩) (by simp) _, by omega, cs, by rw [heap_setCell_other _ _ _ _ (by simp)]; exact HC.out.1, HC.out.2⟩
theorem walk_at {v : Value} {zs : List Int} {root page : Int} {wr : Bool} {w : World} {b r x l : Bool} {p f c : Int} (hk : wkd zs root page wr = ((b, r, x, l, p), f, c)) (h : Sl w v zs) :
    Calls Try.prog 57 #[.agg #[v], .int .i64 root, .int .i64 page, .bool wr] w fun e w' => e = .returned (.tuple #[.agg #[.bool b, .bool r, .bool x, .bool l, .int .i64 p], .int .i64 f, .int .i64 c]) ∧ Below w.heap.size w w' := by
  refine (walk_any v zs root page wr w h).mono ?_
  rintro e w' ⟨⟨b', r', x', l', p', f', c', rfl, hk'⟩, hb⟩
  rw [hk] at hk'
  simp only [Prod.mk.injEq] at hk'
  obtain ⟨⟨rfl, rfl, rfl, rfl, rfl⟩, rfl, rfl⟩ := hk'
  exact ⟨rfl, hb⟩
theorem vE_of_flt {z : Int} (h : fltR z = 0) : vE z = true := by
  unfold fltR at h
  cases ho : okE z
  · simp [ho] at h
  · cases hv : vE z
    · simp [ho, hv] at h
    · rfl
theorem fnd_good {zs : List Int} {root page : Int} {b r x l : Bool} {p : Int} (h : fnd zs root page = ((b, r, x, l, p), 0)) : b = true ∧ l = true := by
  unfold fnd at h
  by_cases h1 : fltR (one zs root page) = 0
  · rw [if_pos h1] at h
    by_cases h2 : lE (one zs root page) = true
    · rw [if_pos h2] at h
      by_cases h3 : pE (one zs root page) % 8 = 0
      · rw [if_pos h3] at h
        simp only [Prod.mk.injEq] at h
        obtain ⟨⟨e1, _, _, e4, _⟩, _⟩ := h
        exact ⟨e1 ▸ vE_of_flt h1, e4 ▸ h2⟩
      · rw [if_neg h3] at h
        simp only [Prod.mk.injEq] at h
        omega
    · rw [if_neg h2] at h
      by_cases h3 : fltR (two zs root page) = 0
      · rw [if_pos h3] at h
        by_cases h4 : lE (two zs root page) = true
        · rw [if_pos h4, entE] at h
          simp only [Prod.mk.injEq] at h
          obtain ⟨⟨e1, _, _, e4, _⟩, _⟩ := h
          exact ⟨e1 ▸ vE_of_flt h3, e4 ▸ h4⟩
        · rw [if_neg h4] at h
          simp only [Prod.mk.injEq] at h
          omega
      · rw [if_neg h3] at h
        simp only [Prod.mk.injEq] at h
        exact absurd h.2 h3
  · rw [if_neg h1] at h
    simp only [Prod.mk.injEq] at h
    exact absurd h.2 h1
end Go.Proofs.Ythlhocneggcekaa
