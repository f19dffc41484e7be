/-
  Laid together: Walk1, Find, Write, Put, Stored, KeepsWalk, Walk2, WithA, With.
-/
import Derived.Test.YtefcdcneenjbgabT1
import Derived.Deep.RegionWith
import Derived.LoopN
import Derived.Deep.CutRange
import Derived.Deep.RegionHeld3
import Derived.Laws.CopyOwn
import Derived.Deep.AppendLies
/-
  Package walk: what isPage, may, read, within answer; none turns memory that was there.
-/
namespace Go.Proofs.Ytefcdcneenjbgab
open Go.RowKit

theorem wPage_any (z : Int) (w : World) : Calls Try.prog 117 #[.int .i64 z] w fun e w' => e = .returned (.bool (pageB z)) ∧ w' = w := by
  by_cases h1 : 0 ≤ z
  · by_cases h2 : z < 64
    · have : pageB z = true := by simp [pageB, h1, h2]
      rw [this]
      go_enter Try.func117, Try.ntmps117
      go_wp2
      go_ret
      exact ⟨rfl, rfl⟩
    · have : pageB z = false := by simp [pageB, h2]
      rw [this]
      go_enter Try.func117, Try.ntmps117
      go_wp2
      go_ret
      exact ⟨rfl, rfl⟩
  · have : pageB z = false := by simp [pageB, h1]
    rw [this]
    go_enter Try.func117, Try.ntmps117
    go_wp2
    go_ret
    exact ⟨rfl, rfl⟩

theorem may_any (v r x l : Bool) (p : Int) (wr : Bool) (w : World) :
    Calls Try.prog 119 #[.agg #[.bool v, .bool r, .bool x, .bool l, .int .i64 p], .bool wr] w fun e w' => e = .returned (.bool (r && (x || !wr))) ∧ ∃ o, w' = w.alloc o := by
  cases r <;> cases x <;> cases wr
  all_goals
    go_enter Try.func119, Try.ntmps119
    go_wp2
    go_ret
    exact ⟨rfl, _, rfl⟩

/-- The fault of one word: it may not be an entry; it isn't valid. -/
def fltR (z : Int) : Int := if okE z = true then (if vE z = true then 0 else 3) else 4

theorem fields_none {z : Int} (h : vE z = false) : rE z = false ∧ xE z = false ∧ lE z = false ∧ pE z = 0 := by simp [rE, xE, lE, pE, h]

set_option maxHeartbeats 2000000 in
theorem wRead_any (v : Value) (zs : List Int) (t k : Int) (w : World) (h : Sl w v zs) (hn : zs.length = 512) (t0 : 0 ≤ t) (t1 : t < 64) (k0 : 0 ≤ k) (k1 : k < 8) :
    Calls Try.prog 123 #[.agg #[v], .int .i64 t, .int .i64 k] w fun e w' => e = .returned (.tuple #[.agg #[.bool (vE (nth zs (8 * t + k).toNat)), .bool (rE (nth zs (8 * t + k).toNat)), .bool (xE (nth zs (8 * t + k).toNat)), .bool (lE (nth zs (8 * t + k).toNat)), .int .i64 (pE (nth zs (8 * t + k).toNat))], .int .i64 (fltR (nth zs (8 * t + k).toNat))]) ∧ Below w.heap.size w w' := by
  obtain ⟨b, o, cap, rfl, hb, hc⟩ := h.open512 hn
  have g := hc (t * 8 + k).toNat (by omega)
  rw [show (8 * t + k).toNat = (t * 8 + k).toNat by rw [Int.mul_comm]]
  generalize nth zs (t * 8 + k).toNat = z at *
  clear hc hn h
  go_enter Try.func123, Try.ntmps123
  go_wp2_with fail
  refine (eRead_any _ _).mono ?_
  rintro e w1 ⟨rfl, b1⟩
  obtain ⟨c1, f1⟩ := bcell b1
  have B1 : Hid (Below w.heap.size w w1) := bel_trans (bel_alloc (bel_alloc (Below.refl _ _) _) _) b1
  have K1 := (Blk.newAt (n := w.heap.size + 1) (by simp) _ _ _).keep b1
  have L1 := K1.lt
  clear b1 K1
  cases ho : okE z
  · have hv : vE z = false := by simp [vE, ho]
    obtain ⟨e1, e2, e3, e4⟩ := fields_none hv
    have HF : Hid (vE z = false ∧ rE z = false ∧ xE z = false ∧ lE z = false ∧ pE z = 0 ∧ fltR z = 4) := ⟨hv, e1, e2, e3, e4, by simp [fltR, ho]⟩
    rw [hv, e1, e2, e3, e4]
    clear hv e1 e2 e3 e4 ho
    go_wp2
    refine bodyPost_ret (v := .tuple #[.agg #[.bool false, .bool false, .bool false, .bool false, .int .i64 0], .int .i64 4]) (by simp [results, Try.results123, go_sem, *]) rfl ⟨?_, ?_⟩
    · obtain ⟨e0, e1, e2, e3, e4, e5⟩ := HF.out
      rw [e0, e1, e2, e3, e4, e5]
    exact bel_alloc (bel_set5 (by omega) B1.out _ _ _ _ _) _
  · cases hv : vE z
    · obtain ⟨e1, e2, e3, e4⟩ := fields_none hv
      have HF : Hid (vE z = false ∧ rE z = false ∧ xE z = false ∧ lE z = false ∧ pE z = 0 ∧ fltR z = 3) := ⟨hv, e1, e2, e3, e4, by simp [fltR, ho, hv]⟩
      rw [e1, e2, e3, e4]
      clear e1 e2 e3 e4 ho hv
      go_wp2
      refine bodyPost_ret (v := .tuple #[.agg #[.bool false, .bool false, .bool false, .bool false, .int .i64 0], .int .i64 3]) (by simp [results, Try.results123, go_sem, *]) rfl ⟨?_, ?_⟩
      · obtain ⟨e0, e1, e2, e3, e4, e5⟩ := HF.out
        rw [e0, e1, e2, e3, e4, e5]
      exact bel_alloc (bel_set5 (by omega) B1.out _ _ _ _ _) _
    · have HF : Hid (vE z = true ∧ fltR z = 0) := ⟨hv, by simp [fltR, ho, hv]⟩
      clear ho hv
      go_wp2
      refine bodyPost_ret (v := .tuple #[.agg #[.bool true, .bool (rE z), .bool (xE z), .bool (lE z), .int .i64 (pE z)], .int .i64 0]) (by simp [results, Try.results123, go_sem, *]) rfl ⟨?_, ?_⟩
      · obtain ⟨e0, e5⟩ := HF.out
        rw [e0, e5]
      exact bel_alloc (bel_set5 (by omega) B1.out _ _ _ _ _) _

set_option maxHeartbeats 2000000 in
theorem within_yes (v r x l : Bool) (p page span : Int) (w : World) (p0 : 0 ≤ p) (p1 : p < 64) (g0 : 0 ≤ page) (g1 : page < 64) (hs : span = 8 ∨ span = 1) (h : p % span = 0) :
    Calls Try.prog 124 #[.agg #[.bool v, .bool r, .bool x, .bool l, .int .i64 p], .int .i64 page, .int .i64 span] w fun e w' => e = .returned (.tuple #[.agg #[.bool v, .bool r, .bool x, .bool l, .int .i64 (p + page % span)], .int .i64 0]) ∧ Below w.heap.size w w' := by
  rcases hs with rfl | rfl
  · go_enter Try.func124, Try.ntmps124
    go_wp2
    go_region
    go_wp2
    refine bodyPost_ret (v := .tuple #[.agg #[.bool v, .bool r, .bool x, .bool l, .int .i64 (p + page % 8)], .int .i64 0]) (by simp [results, Try.results124, go_sem]) rfl ⟨rfl, ?_⟩
    exact below_drew (bel_alloc (bel_alloc (Below.refl _ _) _) _)
  · go_enter Try.func124, Try.ntmps124
    go_wp2
    go_region
    go_wp2
    refine bodyPost_ret (v := .tuple #[.agg #[.bool v, .bool r, .bool x, .bool l, .int .i64 (p + page % 1)], .int .i64 0]) (by simp [results, Try.results124, go_sem]) rfl ⟨rfl, ?_⟩
    exact below_drew (bel_alloc (bel_alloc (Below.refl _ _) _) _)
set_option maxHeartbeats 2000000 in
theorem within_no (v r x l : Bool) (p page : Int) (w : World) (p0 : 0 ≤ p) (p1 : p < 64) (h : ¬ p % 8 = 0) :
    Calls Try.prog 124 #[.agg #[.bool v, .bool r, .bool x, .bool l, .int .i64 p], .int .i64 page, .int .i64 8] w fun e w' => e = .returned (.tuple #[.agg #[.bool false, .bool false, .bool false, .bool false, .int .i64 0], .int .i64 4]) ∧ Below w.heap.size w w' := by
  go_enter Try.func124, Try.ntmps124
  go_wp2
  refine bodyPost_ret (v := .tuple #[.agg #[.bool false, .bool false, .bool false, .bool false, .int .i64 0], .int .i64 4]) (by simp [results, Try.results124, go_sem]) rfl ⟨rfl, ?_⟩
  exact bel_alloc (bel_alloc (Below.refl _ _) _) _
end Go.Proofs.Ytefcdcneenjbgab
/-
  Package walk: what find answers; it turns nothing that was there.
-/
namespace Go.Proofs.Ytefcdcneenjbgab
open Go.RowKit

/-- The fields of an entry. -/
abbrev Five := Bool × Bool × Bool × Bool × Int
def E0 : Five := (false, false, false, false, 0)
def entE (z : Int) : Five := (vE z, rE z, xE z, lE z, pE z)
/-- The first word that is read, and the second one. -/
def one (zs : List Int) (root page : Int) : Int := nth zs (8 * root + page / 8).toNat
def two (zs : List Int) (root page : Int) : Int := nth zs (8 * pE (one zs root page) + page % 8).toNat
/-- What find answers. -/
def fnd (zs : List Int) (root page : Int) : Five × Int :=
  if fltR (one zs root page) = 0 then
    (if lE (one zs root page) = true then
      (if pE (one zs root page) % 8 = 0 then ((vE (one zs root page), rE (one zs root page), xE (one zs root page), lE (one zs root page), pE (one zs root page) + page % 8), 0) else (E0, 4))
    else if fltR (two zs root page) = 0 then
      (if lE (two zs root page) = true then (entE (two zs root page), 0) else (E0, 4))
    else (E0, fltR (two zs root page)))
  else (E0, fltR (one zs root page))

theorem pE_in (z : Int) : 0 ≤ pE z ∧ pE z < 64 := by
  unfold pE; split <;> omega

theorem quo_one {p : Int} (h0 : 0 ≤ p) (h1 : p < 64) : (IntKind.i64.wrap (p.tdiv 8)).tmod 8 = p / 8 := by
  rw [Int.tdiv_eq_ediv_of_nonneg h0, wraps_i64 _ (by omega) (by omega), Int.tmod_eq_emod_of_nonneg (by omega)]
  omega
theorem quo_two {p : Int} (h0 : 0 ≤ p) (h1 : p < 64) : (IntKind.i64.wrap p).tmod 8 = p % 8 := by
  rw [wraps_i64 _ (by omega) (by omega), Int.tmod_eq_emod_of_nonneg (by omega)]

theorem span0 (w : World) : (Instr.index 148 (.agg #[.int .i64 8, .int .i64 1]) (.int .i64 0)).run Try.prog w = .ok (.int .i64 8) w := by kernel_rfl
theorem span1 (w : World) : (Instr.index 148 (.agg #[.int .i64 8, .int .i64 1]) (.int .i64 1)).run Try.prog w = .ok (.int .i64 1) w := by kernel_rfl

/-- Find's own two blocks: memory, and what is answered. -/
abbrev W0 (w : World) (b o cap : Nat) : World := (w.alloc (.cells #[.slice (some ⟨b, o, none⟩) 512 cap] 39)).alloc (.cells #[.bool false, .bool false, .bool false, .bool false, .int .i64 0] 108)
theorem W0_size (w : World) (b o cap : Nat) : (W0 w b o cap).heap.size = w.heap.size + 2 := by simp [W0]
theorem W0_mem {w w' : World} {b o cap : Nat} (h : Below (W0 w b o cap).heap.size (W0 w b o cap) w') : w'.cell? ⟨w.heap.size, 0, none⟩ = some (.slice (some ⟨b, o, none⟩) 512 cap) ∧ Below (W0 w b o cap).heap.size (W0 w b o cap) w' := by
  refine ⟨?_, h⟩
  rw [(bcell h).1 _ _ (by simp [W0]; omega)]
  simp [W0, go_sem]
theorem W0_below {w w' : World} {b o cap : Nat} (h : Below (W0 w b o cap).heap.size (W0 w b o cap) w') : Below w.heap.size w w' := bel_trans (bel_alloc (bel_alloc (Below.refl _ _) _) _) h
theorem W0_set5 {w w' : World} {b o cap : Nat} (h : Below (W0 w b o cap).heap.size (W0 w b o cap) w') (u0 u1 u2 u3 u4 : Value) :
    Below (W0 w b o cap).heap.size (W0 w b o cap) (((((w'.setCell ⟨w.heap.size + 1 + 1, 0, none⟩ u0).setCell ⟨w.heap.size + 1 + 1, 1, none⟩ u1).setCell ⟨w.heap.size + 1 + 1, 2, none⟩ u2).setCell ⟨w.heap.size + 1 + 1, 3, none⟩ u3).setCell ⟨w.heap.size + 1 + 1, 4, none⟩ u4) :=
  bel_set5 (by simp [W0]) h _ _ _ _ _
theorem W0_setn {w w' : World} {b o cap n : Nat} (hn : w.heap.size + 1 < n) (h : Below (W0 w b o cap).heap.size (W0 w b o cap) w') (u0 u1 u2 u3 u4 : Value) :
    Below (W0 w b o cap).heap.size (W0 w b o cap) (((((w'.setCell ⟨n, 0, none⟩ u0).setCell ⟨n, 1, none⟩ u1).setCell ⟨n, 2, none⟩ u2).setCell ⟨n, 3, none⟩ u3).setCell ⟨n, 4, none⟩ u4) :=
  bel_set5 (by simp [W0]; omega) h _ _ _ _ _
set_option maxHeartbeats 1000000 in
theorem find_any (v : Value) (zs : List Int) (root page : Int) (w : World) (h : Sl w v zs) (hn : zs.length = 512) (r0 : 0 ≤ root) (r1 : root < 64) (g0 : 0 ≤ page) (g1 : page < 64) :
    Calls Try.prog 118 #[.agg #[v], .int .i64 root, .int .i64 page] w fun e w' => (∃ b r x l p f, e = .returned (.tuple #[.agg #[.bool b, .bool r, .bool x, .bool l, .int .i64 p], .int .i64 f]) ∧ fnd zs root page = ((b, r, x, l, p), f)) ∧ Below w.heap.size w w' := by
  obtain ⟨b, o, cap, rfl, _, _⟩ := h.open512 hn
  have HN : Hid (zs.length = 512) := hn
  have HS : Hid (Sl w (.slice (some ⟨b, o, none⟩) 512 cap) zs) := h
  clear hn h
  have m0 : 0 ≤ page / 8 := by omega
  have m1 : page / 8 < 8 := by omega
  have q1 : Hid ((IntKind.i64.wrap (page.tdiv 8)).tmod 8 = page / 8) := quo_one g0 g1
  have q2 : Hid ((IntKind.i64.wrap page).tmod 8 = page % 8) := quo_two g0 g1
  have i0 := span0
  have i1 := span1
  go_enter Try.func118, Try.ntmps118
  go_wp2
  refine wp_loop_rounds 3 ?_
  rw [rounds_succ]
  go_upto_region 5 with fail
  go_cut [11, 12] from 17 to 42 (fun s t wx => ∃ n, s = .pointer (some ⟨n, 0, none⟩) ∧ t = .int .i64 (fltR (one zs root page)) ∧ Blk wx n #[.bool (vE (one zs root page)), .bool (rE (one zs root page)), .bool (xE (one zs root page)), .bool (lE (one zs root page)), .int .i64 (pE (one zs root page))] ∧ Below (W0 w b o cap).heap.size (W0 w b o cap) wx)
  case first =>
    go_region_held3 (fun w' => w'.cell? ⟨w.heap.size, 0, none⟩ = some (.slice (some ⟨b, o, none⟩) 512 cap) ∧ Below (W0 w b o cap).heap.size (W0 w b o cap) w')
      (first | (refine W0_mem ?_; (repeat (first | with_reducible assumption | (with_reducible (refine And.right (a := _ = _) (?_ : _ ∧ _); assumption)) | with_reducible exact Below.refl _ _ | with_reducible refine W0_set5 ?_ _ _ _ _ _ | with_reducible refine Below.drew ?_ | with_reducible refine bel_drewN ?_ _ | with_reducible refine bel_alloc ?_ _ | with_reducible refine bel_trans ?_ (by assumption)))))
      (first | (go_at_call 123; rw [q1.out]; refine (wRead_any _ zs root (page / 8) _ ?_ HN.out r0 r1 m0 m1).mono ?_; (focus (refine HS.out.keep (W0_below (b := b) (o := o) (cap := cap) ?_); (repeat (first | with_reducible assumption | (with_reducible (refine And.right (a := _ = _) (?_ : _ ∧ _); assumption)) | with_reducible exact Below.refl _ _ | with_reducible refine Below.drew ?_ | with_reducible refine bel_drewN ?_ _ | with_reducible refine bel_alloc ?_ _ | with_reducible refine bel_trans ?_ (by assumption))))); rintro e w1 ⟨rfl, b1⟩; obtain ⟨c1, f1⟩ := bcell b1))
    all_goals (go_wp2_with fail; go_meet)
    · exact ⟨_, rfl, rfl, Blk.new _ _ _ _, And.right (a := _ = _) (by with_reducible assumption)⟩
    · exact ⟨_, rfl, rfl, blk_set5 (heap_kept b1 (by simp) (heap_drawn (m := 1) (heap_at (by simp)))) _ _ _ _ _, And.right (a := _ = _) (by with_reducible assumption)⟩
  case rest =>
    obtain ⟨n, rfl, rfl, K1, B1⟩ := hcut
    have HB : Hid (Below (W0 w b o cap).heap.size (W0 w b o cap) wc) := B1
    obtain ⟨c1, f1⟩ := bcell B1
    have s1 : w.heap.size + 1 < wc.heap.size := by have := B1.size; simp [W0] at this; omega
    obtain ⟨d0, d1, d2, d3, d4⟩ := K1.five
    clear B1
    by_cases hf : fltR (one zs root page) = 0
    rotate_left
    · have hq : (fltR (one zs root page) != 0) = true := by simpa using hf
      go_wp2
      refine bodyPost_ret (v := .tuple #[.agg #[.bool false, .bool false, .bool false, .bool false, .int .i64 0], .int .i64 (fltR (one zs root page))]) (by simp [results, Try.results118, go_sem, *]) rfl ⟨⟨_, _, _, _, _, _, rfl, by rw [fnd, if_neg hf]; rfl⟩, ?_⟩
      exact bel_set5 (by omega) (W0_below HB.out) _ _ _ _ _
    have hq : (fltR (one zs root page) != 0) = false := by simpa using hf
    cases hl : lE (one zs root page)
    rotate_left
    · obtain ⟨p0, p1⟩ := pE_in (one zs root page)
      have hl' : Hid (lE (one zs root page) = true) := hl
      rw [hl] at d3
      clear hl
      by_cases hp : pE (one zs root page) % 8 = 0
      · go_wp2_with fail
        refine (within_yes _ _ _ _ _ page 8 _ p0 p1 g0 g1 (.inl rfl) hp).mono ?_
        rintro e w2 ⟨rfl, b2⟩
        have B2 : Hid (Below (W0 w b o cap).heap.size (W0 w b o cap) w2) := bel_trans HB.out b2
        clear c1 f1
        obtain ⟨c1, f1⟩ := bcell B2.out
        clear b2 K1 d0 d1 d2 d3 d4 HB
        go_wp2
        refine bodyPost_ret (v := .tuple #[.agg #[.bool (vE (one zs root page)), .bool (rE (one zs root page)), .bool (xE (one zs root page)), .bool true, .int .i64 (pE (one zs root page) + page % 8)], .int .i64 0]) (by simp [results, Try.results118, go_sem, *]) rfl ⟨⟨_, _, _, _, _, _, rfl, by rw [fnd, if_pos hf, if_pos hl'.out, if_pos hp, hl'.out]⟩, ?_⟩
        exact bel_set5 (by omega) (W0_below B2.out) _ _ _ _ _
      · go_wp2_with fail
        refine (within_no _ _ _ _ _ page _ p0 p1 hp).mono ?_
        rintro e w2 ⟨rfl, b2⟩
        have B2 : Hid (Below (W0 w b o cap).heap.size (W0 w b o cap) w2) := bel_trans HB.out b2
        clear c1 f1
        obtain ⟨c1, f1⟩ := bcell B2.out
        clear b2 K1 d0 d1 d2 d3 d4 HB
        go_wp2
        refine bodyPost_ret (v := .tuple #[.agg #[.bool false, .bool false, .bool false, .bool false, .int .i64 0], .int .i64 4]) (by simp [results, Try.results118, go_sem, *]) rfl ⟨⟨_, _, _, _, _, _, rfl, by rw [fnd, if_pos hf, if_pos hl'.out, if_neg hp]; rfl⟩, ?_⟩
        exact bel_set5 (by omega) (W0_below B2.out) _ _ _ _ _
    have hl0 : ¬ lE (one zs root page) = true := by rw [hl]; decide
    have hl' : Hid (¬ lE (one zs root page) = true) := hl0
    clear hl0
    rw [hl] at d3
    clear hl
    go_wp2
    rw [rounds_succ]
    go_upto_region 5 with fail
    obtain ⟨p0, p1⟩ := pE_in (one zs root page)
    have n0 : 0 ≤ page % 8 := by omega
    have n1 : page % 8 < 8 := by omega
    go_cut [11, 12] from 17 to 42 (fun s t wx => ∃ n, s = .pointer (some ⟨n, 0, none⟩) ∧ t = .int .i64 (fltR (two zs root page)) ∧ Blk wx n #[.bool (vE (two zs root page)), .bool (rE (two zs root page)), .bool (xE (two zs root page)), .bool (lE (two zs root page)), .int .i64 (pE (two zs root page))] ∧ Below (W0 w b o cap).heap.size (W0 w b o cap) wx)
    case first =>
      have B1 := HB.out
      go_region_held3 (fun w' => w'.cell? ⟨w.heap.size, 0, none⟩ = some (.slice (some ⟨b, o, none⟩) 512 cap) ∧ Below (W0 w b o cap).heap.size (W0 w b o cap) w')
        (first | (refine W0_mem ?_; (repeat (first | with_reducible assumption | (with_reducible (refine And.right (a := _ = _) (?_ : _ ∧ _); assumption)) | with_reducible exact Below.refl _ _ | with_reducible refine W0_setn s1 ?_ _ _ _ _ _ | with_reducible refine Below.drew ?_ | with_reducible refine bel_drewN ?_ _ | with_reducible refine bel_alloc ?_ _ | with_reducible refine bel_trans ?_ (by assumption)))))
        (first | (go_at_call 123; rw [q2.out]; refine (wRead_any _ zs (pE (one zs root page)) (page % 8) _ ?_ HN.out p0 p1 n0 n1).mono ?_; (focus (refine HS.out.keep (W0_below (b := b) (o := o) (cap := cap) ?_); (repeat (first | with_reducible assumption | (with_reducible (refine And.right (a := _ = _) (?_ : _ ∧ _); assumption)) | with_reducible exact Below.refl _ _ | with_reducible refine Below.drew ?_ | with_reducible refine bel_drewN ?_ _ | with_reducible refine bel_alloc ?_ _ | with_reducible refine bel_trans ?_ (by assumption))))); rintro e w1 ⟨rfl, b1⟩; obtain ⟨c2, f2⟩ := bcell b1))
      all_goals (go_wp2_with fail; go_meet)
      · exact ⟨_, rfl, rfl, Blk.new _ _ _ _, And.right (a := _ = _) (by with_reducible assumption)⟩
      · exact ⟨_, rfl, rfl, blk_set5 (heap_kept b1 (by simp) (heap_drawn (m := 1) (heap_at (by simp)))) _ _ _ _ _, And.right (a := _ = _) (by with_reducible assumption)⟩
    case rest =>
      clear K1 d0 d1 d2 d3 d4 c1 f1 HB s1
      obtain ⟨n, rfl, rfl, K1, B1⟩ := hcut
      have HB : Hid (Below (W0 w b o cap).heap.size (W0 w b o cap) wc) := B1
      obtain ⟨c1, f1⟩ := bcell B1
      have s1 : w.heap.size + 1 < wc.heap.size := by have := B1.size; simp [W0] at this; omega
      obtain ⟨d0, d1, d2, d3, d4⟩ := K1.five
      clear B1
      by_cases hf2 : fltR (two zs root page) = 0
      rotate_left
      · have hq2 : (fltR (two zs root page) != 0) = true := by simpa using hf2
        go_wp2
        refine bodyPost_ret (v := .tuple #[.agg #[.bool false, .bool false, .bool false, .bool false, .int .i64 0], .int .i64 (fltR (two zs root page))]) (by simp [results, Try.results118, go_sem, *]) rfl ⟨⟨_, _, _, _, _, _, rfl, by rw [fnd, if_pos hf, if_neg hl'.out, if_neg hf2]; rfl⟩, ?_⟩
        exact bel_set5 (by omega) (W0_below HB.out) _ _ _ _ _
      have hq2 : (fltR (two zs root page) != 0) = false := by simpa using hf2
      cases hl2 : lE (two zs root page)
      rotate_left
      · obtain ⟨y0, y1⟩ := pE_in (two zs root page)
        have hl2' : Hid (lE (two zs root page) = true) := hl2
        have H1 : Hid (pE (two zs root page) + page % 1 = pE (two zs root page)) := by show _ = _; omega
        rw [hl2] at d3
        clear hl2
        go_wp2_with fail
        refine (within_yes _ _ _ _ _ page 1 _ y0 y1 g0 g1 (.inr rfl) (by omega)).mono ?_
        rw [H1.out]
        rintro e w2 ⟨rfl, b2⟩
        have B2 : Hid (Below (W0 w b o cap).heap.size (W0 w b o cap) w2) := bel_trans HB.out b2
        clear c1 f1
        obtain ⟨c1, f1⟩ := bcell B2.out
        clear b2 K1 d0 d1 d2 d3 d4 HB
        go_wp2
        refine bodyPost_ret (v := .tuple #[.agg #[.bool (vE (two zs root page)), .bool (rE (two zs root page)), .bool (xE (two zs root page)), .bool true, .int .i64 (pE (two zs root page))], .int .i64 0]) (by simp [results, Try.results118, go_sem, *]) rfl ⟨⟨_, _, _, _, _, _, rfl, by rw [fnd, if_pos hf, if_neg hl'.out, if_pos hf2, if_pos hl2'.out, entE, hl2'.out]⟩, ?_⟩
        exact bel_set5 (by omega) (W0_below B2.out) _ _ _ _ _
      have hl2' : ¬ lE (two zs root page) = true := by rw [hl2]; decide
      have HL : Hid _ := hl2'
      rw [hl2] at d3
      clear hl2 hl2'
      go_wp2
      rw [rounds_succ]
      go_wp2
      refine bodyPost_ret (v := .tuple #[.agg #[.bool false, .bool false, .bool false, .bool false, .int .i64 0], .int .i64 4]) (by simp [results, Try.results118, go_sem, *]) rfl ⟨⟨_, _, _, _, _, _, rfl, by rw [fnd, if_pos hf, if_neg hl'.out, if_pos hf2, if_neg HL.out]; rfl⟩, ?_⟩
      exact bel_set5 (by omega) (W0_below HB.out) _ _ _ _ _
end Go.Proofs.Ytefcdcneenjbgab
/-
  Package mem: what Write answers: new memory, as the old one but for the word; nothing that was there turns.
-/
namespace Go.Proofs.Ytefcdcneenjbgab
open Go.RowKit

/-- What Write answers: the words, the error. -/
def wrE (zs : List Int) (k x : Int) : Int := if chk zs = 0 then (if placeB k = true then (if wordB x = true then 0 else 2) else 4) else chk zs
def wrM (zs : List Int) (k x : Int) : List Int := if chk zs = 0 ∧ placeB k = true ∧ wordB x = true then zs.set k.toNat x else []

/-- The cells of a row of numbers: a plain name, so that the walk's own rules leave it standing. -/
def intCells (zs : List Int) : Array Value := (zs.map (fun z => Value.int .i64 z)).toArray
theorem intCells_list (zs : List Int) : (intCells zs).toList = zs.map (fun z => Value.int .i64 z) := by simp [intCells]
theorem intCells_size (zs : List Int) : (intCells zs).size = zs.length := by simp [intCells]
theorem intCells_at {zs : List Int} {i : Nat} (h : i < zs.length) : (intCells zs)[i]? = some (.int .i64 (nth zs i)) := by
  simp [intCells, nth, h]
theorem intCells_set (zs : List Int) (i : Nat) (x : Int) : (intCells zs).setIfInBounds i (.int .i64 x) = intCells (zs.set i x) := by
  simp [intCells, List.map_set]


/-- copy fills a row of its own. -/
theorem copy_full (w : World) (b o cap g : Nat) (zs : List Int) (cur : Array Value) (hn : zs.length = 512) (hg : w.heap[g]? = some (.cells cur 3 (0, 0))) (hcur : cur.size = 512)
    (hc : ∀ i, i < 512 → w.cell? ⟨b, o + i, none⟩ = some (.int .i64 (nth zs i))) :
    ∃ w3, (Builtin.copy_ #[37, 37] 3 #[.slice (some ⟨g, 0, none⟩) 512 512, .slice (some ⟨b, o, none⟩) 512 cap]).run Try.prog w = .ok (.int .i64 512) w3 ∧ w3.heap[g]? = some (.cells (intCells zs) 3 (0, 0)) ∧
      (∀ k, k ≠ g → w3.heap[k]? = w.heap[k]?) ∧ w3.heap.size = w.heap.size ∧ Below g w w3 := by
  have hl : (zs.map (fun z => Value.int .i64 z)).length = 512 := by simp [hn]
  have h := run_copy_row (P := Try.prog) w 37 37 3 3 g 0 512 512 ⟨b, o, none⟩ 512 cap cur 3 (zs.map (fun z => Value.int .i64 z)) Try.underlying37 (by kernel_rfl) hg (by rw [hl]; rfl)
    (fun j v hv => by
      rw [List.getElem?_map] at hv
      by_cases hj : j < 512
      · rw [List.getElem?_eq_getElem (by omega)] at hv
        simp only [Option.map_some, Option.some.injEq] at hv
        have := hc j hj
        rw [← hv]
        have ha : Addr.add ⟨b, o, none⟩ j = ⟨b, o + j, none⟩ := by unfold Addr.add; split <;> simp_all
        rw [ha, this]
        simp [nth, hn, hj]
      · rw [List.getElem?_eq_none (by omega)] at hv
        simp at hv) (by rw [hl]; omega) (by
      intro v hv
      obtain ⟨z, _, rfl⟩ := List.mem_map.1 hv
      rfl)
  have hd : List.drop (0 + 512) cur.toList = [] := List.drop_of_length_le (by simp [hcur])
  rw [hl, hd, List.take_zero, List.nil_append, List.append_nil] at h
  exact ⟨_, h, setRow_heap w g _ _ _ _ hg, fun k hk => setRow_other w g k _ hk, by simp [World.setRow], ⟨rfl, rfl, rfl, by simp [World.setRow], fun k hk => setRow_other w g k _ (by omega)⟩⟩

set_option maxHeartbeats 1000000 in
theorem write_okN (v : Value) (zs : List Int) (k x : Int) (w : World) (h : Sl w v zs) (hk : chk zs = 0) (hp : placeB k = true) (hx : wordB x = true) :
    Calls Try.prog 107 #[.agg #[v], .int .i64 k, .int .i64 x] w fun e w' => ∃ v', e = .returned (.tuple #[.agg #[v'], .int .i64 0]) ∧ Sl w' v' (zs.set k.toNat x) ∧ Fresh w.heap.size v' ∧ Below w.heap.size w w' := by
  obtain ⟨hn, _⟩ := chk_ok hk
  have hp' := hp
  simp only [placeB, decide_eq_true_eq] at hp'
  obtain ⟨p0, p1⟩ := hp'
  obtain ⟨b, o, cap, rfl, hb, hc⟩ := h.open512 hn
  have HC : Hid (∀ i, i < 512 → w.cell? ⟨b, o + i, none⟩ = some (.int .i64 (nth zs i))) := hc
  have HN : Hid (zs.length = 512) := hn
  clear hc hn
  go_enter Try.func107, Try.ntmps107
  go_wp2_with fail
  refine (check_any _ zs _ ?_).mono ?_
  · exact h.keep (bel_alloc (bel_alloc (Below.refl _ _) _) _)
  rintro e w1 ⟨rfl, hb1⟩
  obtain ⟨hc1, hf1⟩ := bcell hb1
  have hs1 : w.heap.size + 1 < w1.heap.size := by have := hb1.size; simp at this; omega
  go_wp2_with (first | (go_at_call 122; refine (isPlace_any _ _).mono ?_; rintro e w' ⟨rfl, rfl⟩) | (go_at_call 78; refine (isWord_any _ _).mono ?_; rintro e w' ⟨rfl, rfl⟩))
  refine (new_own _).mono ?_
  rintro e w2 ⟨g, rfl, hg2, hge, hb2⟩
  obtain ⟨hc2, hf2⟩ := bcell hb2
  have hs2 := hb2.size
  have z2 : w.heap.size < w2.heap.size := by omega
  have z3 : w.heap.size + 1 < w2.heap.size := by omega
  have q0 : w2.cell? ⟨w.heap.size, 0, none⟩ = some (.slice (some ⟨b, o, none⟩) 512 cap) := by rw [hc2 _ _ (by omega), hc1 _ _ (by simp; omega)]; simp [go_sem]
  have q1 : w2.cell? ⟨w.heap.size + 1, 0, none⟩ = some (.slice none 0 0) := by rw [hc2 _ _ (by omega), hc1 _ _ (by simp)]; simp [go_sem]
  have q2 : w2.frozen? ⟨w.heap.size + 1, 0, none⟩ = false := by rw [hf2 _ _ (by omega), hf1 _ _ (by simp)]; simp [go_sem]
  have HB2 : Hid (Below w.heap.size w w2) := bel_trans (bel_trans (bel_alloc (bel_alloc (Below.refl _ _) _) _) hb1) hb2
  clear hc1 hf1 hc2 hf2 hb1 hb2
  have hg2' := Array.getElem?_eq_some_iff.1 hg2
  obtain ⟨hglt, _⟩ := hg2'
  obtain ⟨w3, hrun, hg3, ho3, hs3, hb3⟩ := copy_full (w2.alloc (.cells #[.slice (some ⟨g, 0, none⟩) 512 512] 39)) b o cap g zs zeroCells HN.out (heap_past hglt hg2) (by simp [zeroCells, size_madeCells]) (fun i hi => by
    rw [World.cell?_alloc_past _ _ _ (by omega), HB2.out.cell (p := ⟨b, o + i, none⟩) hb]; exact HC.out i hi)
  have r0 : w3.cell? ⟨w2.heap.size, 0, none⟩ = some (.slice (some ⟨g, 0, none⟩) 512 512) := by
    rw [World.cell?_of_block (a := ⟨w2.heap.size, 0, none⟩) (ho3 w2.heap.size (by omega))]; simp [go_sem]
  have r1 : w3.cell? ⟨w.heap.size + 1, 0, none⟩ = some (.slice none 0 0) := by
    rw [World.cell?_of_block (a := ⟨w.heap.size + 1, 0, none⟩) (ho3 (w.heap.size + 1) (by omega)), World.cell?_alloc_past _ _ _ z3]; exact q1
  have r2 : w3.frozen? ⟨w.heap.size + 1, 0, none⟩ = false := by
    rw [World.frozen?_of_block (a := ⟨w.heap.size + 1, 0, none⟩) (ho3 (w.heap.size + 1) (by omega)), World.frozen?_alloc_past _ _ _ z3]; exact q2
  have r3 : w3.cell? ⟨g, k.toNat, none⟩ = some (.int .i64 (nth zs k.toNat)) := by
    rw [cell_of_row w3 g _ _ _ _ hg3, intCells_at (by have := HN.out; omega)]
  have r4 : w3.frozen? ⟨g, k.toNat, none⟩ = false := frozen_of_row w3 g _ _ _ hg3
  have n1 : ¬ g = w2.heap.size := by omega
  have n2 : ¬ g = w.heap.size + 1 := by omega
  have HG3 : Hid _ := hg3
  have HB3 : Hid (Below w.heap.size w w3) := (bel_alloc HB2.out _).trans (hb3.mono (by omega))
  clear ho3 hb3 hg3 hg2
  go_wp2_with fail
  refine bodyPost_ret (v := .tuple #[.agg #[.slice (some ⟨g, 0, none⟩) 512 512], .int .i64 0]) (by simp [results, Try.results107, go_sem, *]) rfl ⟨_, rfl, ?_, fun k hk => by simp [Value.ownBlock] at hk; omega, ?_⟩
  · refine sl_block (cs := intCells (zs.set k.toNat x)) (t := 3) (fr := (0, 0)) ?_ (intCells_list _) (by rw [List.length_set]; exact HN.out.symm) (by rw [List.length_set, HN.out]; simp [maxLen])
    rw [heap_setCell_other _ _ _ _ n2, heap_setCell_same _ _ _ _ _ _ HG3.out, intCells_set]
  · exact (HB3.out.setCell (p := ⟨g, k.toNat, none⟩) (by show w.heap.size ≤ g; omega) _).setCell (p := ⟨w.heap.size + 1, 0, none⟩) (by show w.heap.size ≤ w.heap.size + 1; omega) _

set_option maxHeartbeats 1000000 in
theorem write_err (v : Value) (zs : List Int) (k x : Int) (w : World) (h : Sl w v zs) (hw : ¬ (chk zs = 0 ∧ placeB k = true ∧ wordB x = true)) :
    Calls Try.prog 107 #[.agg #[v], .int .i64 k, .int .i64 x] w fun e w' => e = .returned (.tuple #[.agg #[.slice none 0 0], .int .i64 (wrE zs k x)]) ∧ Below w.heap.size w w' := by
  by_cases hk : chk zs = 0
  · by_cases hp : placeB k = true
    · have hx : wordB x = false := by
        cases hh : wordB x
        · rfl
        · exact absurd ⟨hk, hp, hh⟩ hw
      rw [show wrE zs k x = 2 by simp [wrE, hk, hp, hx]]
      clear hw
      go_enter Try.func107, Try.ntmps107
      go_wp2_with fail
      refine (check_any _ zs _ ?_).mono ?_
      · exact h.keep (bel_alloc (bel_alloc (Below.refl _ _) _) _)
      rintro e w1 ⟨rfl, hb1⟩
      obtain ⟨hc1, hf1⟩ := bcell hb1
      have hs1 : w.heap.size + 1 < w1.heap.size := by have := hb1.size; simp at this; omega
      go_wp2_with (first | (go_at_call 122; refine (isPlace_any _ _).mono ?_; rintro e w' ⟨rfl, rfl⟩) | (go_at_call 78; refine (isWord_any _ _).mono ?_; rintro e w' ⟨rfl, rfl⟩))
      refine bodyPost_ret (v := .tuple #[.agg #[.slice none 0 0], .int .i64 2]) (by simp [results, Try.results107, go_sem, *]) rfl ⟨rfl, ?_⟩
      exact (bel_trans (bel_alloc (bel_alloc (Below.refl _ _) _) _) hb1).setCell (by show w.heap.size ≤ w.heap.size + 1; omega) _
    · have hp' : placeB k = false := by simpa using hp
      rw [show wrE zs k x = 4 by simp [wrE, hk, hp']]
      clear hw hp
      go_enter Try.func107, Try.ntmps107
      go_wp2_with fail
      refine (check_any _ zs _ ?_).mono ?_
      · exact h.keep (bel_alloc (bel_alloc (Below.refl _ _) _) _)
      rintro e w1 ⟨rfl, hb1⟩
      obtain ⟨hc1, hf1⟩ := bcell hb1
      have hs1 : w.heap.size + 1 < w1.heap.size := by have := hb1.size; simp at this; omega
      go_wp2_with (first | (go_at_call 122; refine (isPlace_any _ _).mono ?_; rintro e w' ⟨rfl, rfl⟩) | (go_at_call 78; refine (isWord_any _ _).mono ?_; rintro e w' ⟨rfl, rfl⟩))
      refine bodyPost_ret (v := .tuple #[.agg #[.slice none 0 0], .int .i64 4]) (by simp [results, Try.results107, go_sem, *]) rfl ⟨rfl, ?_⟩
      exact (bel_trans (bel_alloc (bel_alloc (Below.refl _ _) _) _) hb1).setCell (by show w.heap.size ≤ w.heap.size + 1; omega) _
  · have hk' : (chk zs != 0) = true := by simpa using hk
    rw [show wrE zs k x = chk zs by simp [wrE, hk]]
    clear hw hk
    go_enter Try.func107, Try.ntmps107
    go_wp2_with fail
    refine (check_any _ zs _ ?_).mono ?_
    · exact h.keep (bel_alloc (bel_alloc (Below.refl _ _) _) _)
    rintro e w1 ⟨rfl, hb1⟩
    obtain ⟨hc1, hf1⟩ := bcell hb1
    have hs1 : w.heap.size + 1 < w1.heap.size := by have := hb1.size; simp at this; omega
    go_wp2
    refine bodyPost_ret (v := .tuple #[.agg #[.slice none 0 0], .int .i64 (chk zs)]) (by simp [results, Try.results107, go_sem, *]) rfl ⟨rfl, ?_⟩
    exact (bel_trans (bel_alloc (bel_alloc (Below.refl _ _) _) _) hb1).setCell (by show w.heap.size ≤ w.heap.size + 1; omega) _

theorem write_anyN (v : Value) (zs : List Int) (k x : Int) (w : World) (h : Sl w v zs) :
    Calls Try.prog 107 #[.agg #[v], .int .i64 k, .int .i64 x] w fun e w' => ∃ v', e = .returned (.tuple #[.agg #[v'], .int .i64 (wrE zs k x)]) ∧ Sl w' v' (wrM zs k x) ∧ Fresh w.heap.size v' ∧ Below w.heap.size w w' := by
  by_cases hw : chk zs = 0 ∧ placeB k = true ∧ wordB x = true
  · refine (write_okN v zs k x w h hw.1 hw.2.1 hw.2.2).mono fun e w' ⟨v', he, hs, hf, hb⟩ => ⟨v', ?_, ?_, hf, hb⟩
    · rw [he, show wrE zs k x = 0 by simp [wrE, hw.1, hw.2.1, hw.2.2]]
    · rw [show wrM zs k x = zs.set k.toNat x by rw [wrM, if_pos hw]]; exact hs
  · refine (write_err v zs k x w h hw).mono fun e w' ⟨he, hb⟩ => ⟨_, he, ?_, Fresh.none _ _ _, hb⟩
    rw [show wrM zs k x = [] by rw [wrM, if_neg hw]]; exact Sl.nil _ _ _
theorem write_any (v : Value) (zs : List Int) (k x : Int) (w : World) (h : Sl w v zs) :
    Calls Try.prog 107 #[.agg #[v], .int .i64 k, .int .i64 x] w fun e w' => ∃ v', e = .returned (.tuple #[.agg #[v'], .int .i64 (wrE zs k x)]) ∧ Sl w' v' (wrM zs k x) ∧ Below w.heap.size w w' :=
  (write_anyN v zs k x w h).mono fun _ _ ⟨v', he, hs, _, hb⟩ => ⟨v', he, hs, hb⟩
theorem write_ok (v : Value) (zs : List Int) (k x : Int) (w : World) (h : Sl w v zs) (hk : chk zs = 0) (hp : placeB k = true) (hx : wordB x = true) :
    Calls Try.prog 107 #[.agg #[v], .int .i64 k, .int .i64 x] w fun e w' => ∃ v', e = .returned (.tuple #[.agg #[v'], .int .i64 0]) ∧ Sl w' v' (zs.set k.toNat x) ∧ Below w.heap.size w w' :=
  (write_okN v zs k x w h hk hp hx).mono fun _ _ ⟨v', he, hs, _, hb⟩ => ⟨v', he, hs, hb⟩
end Go.Proofs.Ytefcdcneenjbgab
/-
  drawbridgeref's Put and drawbridgelaw's at: what they answer; nothing that was there turns.
-/
namespace Go.Proofs.Ytefcdcneenjbgab
open Go.RowKit

theorem lit_row (w : World) (base : Nat) (h : base ≤ w.heap.size) : (w.alloc (.cells #[] 3)).ownsRow base 3 1 (.slice (some ⟨w.heap.size, 0, none⟩) 0 0) 0 [] :=
  World.ownsRow_lit (base := base) (e := 3) (size := 1) w #[] 0 h (by simp [maxLen]) rfl

/-- append of numbers to an empty row of its own. -/
theorem wpList_append_new {w : World} {ops : Array Oper} {rest : List Oper} {o : Oper} {a : Act} {Q : Exit → Act → World → Prop} (hgd : o.guard = none) (s x : Operand)
    (ho : o.op = .call { callee := .builtin .append, args := #[s, x], argTypes := #[37, 37] }) (base : Nat) (v : Value) (hs : a.eval s = v) (hown : w.ownsRow base 3 1 v 0 [])
    (b off c : Nat) (zs : List Int) (hx : a.eval x = .slice (some ⟨b, off, none⟩) 512 c) (hn : zs.length = 512) (hc : ∀ i, i < 512 → w.cell? ⟨b, off + i, none⟩ = some (.int .i64 (nth zs i))) (hbase : base ≤ w.heap.size)
    (h : ∀ g cap w', w'.ownsRow base 3 1 (.slice (some ⟨g, 0, none⟩) 512 cap) 512 (zs.map (fun z => Value.int .i64 z)) → w.grownBy w' v.ownBlock → (v.ownBlock = some g ∨ g = w.heap.size) → g < w'.heap.size → wpList Try.prog ops Q rest (a.put o.dst (.slice (some ⟨g, 0, none⟩) 512 cap)) w') :
    wpList Try.prog ops Q (o :: rest) a w := by
  obtain ⟨i, hi, hz, hsz, hby⟩ := infoInt
  have hl : (zs.map (fun z => Value.int .i64 z)).length = 512 := by simp [hn]
  refine wpList_append_lies w hgd s x 37 ho base 3 i _ 1 8 Try.underlying37 hi hz hsz hby rfl (by omega) v 0 [] hs hown ⟨b, off, none⟩ 512 c (zs.map (fun z => Value.int .i64 z)) hx (by rw [hl]) (fun j u hu => ?_) (fun u hu => ?_) (by omega) (by simp [maxLen]) (by omega) hbase w.heap.size rfl ?_
  · rw [List.getElem?_map] at hu
    by_cases hj : j < 512
    · rw [List.getElem?_eq_getElem (by omega)] at hu
      simp only [Option.map_some, Option.some.injEq] at hu
      have ha : Addr.add ⟨b, off, none⟩ j = ⟨b, off + j, none⟩ := by unfold Addr.add; split <;> simp_all
      rw [ha, hc j hj, ← hu]
      simp [nth, hn, hj]
    · rw [List.getElem?_eq_none (by omega)] at hu
      simp at hu
  · obtain ⟨z, _, rfl⟩ := List.mem_map.1 hu
    rfl
  · simpa using h

/-- A row of its own that holds numbers reads as them. -/
theorem sl_owned {w : World} {base g cap n : Nat} {zs : List Int} (h : w.ownsRow base 3 1 (.slice (some ⟨g, 0, none⟩) n cap) n (zs.map (fun z => Value.int .i64 z))) (hm : zs.length ≤ maxLen) : Sl w (.slice (some ⟨g, 0, none⟩) n cap) zs := by
  have hl := h.1
  simp at hl
  subst hl
  refine ⟨_, cap, rfl, hm, .inr ⟨g, 0, rfl, (h.lt g rfl).2, fun i hi => ?_⟩⟩
  rw [Nat.zero_add, h.cellAt i (by omega), List.getElem?_map, List.getElem?_eq_getElem hi]
  simp [nth, hi]

theorem Sl.setOther {w : World} {v : Value} {zs : List Int} (h : Sl w v zs) {p : Addr} (hp : v.ownBlock ≠ some p.block) (u : Value) : Sl (w.setCell p u) v zs := by
  obtain ⟨a, cap, rfl, hl, h⟩ := h
  refine ⟨a, cap, rfl, hl, ?_⟩
  rcases h with h | ⟨b, o, rfl, hlt, hc⟩
  · exact .inl h
  · have hne : b ≠ p.block := fun e => hp (by simp [Value.ownBlock, e])
    refine .inr ⟨b, o, rfl, by simpa [World.setCell] using hlt, fun i hi => ?_⟩
    rw [World.cell?_of_block (a := ⟨b, o + i, none⟩) (heap_setCell_other w p b u hne)]
    exact hc i hi

set_option maxHeartbeats 1000000 in
theorem put_okN (v : Value) (zs : List Int) (k x : Int) (w : World) (h : Sl w v zs) (hn : zs.length = 512) (p0 : 0 ≤ k) (p1 : k < 512) :
    Calls Try.prog 108 #[.agg #[v], .int .i64 k, .int .i64 x] w fun e w' => ∃ v', e = .returned (.agg #[v']) ∧ Sl w' v' (zs.set k.toNat x) ∧ Fresh w.heap.size v' ∧ Below w.heap.size w w' := by
  obtain ⟨b, o, cap, rfl, hb, hc⟩ := h.open512 hn
  have HC : Hid (∀ i, i < 512 → w.cell? ⟨b, o + i, none⟩ = some (.int .i64 (nth zs i))) := hc
  have HN : Hid (zs.length = 512) := hn
  clear hc hn
  have HW : ∀ A B : Obj, (((w.alloc A).alloc B).alloc (.cells #[] 3)).ownsRow (w.heap.size + 1 + 1) 3 1 (.slice (some ⟨w.heap.size + 1 + 1, 0, none⟩) 0 0) 0 [] := fun A B => by
    have := lit_row ((w.alloc A).alloc B) (w.heap.size + 1 + 1) (by simp)
    simpa using this
  have H1 : Hid _ := HW
  clear HW
  go_enter Try.func108, Try.ntmps108
  go_wp2_with (at_builtin; refine wpList_append_new rfl (.tmp 8) (.tmp 10) rfl (w.heap.size + 1 + 1) _ rfl (H1.out _ _) b o cap zs rfl HN.out ?hc ?hbase ?hrest)
  case hbase => simp
  case hc =>
    intro i hi
    rw [World.cell?_alloc_past _ _ _ (by simp; omega), World.cell?_alloc_past _ _ _ (by simp; omega), World.cell?_alloc_past _ _ _ (by omega)]
    exact HC.out i hi
  case hrest =>
    intro g cap' w3 hown hgr hat hlt
    have hgb := (hown.lt g rfl).1
    have r3 : w3.cell? ⟨g, k.toNat, none⟩ = some (.int .i64 (nth zs k.toNat)) := by
      rw [hown.cellAt k.toNat (by omega), List.getElem?_map, getElem?_nth (by have := HN.out; omega)]
      rfl
    have r4 : w3.frozen? ⟨g, k.toNat, none⟩ = false := hown.frozenAt k.toNat
    have hgs : w.heap.size + 1 + 1 + 1 ≤ w3.heap.size := by have := hgr.size; simpa using this
    have r1 : w3.cell? ⟨w.heap.size + 1, 0, none⟩ = some (.slice none 0 0) := by
      rw [World.cell?_of_block (a := ⟨w.heap.size + 1, 0, none⟩) (hgr.block (w.heap.size + 1) (by simp) (by simp [Value.ownBlock]))]
      simp [go_sem]
    have r2 : w3.frozen? ⟨w.heap.size + 1, 0, none⟩ = false := by
      rw [World.frozen?_of_block (a := ⟨w.heap.size + 1, 0, none⟩) (hgr.block (w.heap.size + 1) (by simp) (by simp [Value.ownBlock]))]
      simp [go_sem]
    have HB3 : Hid (Below w.heap.size w w3) := (bel_alloc (bel_alloc (bel_alloc (Below.refl _ _) _) _) _).grown hgr (by simp; omega) (fun k hk => by simp [Value.ownBlock] at hk; omega)
    have HO : Hid _ := hown
    have n2 : ¬ g = w.heap.size + 1 := by omega
    clear hown hgr hat
    go_wp2
    refine bodyPost_ret (v := .agg #[.slice (some ⟨g, 0, none⟩) 512 cap']) (by simp [results, Try.results108, go_sem, *]) rfl ⟨_, rfl, ?_, fun k hk => by simp [Value.ownBlock] at hk; omega, ?_⟩
    · have hst := (World.ownsRow.stored HO.out k.toNat (.int .i64 x)).1
      rw [← List.map_set] at hst
      exact (sl_owned hst (by rw [List.length_set, HN.out]; simp [maxLen])).setOther (by simp [Value.ownBlock]; omega) _
    · exact (HB3.out.setCell (p := ⟨g, k.toNat, none⟩) (by show w.heap.size ≤ g; omega) _).setCell (p := ⟨w.heap.size + 1, 0, none⟩) (by show w.heap.size ≤ w.heap.size + 1; omega) _

theorem put_ok (v : Value) (zs : List Int) (k x : Int) (w : World) (h : Sl w v zs) (hn : zs.length = 512) (p0 : 0 ≤ k) (p1 : k < 512) :
    Calls Try.prog 108 #[.agg #[v], .int .i64 k, .int .i64 x] w fun e w' => ∃ v', e = .returned (.agg #[v']) ∧ Sl w' v' (zs.set k.toNat x) ∧ Below w.heap.size w w' :=
  (put_okN v zs k x w h hn p0 p1).mono fun _ _ ⟨v', he, hs, _, hb⟩ => ⟨v', he, hs, hb⟩

/-- at: a number brought within bounds. -/
theorem at_any (k : Int) (w : World) :
    Calls Try.prog 38 #[.int .i64 k, .int .i64 512] w fun e w' => e = .returned (.int .i64 (k % 512)) ∧ w' = w := by
  have b1 : -512 < k.tmod 512 := Int.lt_tmod_of_pos k (by decide)
  have b2 : k.tmod 512 < 512 := Int.tmod_lt_of_pos k (by decide)
  have HM : Hid (k.tmod 512 = k - 512 * k.tdiv 512) := Int.tmod_def k 512
  by_cases h : k.tmod 512 < 0
  · go_enter Try.func38, Try.ntmps38
    go_wp2
    go_ret
    exact ⟨ret_int (by have := HM.out; omega), rfl⟩
  · go_enter Try.func38, Try.ntmps38
    go_wp2
    go_ret
    exact ⟨ret_int (by have := HM.out; omega), rfl⟩
end Go.Proofs.Ytefcdcneenjbgab
/-
  The closed fact 'stored' of the statements answers true; nothing that was there turns.
-/
namespace Go.Proofs.Ytefcdcneenjbgab
open Go.RowKit

theorem nth_set_same {zs : List Int} {i : Nat} (h : i < zs.length) (x : Int) : nth (zs.set i x) i = x := by simp [nth, h]
theorem nth_set_other {zs : List Int} {i j : Nat} (h : i ≠ j) (x : Int) : nth (zs.set i x) j = nth zs j := by simp [nth, h]
theorem nth_zeros {i : Nat} (h : i < 512) : nth zeros i = 0 := by
  unfold nth zeros
  rw [List.getD_eq_getElem?_getD, List.getElem?_replicate, if_pos h]; rfl
theorem chk_zeros : chk zeros = 0 := chk_all zeros_length fun j hj => by rw [nth_zeros hj]; rfl
theorem chk_set {zs : List Int} {k : Nat} {x : Int} (h : chk zs = 0) (hx : wordB x = true) : chk (zs.set k x) = 0 := by
  obtain ⟨hl, ha⟩ := chk_ok h
  refine chk_all (by rw [List.length_set]; exact hl) fun j hj => ?_
  by_cases e : k = j
  · subst e; rw [nth_set_same (by omega)]; exact hx
  · rw [nth_set_other e]; exact ha j hj
theorem rdV_ok {zs : List Int} {k : Int} (h : chk zs = 0) (hp : placeB k = true) : rdV zs k = nth zs k.toNat := by simp [rdV, h, hp]
theorem rdE_ok {zs : List Int} {k : Int} (h : chk zs = 0) (hp : placeB k = true) : rdE zs k = 0 := by simp [rdE, h, hp]
theorem wrE_ok {zs : List Int} {k x : Int} (h : chk zs = 0) (hp : placeB k = true) (hx : wordB x = true) : wrE zs k x = 0 := by simp [wrE, h, hp, hx]
theorem wrM_ok {zs : List Int} {k x : Int} (h : chk zs = 0) (hp : placeB k = true) (hx : wordB x = true) : wrM zs k x = zs.set k.toNat x := by rw [wrM, if_pos ⟨h, hp, hx⟩]

/-- New's memory: where it lies, and what it reads as. -/
theorem new_both (w : World) :
    Calls Try.prog 106 #[] w fun e w' => ∃ g, e = .returned (.agg #[.slice (some ⟨g, 0, none⟩) 512 512]) ∧ Sl w' (.slice (some ⟨g, 0, none⟩) 512 512) zeros ∧ Below w.heap.size w w' :=
  (new_own w).mono fun e w' ⟨g, he, hg, _, hb⟩ => ⟨_, he, sl_block hg zeroCells_list zeros_length.symm (by rw [zeros_length]; simp [maxLen]), hb⟩

/-- New memory with one word. -/
def oneWord : List Int := zeros.set 9 7
theorem oneWord_len : oneWord.length = 512 := by unfold oneWord; rw [List.length_set, zeros_length]
theorem chk_oneWord : chk oneWord = 0 := chk_set chk_zeros rfl
theorem wrM_oneWord : wrM zeros 9 7 = oneWord := wrM_ok chk_zeros rfl rfl
theorem wrE_oneWord : wrE zeros 9 7 = 0 := wrE_ok chk_zeros rfl rfl
theorem rdV_oneWord : rdV oneWord 9 = 7 := by rw [rdV_ok chk_oneWord rfl]; exact nth_set_same (by rw [zeros_length]; decide) 7
theorem rdE_oneWord : rdE oneWord 9 = 0 := rdE_ok chk_oneWord rfl
theorem rdE_past : rdE oneWord 512 = 4 := by unfold rdE; rw [if_pos chk_oneWord]; rfl

/-- The one field of a memory that is a value. -/
theorem field0 (v : Value) (w : World) : (Instr.field 39 (.agg #[v]) 0).run Try.prog w = .ok v w := by kernel_rfl

end Go.Proofs.Ytefcdcneenjbgab
/-
  The walk of drawbridgelaw.MemKeeps: it answers true, whatever memory and numbers it is given; nothing that was there turns.
-/
namespace Go.Proofs.Ytefcdcneenjbgab
open Go.RowKit

theorem Sl.shape {w : World} {v : Value} {zs : List Int} (h : Sl w v zs) : ∃ a cap, v = .slice a zs.length cap := by
  obtain ⟨a, cap, h, _⟩ := h; exact ⟨a, cap, h⟩
theorem at_in (k : Int) (w : World) :
    Calls Try.prog 38 #[.int .i64 k, .int .i64 512] w fun e w' => ∃ i, e = .returned (.int .i64 i) ∧ placeB i = true ∧ w' = w :=
  (at_any k w).mono fun e w' ⟨he, hw⟩ => ⟨k % 512, he, by simp [placeB]; omega, hw⟩

/-- A store over a slice turns no number. -/
theorem Sl.setSlice {w : World} {v : Value} {zs : List Int} (h : Sl w v zs) {p : Addr} {a : Option Addr} {n c : Nat} (hp : w.cell? p = some (.slice a n c)) (u : Value) : Sl (w.setCell p u) v zs := by
  obtain ⟨a, cap, rfl, hl, h⟩ := h
  refine ⟨a, cap, rfl, hl, ?_⟩
  rcases h with h | ⟨b, o, rfl, hlt, hc⟩
  · exact .inl h
  · refine .inr ⟨b, o, rfl, by simpa [World.setCell] using hlt, fun i hi => ?_⟩
    have hq := hc i hi
    have hne : p ≠ ⟨b, o + i, none⟩ := fun e => by rw [e, hq] at hp; simp at hp
    rw [World.cell?_setCell_other (h := hne)]
    exact hq

end Go.Proofs.Ytefcdcneenjbgab
/-
  Package walk: what Walk answers, errors and faults too; it turns nothing that was there.
-/
namespace Go.Proofs.Ytefcdcneenjbgab
open Go.RowKit

/-- What Walk answers of right memory and pages in range: the entry, the fault. -/
def wkF (zs : List Int) (root page : Int) (wr : Bool) : Five × Int :=
  if (fnd zs root page).2 = 0 then (if ((fnd zs root page).1.2.1 && ((fnd zs root page).1.2.2.1 || !wr)) = true then ((fnd zs root page).1, 0) else (E0, 5)) else (E0, (fnd zs root page).2)
/-- What Walk answers: the entry, the fault, the error. -/
def wkd (zs : List Int) (root page : Int) (wr : Bool) : Five × Int × Int :=
  if chk zs = 0 then
    (if pageB root = true ∧ pageB page = true then ((wkF zs root page wr).1, (wkF zs root page wr).2, 0) else (E0, 0, 4))
  else (E0, 0, chk zs)

theorem five_eq {a b : Five × Int} (h1 : a.1 = b.1) (h2 : a.2 = b.2) : a = b := Prod.ext h1 h2

set_option maxHeartbeats 2000000 in
theorem walk_any (v : Value) (zs : List Int) (root page : Int) (wr : Bool) (w : World) (h : Sl w v zs) :
    Calls Try.prog 96 #[.agg #[v], .int .i64 root, .int .i64 page, .bool wr] w fun e w' => (∃ b r x l p f c, e = .returned (.tuple #[.agg #[.bool b, .bool r, .bool x, .bool l, .int .i64 p], .int .i64 f, .int .i64 c]) ∧ wkd zs root page wr = ((b, r, x, l, p), f, c)) ∧ Below w.heap.size w w' := by
  have HS : Hid (Sl w v zs) := h
  obtain ⟨a0, c0, rfl⟩ := h.shape
  clear h
  go_enter Try.func96, Try.ntmps96
  go_wp2_with fail
  refine (check_any _ zs _ (HS.out.keep (bel_alloc (bel_alloc (Below.refl _ _) _) _))).mono ?_
  rintro e w1 ⟨rfl, b1⟩
  have B1 : Hid _ := b1
  have BB : Hid (Below w.heap.size w w1) := bel_trans (bel_alloc (bel_alloc (Below.refl _ _) _) _) b1
  obtain ⟨c1, f1⟩ := bcell b1
  have s1 : w.heap.size + 1 < w1.heap.size := by have := b1.size; simp at this; omega
  clear b1
  by_cases hk : chk zs = 0
  rotate_left
  · have hq : (chk zs != 0) = true := by simpa using hk
    go_wp2
    refine bodyPost_ret (v := .tuple #[.agg #[.bool false, .bool false, .bool false, .bool false, .int .i64 0], .int .i64 0, .int .i64 (chk zs)]) (by simp [results, Try.results96, go_sem, *]) rfl ⟨⟨_, _, _, _, _, _, _, rfl, by rw [wkd, if_neg hk]; rfl⟩, ?_⟩
    exact bel_set5 (by omega) BB.out _ _ _ _ _
  have hq : (chk zs != 0) = false := by simpa using hk
  have HN : Hid (zs.length = 512) := (chk_ok hk).1
  have HK : Hid (chk zs = 0) := hk
  clear hk
  cases hr : pageB root
  · have hd : ¬ (pageB root = true ∧ pageB page = true) := by rw [hr]; simp
    have HD : Hid _ := hd
    clear hd
    go_wp2_with fail
    refine (wPage_any _ _).mono ?_
    rintro e w2 ⟨rfl, rfl⟩
    rw [hr]
    go_wp2
    refine bodyPost_ret (v := .tuple #[.agg #[.bool false, .bool false, .bool false, .bool false, .int .i64 0], .int .i64 0, .int .i64 4]) (by simp [results, Try.results96, go_sem, *]) rfl ⟨⟨_, _, _, _, _, _, _, rfl, by rw [wkd, if_pos HK.out, if_neg HD.out]; rfl⟩, ?_⟩
    exact bel_set5 (by omega) BB.out _ _ _ _ _
  cases hp : pageB page
  · have hd : ¬ (pageB root = true ∧ pageB page = true) := by rw [hp]; simp
    have HD : Hid _ := hd
    clear hd
    go_wp2_with fail
    refine (wPage_any _ _).mono ?_
    rintro e w2 ⟨rfl, rfl⟩
    rw [hr]
    go_wp2_with fail
    refine (wPage_any _ _).mono ?_
    rintro e w2 ⟨rfl, rfl⟩
    rw [hp]
    go_wp2
    refine bodyPost_ret (v := .tuple #[.agg #[.bool false, .bool false, .bool false, .bool false, .int .i64 0], .int .i64 0, .int .i64 4]) (by simp [results, Try.results96, go_sem, *]) rfl ⟨⟨_, _, _, _, _, _, _, rfl, by rw [wkd, if_pos HK.out, if_neg HD.out]; rfl⟩, ?_⟩
    exact bel_set5 (by omega) BB.out _ _ _ _ _
  have hd : pageB root = true ∧ pageB page = true := ⟨hr, hp⟩
  have HD : Hid _ := hd
  clear hd
  obtain ⟨r0, r1⟩ : 0 ≤ root ∧ root < 64 := by simpa [pageB] using hr
  obtain ⟨g0, g1⟩ : 0 ≤ page ∧ page < 64 := by simpa [pageB] using hp
  go_wp2_with fail
  refine (wPage_any _ _).mono ?_
  rintro e w2 ⟨rfl, rfl⟩
  rw [hr]
  go_wp2_with fail
  refine (wPage_any _ _).mono ?_
  rintro e w2 ⟨rfl, rfl⟩
  rw [hp]
  clear hr hp
  go_wp2_with fail
  refine (find_any _ zs _ _ _ (HS.out.keep BB.out) HN.out r0 r1 g0 g1).mono ?_
  rintro e w2 ⟨⟨b, r, x, l, p, f, rfl, hfn⟩, b2⟩
  have HF : Hid (fnd zs root page = ((b, r, x, l, p), f)) := hfn
  have B2 : Hid _ := bel_trans B1.out b2
  have BB2 : Hid (Below w.heap.size w w2) := bel_trans BB.out b2
  have s2 : w.heap.size + 1 < w2.heap.size := by have := b2.size; omega
  clear c1 f1 b2 BB B1 s1 hfn
  obtain ⟨c2, f2⟩ := bcell B2.out
  by_cases hf : f = 0
  rotate_left
  · have hq1 : (f == 0) = false := by simpa using hf
    have hq2 : (f != 0) = true := by simpa using hf
    go_wp2
    refine bodyPost_ret (v := .tuple #[.agg #[.bool false, .bool false, .bool false, .bool false, .int .i64 0], .int .i64 f, .int .i64 0]) (by simp [results, Try.results96, go_sem, *]) rfl ⟨⟨_, _, _, _, _, _, _, rfl, by rw [wkd, if_pos HK.out, if_pos HD.out, wkF, HF.out, if_neg hf]; rfl⟩, ?_⟩
    exact bel_alloc (bel_set5 (by omega) BB2.out _ _ _ _ _) _
  subst hf
  go_wp2_with fail
  refine (may_any _ _ _ _ _ _ _).mono ?_
  rintro e w3 ⟨rfl, o3, hw3⟩
  have B3 : Hid (Below _ _ w3) := hw3 ▸ bel_alloc (bel_alloc B2.out _) o3
  have BB3 : Hid (Below w.heap.size w w3) := hw3 ▸ bel_alloc (bel_alloc BB2.out _) o3
  have K3 : Blk w3 w2.heap.size #[.bool b, .bool r, .bool x, .bool l, .int .i64 p] := hw3 ▸ (Blk.new w2 _ _ _).past o3
  have s3 : w.heap.size + 1 < w3.heap.size := by rw [hw3]; simp; omega
  obtain ⟨d0, d1, d2, d3, d4⟩ := K3.five
  clear c2 f2 hw3 K3
  obtain ⟨c3, f3⟩ := bcell B3.out
  cases hm : (r && (x || !wr))
  · have hm' : ¬ (r && (x || !wr)) = true := by rw [hm]; decide
    have HM : Hid _ := hm'
    clear hm hm'
    go_wp2
    refine bodyPost_ret (v := .tuple #[.agg #[.bool false, .bool false, .bool false, .bool false, .int .i64 0], .int .i64 5, .int .i64 0]) (by simp [results, Try.results96, go_sem, *]) rfl ⟨⟨_, _, _, _, _, _, _, rfl, by rw [wkd, if_pos HK.out, if_pos HD.out, wkF, HF.out, if_pos rfl, if_neg HM.out]; rfl⟩, ?_⟩
    exact bel_set5 (by omega) BB3.out _ _ _ _ _
  · have HM : Hid ((r && (x || !wr)) = true) := hm
    clear hm
    go_wp2
    refine bodyPost_ret (v := .tuple #[.agg #[.bool b, .bool r, .bool x, .bool l, .int .i64 p], .int .i64 0, .int .i64 0]) (by simp [results, Try.results96, go_sem, *]) rfl ⟨⟨_, _, _, _, _, _, _, rfl, by rw [wkd, if_pos HK.out, if_pos HD.out, wkF, HF.out, if_pos rfl, if_pos HM.out]⟩, ?_⟩
    exact bel_set5 (by omega) BB3.out _ _ _ _ _
end Go.Proofs.Ytefcdcneenjbgab
/-
  drawbridgelaw's with: words at places, of noughts; it turns nothing that was there.
-/
namespace Go.Proofs.Ytefcdcneenjbgab
open Go.RowKit

/-- Noughts, and the first so many pairs laid. -/
def wth (ps : List Int) : Nat → List Int
  | 0 => zeros
  | j + 1 => (wth ps j).set (nth ps (2 * j)).toNat (nth ps (2 * j + 1))
theorem wth_len (ps : List Int) (j : Nat) : (wth ps j).length = 512 := by
  induction j with
  | zero => exact zeros_length
  | succ j ih => rw [wth, List.length_set, ih]

/-- What the rounds of with keep. -/
def WithRel (w : World) (ps : List Int) (j : Nat) (w' : World) : Prop :=
  (∃ cs : Array Value, w'.heap[w.heap.size + 1]? = some (.cells cs 3 (0, 0)) ∧ cs.toList = (wth ps j).map (fun z => Value.int .i64 z)) ∧
  w'.heap[w.heap.size + 1 + 1]? = some (.cells #[.slice (some ⟨w.heap.size + 1, 0, none⟩) 512 512] 39 (0, 0)) ∧
  w'.heap[w.heap.size]? = some (.cells #[.slice none 0 0] 39 (0, 0)) ∧
  Below w.heap.size w w'

theorem WithRel.next {w w' : World} {ps : List Int} {j : Nat} (h : WithRel w ps j w') : WithRel w ps (j + 1) ((w'.setCell ⟨w.heap.size + 1, (nth ps (2 * j)).toNat, none⟩ (.int .i64 (nth ps (2 * j + 1)))).drew) := by
  obtain ⟨⟨cs, h1, h2⟩, h3, h4, h5⟩ := h
  refine ⟨⟨_, heap_setCell_same _ _ _ cs _ _ h1, ?_⟩, ?_, ?_, ?_⟩
  · rw [Array.toList_setIfInBounds, h2, wth, List.map_set]
  · show (w'.setCell _ _).heap[_]? = _
    rw [heap_setCell_other _ _ _ _ (by simp)]; exact h3
  · show (w'.setCell _ _).heap[_]? = _
    rw [heap_setCell_other _ _ _ _ (by simp)]; exact h4
  · exact (h5.setCell (p := ⟨w.heap.size + 1, _, none⟩) (by simp) _).drew

set_option maxHeartbeats 2000000 in
theorem with_own (b o cap : Nat) (ps : List Int) (m : Nat) (w : World) (h : Sl w (.slice (some ⟨b, o, none⟩) (2 * m) cap) ps) (hl : ps.length = 2 * m) (hm9 : m < 1000) (hp : ∀ j, j < m → 0 ≤ nth ps (2 * j) ∧ nth ps (2 * j) < 512) :
    Calls Try.prog 98 #[.slice (some ⟨b, o, none⟩) (2 * m : Nat) cap] w fun e w' => ∃ g, e = .returned (.agg #[.slice (some ⟨g, 0, none⟩) 512 512]) ∧ Sl w' (.slice (some ⟨g, 0, none⟩) 512 512) (wth ps m) ∧ Below w.heap.size w w' ∧ w.heap.size ≤ g ∧ ∃ cs : Array Value, w'.heap[g]? = some (.cells cs 3 (0, 0)) ∧ cs.toList = (wth ps m).map (fun z => Value.int .i64 z) := by
  have hm := make512
  have HP : Hid (∀ j, j < m → 0 ≤ nth ps (2 * j) ∧ nth ps (2 * j) < 512) := hp
  have HS : Hid (∀ i, i < 2 * m → b < w.heap.size ∧ w.cell? ⟨b, o + i, none⟩ = some (.int .i64 (nth ps i))) := by
    intro i hi
    obtain ⟨a, c, ha, _, hh⟩ := h
    simp at ha
    obtain ⟨rfl, _⟩ := ha
    rcases hh with rfl | ⟨b', o', hb, hlt, hc⟩
    · simp at hl; omega
    · simp at hb
      obtain ⟨rfl, rfl⟩ := hb
      exact ⟨hlt, hc i (by omega)⟩
  clear h hp
  go_enter Try.func98, Try.ntmps98
  go_wp2
  go_loopw [4] (fun i w' => ∃ j : Nat, j ≤ m ∧ i = .int .i64 (2 * j : Nat) ∧ WithRel w ps j w') (fun i _ => 2 * m - (intOf i).toNat)
  case atStart =>
    refine ⟨0, Nat.zero_le _, rfl, ⟨_, heap_past (by simp) (heap_at (by simp)), zeroCells_list⟩, heap_at (by simp), heap_past (by simp; omega) (heap_past (by simp) (heap_at rfl)), bel_alloc (bel_alloc (bel_alloc (Below.refl _ _) _) _) _⟩
  case round =>
    obtain ⟨j, hj, rfl, hR⟩ := hrel
    have HR : Hid (WithRel w ps j wr) := hR
    obtain ⟨⟨cs, h1, h2⟩, h3, h4, h5⟩ := hR
    have q3 := cell_of_row wr (w.heap.size + 1 + 1) 0 _ _ _ h3
    by_cases hlt : j < m
    · obtain ⟨p0, p1⟩ := HP.out j hlt
      obtain ⟨hb, e0⟩ := HS.out (2 * j) (by omega)
      obtain ⟨_, e1⟩ := HS.out (2 * j + 1) (by omega)
      have g0 : wr.cell? ⟨b, o + 2 * j, none⟩ = some (.int .i64 (nth ps (2 * j))) := by rw [h5.cell (p := ⟨b, _, none⟩) hb]; exact e0
      have g1 : wr.cell? ⟨b, o + (2 * j + 1), none⟩ = some (.int .i64 (nth ps (2 * j + 1))) := by rw [h5.cell (p := ⟨b, _, none⟩) hb]; exact e1
      have gm : wr.cell? ⟨w.heap.size + 1, (nth ps (2 * j)).toNat, none⟩ = some (.int .i64 (nth (wth ps j) (nth ps (2 * j)).toNat)) := by
        rw [cell_of_row _ _ _ _ _ _ h1, ← Array.getElem?_toList, h2, List.getElem?_map, getElem?_nth (by rw [wth_len]; omega)]; rfl
      have gf : wr.frozen? ⟨w.heap.size + 1, (nth ps (2 * j)).toNat, none⟩ = false := frozen_of_row _ _ _ _ _ h1
      have HX : Hid _ := HR.out.next
      generalize nth ps (2 * j) = p at *
      generalize nth ps (2 * j + 1) = x at *
      generalize hk : 2 * j = k at *
      have hlt1 : (k : Int) + 1 < (2 * m : Nat) := by omega
      have hlt0 : (k : Int) < (2 * m : Nat) := by omega
      have hw : wrap64 ((k : Int) + 1) = k + 1 := by unfold wrap64; omega
      clear e0 e1 h1 h2 h3 h4 h5
      go_wp2
      go_region
      go_wp2
      refine ⟨⟨j + 1, by omega, by congr 1; omega, HX.out⟩, by simp [intOf]; omega⟩
    · obtain rfl : j = m := by omega
      have HQ : Hid (Sl wr (.slice (some ⟨w.heap.size + 1, 0, none⟩) 512 512) (wth ps j)) := sl_block h1 h2 (wth_len _ _).symm (by rw [wth_len]; simp [maxLen])
      have q4 := cell_of_row wr w.heap.size 0 _ _ _ h4
      have q5 := frozen_of_row wr w.heap.size 0 _ _ h4
      have HB : Hid (Below w.heap.size w wr) := h5
      have HC : Hid (wr.heap[w.heap.size + 1]? = some (.cells cs 3 (0, 0)) ∧ cs.toList = (wth ps j).map (fun z => Value.int .i64 z)) := ⟨h1, h2⟩
      clear h1 h2 h3 h4 h5 HR
      generalize hk : 2 * j = k at *
      have hk9 : k < 2000 := by omega
      have hw : wrap64 ((k : Int) + 1) = k + 1 := by unfold wrap64; omega
      have hge : ¬ (k : Int) + 1 < (k : Int) := by omega
      go_wp2
      refine bodyPost_ret (v := .agg #[.slice (some ⟨w.heap.size + 1, 0, none⟩) 512 512]) (by simp [results, Try.results98, go_sem, *]) rfl ⟨_, rfl, HQ.out.setOther (by simp [Value.ownBlock]) _, HB.out.setCell (p := ⟨w.heap.size, 0, none⟩) (by simp) _, by omega, cs, by rw [heap_setCell_other _ _ _ _ (by simp)]; exact HC.out.1, HC.out.2⟩
theorem with_any (b o cap : Nat) (ps : List Int) (m : Nat) (w : World) (h : Sl w (.slice (some ⟨b, o, none⟩) (2 * m) cap) ps) (hl : ps.length = 2 * m) (hm9 : m < 1000) (hp : ∀ j, j < m → 0 ≤ nth ps (2 * j) ∧ nth ps (2 * j) < 512) :
    Calls Try.prog 98 #[.slice (some ⟨b, o, none⟩) (2 * m : Nat) cap] w fun e w' => ∃ g, e = .returned (.agg #[.slice (some ⟨g, 0, none⟩) 512 512]) ∧ Sl w' (.slice (some ⟨g, 0, none⟩) 512 512) (wth ps m) ∧ Below w.heap.size w w' :=
  (with_own b o cap ps m w h hl hm9 hp).mono fun _ _ ⟨g, he, hs, hb, _⟩ => ⟨g, he, hs, hb⟩
end Go.Proofs.Ytefcdcneenjbgab
/-
  The closed fact 'walked' of the statements answers true; nothing that was there turns.
-/
namespace Go.Proofs.Ytefcdcneenjbgab
open Go.RowKit

/-- The memory of the closed fact walked. -/
def wkm : List Int := wth [16, 49, 17, 143, 25, 155] 3
theorem wkm_len : wkm.length = 512 := wth_len _ _
theorem wkd_1 : wkd wkm 2 1 false = ((true, true, false, true, 9), 0, 0) := by decide +kernel
theorem wkd_2 : wkd wkm 2 1 true = ((false, false, false, false, 0), 5, 0) := by decide +kernel
theorem wkd_3 : wkd wkm 2 13 true = ((true, true, true, true, 13), 0, 0) := by decide +kernel
theorem wkd_4 : wkd wkm 2 2 false = ((false, false, false, false, 0), 3, 0) := by decide +kernel

/-- Walk, where its answer is known. -/
theorem walk_at {v : Value} {zs : List Int} {root page : Int} {wr : Bool} {w : World} {b r x l : Bool} {p f c : Int} (hk : wkd zs root page wr = ((b, r, x, l, p), f, c)) (h : Sl w v zs) :
    Calls Try.prog 96 #[.agg #[v], .int .i64 root, .int .i64 page, .bool wr] w fun e w' => e = .returned (.tuple #[.agg #[.bool b, .bool r, .bool x, .bool l, .int .i64 p], .int .i64 f, .int .i64 c]) ∧ Below w.heap.size w w' := by
  refine (walk_any v zs root page wr w h).mono ?_
  rintro e w' ⟨⟨b', r', x', l', p', f', c', rfl, hk'⟩, hb⟩
  rw [hk] at hk'
  simp only [Prod.mk.injEq] at hk'
  obtain ⟨⟨rfl, rfl, rfl, rfl, rfl⟩, rfl, rfl⟩ := hk'
  exact ⟨rfl, hb⟩

end Go.Proofs.Ytefcdcneenjbgab
