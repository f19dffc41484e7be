/-
  Package walk: what find answers; it turns nothing that was there.
-/
import Derived.Test.YtemnklppplgcoabWalk1
import Derived.LoopN
import Derived.Deep.CutRange
import Derived.Deep.RegionHeld3
namespace Go.Proofs.Ytemnklppplgcoab
open Go.RowKit

/-- The fields of an entry. -/
abbrev Five := Bool × Bool × Bool × Bool × Int
def E0 : Five := (false, false, false, false, 0)
def entE (z : Int) : Five := (vE z, rE z, xE z, lE z, pE z)
/-- The first word that is read, and the second one. -/
def one (zs : List Int) (root page : Int) : Int := nth zs (8 * root + page / 8).toNat
def two (zs : List Int) (root page : Int) : Int := nth zs (8 * pE (one zs root page) + page % 8).toNat
/-- What find answers. -/
def fnd (zs : List Int) (root page : Int) : Five × Int :=
  if fltR (one zs root page) = 0 then
    (if lE (one zs root page) = true then
      (if pE (one zs root page) % 8 = 0 then ((vE (one zs root page), rE (one zs root page), xE (one zs root page), lE (one zs root page), pE (one zs root page) + page % 8), 0) else (E0, 4))
    else if fltR (two zs root page) = 0 then
      (if lE (two zs root page) = true then (entE (two zs root page), 0) else (E0, 4))
    else (E0, fltR (two zs root page)))
  else (E0, fltR (one zs root page))

theorem pE_in (z : Int) : 0 ≤ pE z ∧ pE z < 64 := by
  unfold pE; split <;> omega

theorem quo_one {p : Int} (h0 : 0 ≤ p) (h1 : p < 64) : (IntKind.i64.wrap (p.tdiv 8)).tmod 8 = p / 8 := by
  rw [Int.tdiv_eq_ediv_of_nonneg h0, wraps_i64 _ (by omega) (by omega), Int.tmod_eq_emod_of_nonneg (by omega)]
  omega
theorem quo_two {p : Int} (h0 : 0 ≤ p) (h1 : p < 64) : (IntKind.i64.wrap p).tmod 8 = p % 8 := by
  rw [wraps_i64 _ (by omega) (by omega), Int.tmod_eq_emod_of_nonneg (by omega)]

theorem span0 (w : World) : (Instr.index 128 (.agg #[.int .i64 8, .int .i64 1]) (.int .i64 0)).run Try.prog w = .ok (.int .i64 8) w := by kernel_rfl
theorem span1 (w : World) : (Instr.index 128 (.agg #[.int .i64 8, .int .i64 1]) (.int .i64 1)).run Try.prog w = .ok (.int .i64 1) w := by kernel_rfl

/-- Find's own two blocks: memory, and what is answered. -/
abbrev W0 (w : World) (b o cap : Nat) : World := (w.alloc (.cells #[.slice (some ⟨b, o, none⟩) 512 cap] 39)).alloc (.cells #[.bool false, .bool false, .bool false, .bool false, .int .i64 0] 92)
theorem W0_size (w : World) (b o cap : Nat) : (W0 w b o cap).heap.size = w.heap.size + 2 := by simp [W0]
theorem W0_mem {w w' : World} {b o cap : Nat} (h : Below (W0 w b o cap).heap.size (W0 w b o cap) w') : w'.cell? ⟨w.heap.size, 0, none⟩ = some (.slice (some ⟨b, o, none⟩) 512 cap) ∧ Below (W0 w b o cap).heap.size (W0 w b o cap) w' := by
  refine ⟨?_, h⟩
  rw [(bcell h).1 _ _ (by simp [W0]; omega)]
  simp [W0, go_sem]
theorem W0_below {w w' : World} {b o cap : Nat} (h : Below (W0 w b o cap).heap.size (W0 w b o cap) w') : Below w.heap.size w w' := bel_trans (bel_alloc (bel_alloc (Below.refl _ _) _) _) h
theorem W0_set5 {w w' : World} {b o cap : Nat} (h : Below (W0 w b o cap).heap.size (W0 w b o cap) w') (u0 u1 u2 u3 u4 : Value) :
    Below (W0 w b o cap).heap.size (W0 w b o cap) (((((w'.setCell ⟨w.heap.size + 1 + 1, 0, none⟩ u0).setCell ⟨w.heap.size + 1 + 1, 1, none⟩ u1).setCell ⟨w.heap.size + 1 + 1, 2, none⟩ u2).setCell ⟨w.heap.size + 1 + 1, 3, none⟩ u3).setCell ⟨w.heap.size + 1 + 1, 4, none⟩ u4) :=
  bel_set5 (by simp [W0]) h _ _ _ _ _
theorem W0_setn {w w' : World} {b o cap n : Nat} (hn : w.heap.size + 1 < n) (h : Below (W0 w b o cap).heap.size (W0 w b o cap) w') (u0 u1 u2 u3 u4 : Value) :
    Below (W0 w b o cap).heap.size (W0 w b o cap) (((((w'.setCell ⟨n, 0, none⟩ u0).setCell ⟨n, 1, none⟩ u1).setCell ⟨n, 2, none⟩ u2).setCell ⟨n, 3, none⟩ u3).setCell ⟨n, 4, none⟩ u4) :=
  bel_set5 (by simp [W0]; omega) h _ _ _ _ _
set_option maxHeartbeats 1000000 in
theorem find_any (v : Value) (zs : List Int) (root page : Int) (w : World) (h : Sl w v zs) (hn : zs.length = 512) (r0 : 0 ≤ root) (r1 : root < 64) (g0 : 0 ≤ page) (g1 : page < 64) :
    Calls Try.prog 99 #[.agg #[v], .int .i64 root, .int .i64 page] w fun e w' => (∃ b r x l p f, e = .returned (.tuple #[.agg #[.bool b, .bool r, .bool x, .bool l, .int .i64 p], .int .i64 f]) ∧ fnd zs root page = ((b, r, x, l, p), f)) ∧ Below w.heap.size w w' := by
  obtain ⟨b, o, cap, rfl, _, _⟩ := h.open512 hn
  have HN : Hid (zs.length = 512) := hn
  have HS : Hid (Sl w (.slice (some ⟨b, o, none⟩) 512 cap) zs) := h
  clear hn h
  have m0 : 0 ≤ page / 8 := by omega
  have m1 : page / 8 < 8 := by omega
  have q1 : Hid ((IntKind.i64.wrap (page.tdiv 8)).tmod 8 = page / 8) := quo_one g0 g1
  have q2 : Hid ((IntKind.i64.wrap page).tmod 8 = page % 8) := quo_two g0 g1
  have i0 := span0
  have i1 := span1
  go_enter Try.func99, Try.ntmps99
  go_wp2
  refine wp_loop_rounds 3 ?_
  rw [rounds_succ]
  go_upto_region 5 with fail
  go_cut [11, 12] from 17 to 42 (fun s t wx => ∃ n, s = .pointer (some ⟨n, 0, none⟩) ∧ t = .int .i64 (fltR (one zs root page)) ∧ Blk wx n #[.bool (vE (one zs root page)), .bool (rE (one zs root page)), .bool (xE (one zs root page)), .bool (lE (one zs root page)), .int .i64 (pE (one zs root page))] ∧ Below (W0 w b o cap).heap.size (W0 w b o cap) wx)
  case first =>
    go_region_held3 (fun w' => w'.cell? ⟨w.heap.size, 0, none⟩ = some (.slice (some ⟨b, o, none⟩) 512 cap) ∧ Below (W0 w b o cap).heap.size (W0 w b o cap) w')
      (first | (refine W0_mem ?_; (repeat (first | with_reducible assumption | (with_reducible (refine And.right (a := _ = _) (?_ : _ ∧ _); assumption)) | with_reducible exact Below.refl _ _ | with_reducible refine W0_set5 ?_ _ _ _ _ _ | with_reducible refine Below.drew ?_ | with_reducible refine bel_drewN ?_ _ | with_reducible refine bel_alloc ?_ _ | with_reducible refine bel_trans ?_ (by assumption)))))
      (first | (go_at_call 104; rw [q1.out]; refine (wRead_any _ zs root (page / 8) _ ?_ HN.out r0 r1 m0 m1).mono ?_; (focus (refine HS.out.keep (W0_below (b := b) (o := o) (cap := cap) ?_); (repeat (first | with_reducible assumption | (with_reducible (refine And.right (a := _ = _) (?_ : _ ∧ _); assumption)) | with_reducible exact Below.refl _ _ | with_reducible refine Below.drew ?_ | with_reducible refine bel_drewN ?_ _ | with_reducible refine bel_alloc ?_ _ | with_reducible refine bel_trans ?_ (by assumption))))); rintro e w1 ⟨rfl, b1⟩; obtain ⟨c1, f1⟩ := bcell b1))
    all_goals (go_wp2_with fail; go_meet)
    · exact ⟨_, rfl, rfl, Blk.new _ _ _ _, And.right (a := _ = _) (by with_reducible assumption)⟩
    · exact ⟨_, rfl, rfl, blk_set5 (heap_kept b1 (by simp) (heap_drawn (m := 1) (heap_at (by simp)))) _ _ _ _ _, And.right (a := _ = _) (by with_reducible assumption)⟩
  case rest =>
    obtain ⟨n, rfl, rfl, K1, B1⟩ := hcut
    have HB : Hid (Below (W0 w b o cap).heap.size (W0 w b o cap) wc) := B1
    obtain ⟨c1, f1⟩ := bcell B1
    have s1 : w.heap.size + 1 < wc.heap.size := by have := B1.size; simp [W0] at this; omega
    obtain ⟨d0, d1, d2, d3, d4⟩ := K1.five
    clear B1
    by_cases hf : fltR (one zs root page) = 0
    rotate_left
    · have hq : (fltR (one zs root page) != 0) = true := by simpa using hf
      go_wp2
      refine bodyPost_ret (v := .tuple #[.agg #[.bool false, .bool false, .bool false, .bool false, .int .i64 0], .int .i64 (fltR (one zs root page))]) (by simp [results, Try.results99, go_sem, *]) rfl ⟨⟨_, _, _, _, _, _, rfl, by rw [fnd, if_neg hf]; rfl⟩, ?_⟩
      exact bel_set5 (by omega) (W0_below HB.out) _ _ _ _ _
    have hq : (fltR (one zs root page) != 0) = false := by simpa using hf
    cases hl : lE (one zs root page)
    rotate_left
    · obtain ⟨p0, p1⟩ := pE_in (one zs root page)
      have hl' : Hid (lE (one zs root page) = true) := hl
      rw [hl] at d3
      clear hl
      by_cases hp : pE (one zs root page) % 8 = 0
      · go_wp2_with fail
        refine (within_yes _ _ _ _ _ page 8 _ p0 p1 g0 g1 (.inl rfl) hp).mono ?_
        rintro e w2 ⟨rfl, b2⟩
        have B2 : Hid (Below (W0 w b o cap).heap.size (W0 w b o cap) w2) := bel_trans HB.out b2
        clear c1 f1
        obtain ⟨c1, f1⟩ := bcell B2.out
        clear b2 K1 d0 d1 d2 d3 d4 HB
        go_wp2
        refine bodyPost_ret (v := .tuple #[.agg #[.bool (vE (one zs root page)), .bool (rE (one zs root page)), .bool (xE (one zs root page)), .bool true, .int .i64 (pE (one zs root page) + page % 8)], .int .i64 0]) (by simp [results, Try.results99, go_sem, *]) rfl ⟨⟨_, _, _, _, _, _, rfl, by rw [fnd, if_pos hf, if_pos hl'.out, if_pos hp, hl'.out]⟩, ?_⟩
        exact bel_set5 (by omega) (W0_below B2.out) _ _ _ _ _
      · go_wp2_with fail
        refine (within_no _ _ _ _ _ page _ p0 p1 hp).mono ?_
        rintro e w2 ⟨rfl, b2⟩
        have B2 : Hid (Below (W0 w b o cap).heap.size (W0 w b o cap) w2) := bel_trans HB.out b2
        clear c1 f1
        obtain ⟨c1, f1⟩ := bcell B2.out
        clear b2 K1 d0 d1 d2 d3 d4 HB
        go_wp2
        refine bodyPost_ret (v := .tuple #[.agg #[.bool false, .bool false, .bool false, .bool false, .int .i64 0], .int .i64 4]) (by simp [results, Try.results99, go_sem, *]) rfl ⟨⟨_, _, _, _, _, _, rfl, by rw [fnd, if_pos hf, if_pos hl'.out, if_neg hp]; rfl⟩, ?_⟩
        exact bel_set5 (by omega) (W0_below B2.out) _ _ _ _ _
    have hl0 : ¬ lE (one zs root page) = true := by rw [hl]; decide
    have hl' : Hid (¬ lE (one zs root page) = true) := hl0
    clear hl0
    rw [hl] at d3
    clear hl
    go_wp2
    rw [rounds_succ]
    go_upto_region 5 with fail
    obtain ⟨p0, p1⟩ := pE_in (one zs root page)
    have n0 : 0 ≤ page % 8 := by omega
    have n1 : page % 8 < 8 := by omega
    go_cut [11, 12] from 17 to 42 (fun s t wx => ∃ n, s = .pointer (some ⟨n, 0, none⟩) ∧ t = .int .i64 (fltR (two zs root page)) ∧ Blk wx n #[.bool (vE (two zs root page)), .bool (rE (two zs root page)), .bool (xE (two zs root page)), .bool (lE (two zs root page)), .int .i64 (pE (two zs root page))] ∧ Below (W0 w b o cap).heap.size (W0 w b o cap) wx)
    case first =>
      have B1 := HB.out
      go_region_held3 (fun w' => w'.cell? ⟨w.heap.size, 0, none⟩ = some (.slice (some ⟨b, o, none⟩) 512 cap) ∧ Below (W0 w b o cap).heap.size (W0 w b o cap) w')
        (first | (refine W0_mem ?_; (repeat (first | with_reducible assumption | (with_reducible (refine And.right (a := _ = _) (?_ : _ ∧ _); assumption)) | with_reducible exact Below.refl _ _ | with_reducible refine W0_setn s1 ?_ _ _ _ _ _ | with_reducible refine Below.drew ?_ | with_reducible refine bel_drewN ?_ _ | with_reducible refine bel_alloc ?_ _ | with_reducible refine bel_trans ?_ (by assumption)))))
        (first | (go_at_call 104; rw [q2.out]; refine (wRead_any _ zs (pE (one zs root page)) (page % 8) _ ?_ HN.out p0 p1 n0 n1).mono ?_; (focus (refine HS.out.keep (W0_below (b := b) (o := o) (cap := cap) ?_); (repeat (first | with_reducible assumption | (with_reducible (refine And.right (a := _ = _) (?_ : _ ∧ _); assumption)) | with_reducible exact Below.refl _ _ | with_reducible refine Below.drew ?_ | with_reducible refine bel_drewN ?_ _ | with_reducible refine bel_alloc ?_ _ | with_reducible refine bel_trans ?_ (by assumption))))); rintro e w1 ⟨rfl, b1⟩; obtain ⟨c2, f2⟩ := bcell b1))
      all_goals (go_wp2_with fail; go_meet)
      · exact ⟨_, rfl, rfl, Blk.new _ _ _ _, And.right (a := _ = _) (by with_reducible assumption)⟩
      · exact ⟨_, rfl, rfl, blk_set5 (heap_kept b1 (by simp) (heap_drawn (m := 1) (heap_at (by simp)))) _ _ _ _ _, And.right (a := _ = _) (by with_reducible assumption)⟩
    case rest =>
      clear K1 d0 d1 d2 d3 d4 c1 f1 HB s1
      obtain ⟨n, rfl, rfl, K1, B1⟩ := hcut
      have HB : Hid (Below (W0 w b o cap).heap.size (W0 w b o cap) wc) := B1
      obtain ⟨c1, f1⟩ := bcell B1
      have s1 : w.heap.size + 1 < wc.heap.size := by have := B1.size; simp [W0] at this; omega
      obtain ⟨d0, d1, d2, d3, d4⟩ := K1.five
      clear B1
      by_cases hf2 : fltR (two zs root page) = 0
      rotate_left
      · have hq2 : (fltR (two zs root page) != 0) = true := by simpa using hf2
        go_wp2
        refine bodyPost_ret (v := .tuple #[.agg #[.bool false, .bool false, .bool false, .bool false, .int .i64 0], .int .i64 (fltR (two zs root page))]) (by simp [results, Try.results99, go_sem, *]) rfl ⟨⟨_, _, _, _, _, _, rfl, by rw [fnd, if_pos hf, if_neg hl'.out, if_neg hf2]; rfl⟩, ?_⟩
        exact bel_set5 (by omega) (W0_below HB.out) _ _ _ _ _
      have hq2 : (fltR (two zs root page) != 0) = false := by simpa using hf2
      cases hl2 : lE (two zs root page)
      rotate_left
      · obtain ⟨y0, y1⟩ := pE_in (two zs root page)
        have hl2' : Hid (lE (two zs root page) = true) := hl2
        have H1 : Hid (pE (two zs root page) + page % 1 = pE (two zs root page)) := by show _ = _; omega
        rw [hl2] at d3
        clear hl2
        go_wp2_with fail
        refine (within_yes _ _ _ _ _ page 1 _ y0 y1 g0 g1 (.inr rfl) (by omega)).mono ?_
        rw [H1.out]
        rintro e w2 ⟨rfl, b2⟩
        have B2 : Hid (Below (W0 w b o cap).heap.size (W0 w b o cap) w2) := bel_trans HB.out b2
        clear c1 f1
        obtain ⟨c1, f1⟩ := bcell B2.out
        clear b2 K1 d0 d1 d2 d3 d4 HB
        go_wp2
        refine bodyPost_ret (v := .tuple #[.agg #[.bool (vE (two zs root page)), .bool (rE (two zs root page)), .bool (xE (two zs root page)), .bool true, .int .i64 (pE (two zs root page))], .int .i64 0]) (by simp [results, Try.results99, go_sem, *]) rfl ⟨⟨_, _, _, _, _, _, rfl, by rw [fnd, if_pos hf, if_neg hl'.out, if_pos hf2, if_pos hl2'.out, entE, hl2'.out]⟩, ?_⟩
        exact bel_set5 (by omega) (W0_below B2.out) _ _ _ _ _
      have hl2' : ¬ lE (two zs root page) = true := by rw [hl2]; decide
      have HL : Hid _ := hl2'
      rw [hl2] at d3
      clear hl2 hl2'
      go_wp2
      rw [rounds_succ]
      go_wp2
      refine bodyPost_ret (v := .tuple #[.agg #[.bool false, .bool false, .bool false, .bool false, .int .i64 0], .int .i64 4]) (by simp [results, Try.results99, go_sem, *]) rfl ⟨⟨_, _, _, _, _, _, rfl, by rw [fnd, if_pos hf, if_neg hl'.out, if_pos hf2, if_neg HL.out]; rfl⟩, ?_⟩
      exact bel_set5 (by omega) (W0_below HB.out) _ _ _ _ _
end Go.Proofs.Ytemnklppplgcoab
