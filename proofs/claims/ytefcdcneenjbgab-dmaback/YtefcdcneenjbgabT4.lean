/-
  Laid together: FillC, Ring1, Box, Ring2, Ring3, OrderMath, WordMath.
-/
import Derived.Test.YtefcdcneenjbgabT3
import Derived.Deep.RegionHeld3
import Derived.Deep.DrawnRows
import Derived.Deep.CutRange
/-
  cache.Fill: lines with one more behind them; nothing that was there turns.
-/
namespace Go.Proofs.Ytefcdcneenjbgab
open Go.RowKit

theorem chkC_one (y : Ln) : chkC [y] = own y := by
  by_cases h : own y = 0
  · rw [h]
    refine chkC_all (by simp) fun j hj => ?_
    obtain rfl : j = 0 := by simpa using hj
    exact errL_fine (by simpa [lth] using h) (by simp [fndC])
  · exact chkC_at (j := 0) (by simp) (by simp) (fun i hi => absurd hi (Nat.not_lt_zero _)) (by rw [errL_own (by simpa [lth] using h)]; simp [lth]) h
/-- Five cells that are read, and nothing that has turned. -/
theorem keep5 {W w' : World} {n : Nat} {u0 u1 u2 u3 u4 : Value} (h0 : W.cell? ⟨n, 0, none⟩ = some u0) (h1 : W.cell? ⟨n, 1, none⟩ = some u1) (h2 : W.cell? ⟨n, 2, none⟩ = some u2) (h3 : W.cell? ⟨n, 3, none⟩ = some u3) (h4 : W.cell? ⟨n, 4, none⟩ = some u4) (hn : n < W.heap.size) (hb : Below W.heap.size W w') :
    w'.cell? ⟨n, 0, none⟩ = some u0 ∧ w'.cell? ⟨n, 1, none⟩ = some u1 ∧ w'.cell? ⟨n, 2, none⟩ = some u2 ∧ w'.cell? ⟨n, 3, none⟩ = some u3 ∧ w'.cell? ⟨n, 4, none⟩ = some u4 ∧ Below W.heap.size W w' :=
  ⟨((bcell hb).1 n 0 hn).trans h0, ((bcell hb).1 n 1 hn).trans h1, ((bcell hb).1 n 2 hn).trans h2, ((bcell hb).1 n 3 hn).trans h3, ((bcell hb).1 n 4 hn).trans h4, hb⟩
theorem limb5 {A B C D E F : Prop} (h : A ∧ B ∧ C ∧ D ∧ E ∧ F) : F := h.2.2.2.2.2

set_option maxHeartbeats 1000000 in
theorem fill_any (v : Value) (l : List Ln) (d p a : Int) (r x : Bool) (w : World) (h : Ls w v l) :
    Calls Try.prog 97 #[v, .agg #[.int .i64 d, .int .i64 p, .int .i64 a, .bool r, .bool x]] w fun e w' => (∃ v', e = .returned (.tuple #[v', .int .i64 (flE l (d, p, a, r, x))]) ∧ Ls w' v' (flC l (d, p, a, r, x)) ∧ Fresh w.heap.size v') ∧ Below w.heap.size w w' := by
  have HL : Hid (Ls w v l) := h
  obtain ⟨a0, cap, rfl, hl, hm, h⟩ := h
  unfold maxLen at hm
  go_enter Try.func97, Try.ntmps97
  go_wp2_with fail
  refine (cCheck_any _ l _ (HL.out.keep (bel_alloc (Below.refl _ _) _))).mono ?_
  rintro e w1 ⟨rfl, b1⟩
  have K1 := (Blk.new w #[.int .i64 d, .int .i64 p, .int .i64 a, .bool r, .bool x] 68 (0, 0)).keep b1
  have B1 : Hid (Below w.heap.size w w1) := bel_trans (bel_alloc (Below.refl _ _) _) b1
  clear b1
  by_cases hc : chkC l = 0
  rotate_left
  · have hq : (chkC l != 0) = true := by simpa using hc
    have HE : Hid (flE l (d, p, a, r, x) = chkC l) := by unfold flE; exact if_neg hc
    have HF : Hid (flC l (d, p, a, r, x) = []) := by unfold flC; exact if_neg (by rw [HE.out]; exact hc)
    go_wp2
    refine bodyPost_ret (v := .tuple #[.slice none 0 0, .int .i64 (chkC l)]) (by simp [results, Try.results97, go_sem]) rfl ⟨⟨_, by rw [HE.out], by rw [HF.out]; exact Ls.nothing _, Fresh.none _ _ _⟩, B1.out⟩
  rw [hc]
  obtain ⟨c0, c1, c2, c3, c4⟩ := K1.five
  have s1 := K1.lt
  go_wp2_with fail
  refine (checkLine_any d p a r x _).mono ?_
  rintro e w2 ⟨rfl, ob, rfl⟩
  have K2 := K1.past ob
  have B2 : Hid (Below w.heap.size w (w1.alloc ob)) := bel_alloc B1.out ob
  clear B1 K1 c0 c1 c2 c3 c4 s1
  obtain ⟨c0, c1, c2, c3, c4⟩ := K2.five
  have s1 := K2.lt
  generalize w1.alloc ob = w2 at *
  by_cases ho : own (d, p, a, r, x) = 0
  rotate_left
  · have hq : (own (d, p, a, r, x) != 0) = true := by simpa using ho
    have HE : Hid (flE l (d, p, a, r, x) = own (d, p, a, r, x)) := by
      unfold flE
      rw [if_pos hc, chkC_one, if_neg ho]
      rfl
    have HF : Hid (flC l (d, p, a, r, x) = []) := by unfold flC; exact if_neg (by rw [HE.out]; exact ho)
    generalize own (d, p, a, r, x) = z at *
    go_wp2
    refine bodyPost_ret (v := .tuple #[.slice none 0 0, .int .i64 z]) (by simp [results, Try.results97, go_sem]) rfl ⟨⟨_, by rw [HE.out], by rw [HF.out]; exact Ls.nothing _, Fresh.none _ _ _⟩, B2.out⟩
  rw [ho]
  go_wp2_with fail
  refine (cFind_any _ l d p _ (HL.out.keep B2.out)).mono ?_
  rintro e wx ⟨rfl, b3⟩
  have K3 := K2.keep b3
  have B3 : Hid (Below w.heap.size w wx) := bel_trans B2.out b3
  clear B2 K2 b3 c0 c1 c2 c3 c4 s1
  obtain ⟨c0, c1, c2, c3, c4⟩ := K3.five
  have s1 := K3.lt
  by_cases hf : 0 ≤ fndC l d p
  · have HE : Hid (flE l (d, p, a, r, x) = 5) := by
      unfold flE
      rw [if_pos hc, chkC_one, if_pos ho]
      exact if_pos hf
    have HF : Hid (flC l (d, p, a, r, x) = []) := by unfold flC; exact if_neg (by rw [HE.out]; decide)
    go_wp2
    refine bodyPost_ret (v := .tuple #[.slice none 0 0, .int .i64 5]) (by simp [results, Try.results97, go_sem]) rfl ⟨⟨_, by rw [HE.out], by rw [HF.out]; exact Ls.nothing _, Fresh.none _ _ _⟩, B3.out⟩
  have HE : Hid (flE l (d, p, a, r, x) = 0) := by
    unfold flE
    rw [if_pos hc, chkC_one, if_pos ho]
    exact if_neg hf
  have HF : Hid (flC l (d, p, a, r, x) = oldC l ++ [(d, p, a, r, x)]) := flC_ok HE.out
  have h6 : l.length ≤ 6 := (chkC_zero.1 hc).1
  have HT0 : Hid (Ls wx (.slice a0 l.length cap) l) := HL.out.keep B3.out
  clear HL K3
  obtain ⟨m, hm'⟩ : ∃ m, m = oldC l := ⟨_, rfl⟩
  have HM : Hid (m = oldC l) := hm'
  have hm5 : m.length ≤ 5 := by rw [hm']; exact (oldC_len h6).1
  clear hm'
  by_cases hl6 : l.length = 6
  · rcases h with rfl | ⟨b, o, rfl, hb, _⟩
    · exact absurd hl6 (by simp)
    have HT : Hid (Ls wx (.slice (some ⟨b, o + 5, none⟩) 5 (cap - 1)) m) := by
      have := HT0.out.drop (k := 1) (by omega)
      rw [HM.out, oldC, if_pos hl6]
      rw [hl6] at this
      exact this
    rw [hl6] at hl ⊢
    have z1 : (1 : Int) ≤ cap := by omega
    have z2 : (6 : Int) ≤ cap := by omega
    have z3 : ¬ cap = 1 := by omega
    have z4 : 1 ≤ cap := by omega
    go_wp2
    go_region_held3 (fun w' => w'.cell? ⟨w.heap.size, 0, none⟩ = some (.int .i64 d) ∧ w'.cell? ⟨w.heap.size, 1, none⟩ = some (.int .i64 p) ∧ w'.cell? ⟨w.heap.size, 2, none⟩ = some (.int .i64 a) ∧ w'.cell? ⟨w.heap.size, 3, none⟩ = some (.bool r) ∧ w'.cell? ⟨w.heap.size, 4, none⟩ = some (.bool x) ∧ Below wx.heap.size wx w')
      (with_reducible refine keep5 (by assumption) (by assumption) (by assumption) (by assumption) (by assumption) (by assumption) ?_; (repeat (first | with_reducible assumption | (with_reducible (refine limb5 (?_ : _ ∧ _ ∧ _ ∧ _ ∧ _ ∧ _); assumption)) | with_reducible exact Below.refl _ _ | with_reducible refine Below.drew ?_ | with_reducible refine bel_drewN ?_ _ | with_reducible refine bel_alloc ?_ _ | with_reducible refine Below.trans ?_ (by assumption))))
      (first
        | (refine step_append_L rfl (.tmp 30) (.tmp 31) rfl wx.heap.size (.slice (some ⟨_, 0, none⟩) 0 0) _ [] m rfl rfl ?_ ?_ (by first | (simp; done) | (simp; omega)) (by first | (simp; done) | (simp; omega)) (.inl ⟨_, _, _, rfl⟩) ?_; (focus (first | exact OwnL.litAt (by simp) _ (by simp) | exact (OwnL.litAt (by simp) _ (by simp)).alloc _)); (focus (first | exact HT.out.keep (bel_alloc (bel_alloc (Below.drew (Below.refl _ _)) _) _) | exact HT.out.keep (bel_alloc (Below.drew (Below.refl _ _)) _))); intro g cg w4 hown hgr hbel _)
        | (refine step_append_L rfl (.tmp 32) (.tmp 34) rfl wx.heap.size (.slice (some ⟨_, 0, none⟩) _ _) (.slice (some ⟨_, 0, none⟩) 1 1) m [(d, p, a, r, x)] rfl rfl ?_ ?_ (by simp; omega) (by have hs4 := hgr.size; simp at hs4 ⊢; omega) (.inl ⟨_, _, _, rfl⟩) ?_; (focus (first | exact hown | exact hown.alloc _)); (focus (first | exact ls_oneAt (by simp) _ _ _ _ _ _ | (refine Ls.grown ?_ hgr (by simp [Value.ownBlock]); first | exact ls_oneAt (by simp) _ _ _ _ _ _ | exact Ls.alloc (ls_oneAt (by simp) _ _ _ _ _ _) _))); intro g2 cg2 w5 hown2 _ hbel2 _))
    all_goals
      rename_i hH
      have HB5 : Hid (Below wx.heap.size wx w5) := limb5 hH
      have HO2 : Hid _ := hown2
      have HG2 : Hid (w.heap.size ≤ g2) := Nat.le_trans B3.out.size (hown2.base g2 rfl)
      clear hH hown2 hown hgr hbel hbel2
      go_wp2
      refine bodyPost_ret (v := .tuple #[.slice (some ⟨g2, 0, none⟩) (m.length + 1) cg2, .int .i64 0]) (by simp [results, Try.results97, go_sem]) rfl ⟨⟨_, by rw [HE.out], ?_, fresh_at HG2.out _ _ _⟩, bel_trans B3.out HB5.out⟩
      rw [HF.out, ← HM.out]
      simpa using OwnL.ls HO2.out
  · have hq6 : ((l.length : Int) == 6) = false := by simp; omega
    have HT : Hid (Ls wx (.slice a0 l.length cap) m) := by
      rw [HM.out, oldC, if_neg hl6]
      exact HT0.out
    go_wp2
    go_region_held3 (fun w' => w'.cell? ⟨w.heap.size, 0, none⟩ = some (.int .i64 d) ∧ w'.cell? ⟨w.heap.size, 1, none⟩ = some (.int .i64 p) ∧ w'.cell? ⟨w.heap.size, 2, none⟩ = some (.int .i64 a) ∧ w'.cell? ⟨w.heap.size, 3, none⟩ = some (.bool r) ∧ w'.cell? ⟨w.heap.size, 4, none⟩ = some (.bool x) ∧ Below wx.heap.size wx w')
      (with_reducible refine keep5 (by assumption) (by assumption) (by assumption) (by assumption) (by assumption) (by assumption) ?_; (repeat (first | with_reducible assumption | (with_reducible (refine limb5 (?_ : _ ∧ _ ∧ _ ∧ _ ∧ _ ∧ _); assumption)) | with_reducible exact Below.refl _ _ | with_reducible refine Below.drew ?_ | with_reducible refine bel_drewN ?_ _ | with_reducible refine bel_alloc ?_ _ | with_reducible refine Below.trans ?_ (by assumption))))
      (first
        | (refine step_append_L rfl (.tmp 30) (.tmp 31) rfl wx.heap.size (.slice (some ⟨_, 0, none⟩) 0 0) _ [] m rfl rfl ?_ ?_ (by first | (simp; done) | (simp; omega)) (by first | (simp; done) | (simp; omega)) (.inl ⟨_, _, _, rfl⟩) ?_; (focus (first | exact OwnL.litAt (by simp) _ (by simp) | exact (OwnL.litAt (by simp) _ (by simp)).alloc _)); (focus (first | exact HT.out.keep (bel_alloc (bel_alloc (Below.drew (Below.refl _ _)) _) _) | exact HT.out.keep (bel_alloc (Below.drew (Below.refl _ _)) _))); intro g cg w4 hown hgr hbel _)
        | (refine step_append_L rfl (.tmp 32) (.tmp 34) rfl wx.heap.size (.slice (some ⟨_, 0, none⟩) _ _) (.slice (some ⟨_, 0, none⟩) 1 1) m [(d, p, a, r, x)] rfl rfl ?_ ?_ (by simp; omega) (by have hs4 := hgr.size; simp at hs4 ⊢; omega) (.inl ⟨_, _, _, rfl⟩) ?_; (focus (first | exact hown | exact hown.alloc _)); (focus (first | exact ls_oneAt (by simp) _ _ _ _ _ _ | (refine Ls.grown ?_ hgr (by simp [Value.ownBlock]); first | exact ls_oneAt (by simp) _ _ _ _ _ _ | exact Ls.alloc (ls_oneAt (by simp) _ _ _ _ _ _) _))); intro g2 cg2 w5 hown2 _ hbel2 _))
    all_goals
      rename_i hH
      have HB5 : Hid (Below wx.heap.size wx w5) := limb5 hH
      have HO2 : Hid _ := hown2
      have HG2 : Hid (w.heap.size ≤ g2) := Nat.le_trans B3.out.size (hown2.base g2 rfl)
      clear hH hown2 hown hgr hbel hbel2
      go_wp2
      refine bodyPost_ret (v := .tuple #[.slice (some ⟨g2, 0, none⟩) (m.length + 1) cg2, .int .i64 0]) (by simp [results, Try.results97, go_sem]) rfl ⟨⟨_, by rw [HE.out], ?_, fresh_at HG2.out _ _ _⟩, bel_trans B3.out HB5.out⟩
      rw [HF.out, ← HM.out]
      simpa using OwnL.ls HO2.out
end Go.Proofs.Ytefcdcneenjbgab
/-
  Package ring: what isPage, isStep, Check, Length, place, next, checkBoth answer; none turns memory that was there.
-/
namespace Go.Proofs.Ytefcdcneenjbgab
open Go.RowKit

/-- Is it a page, a step of a ring? -/
def pageR (z : Int) : Bool := decide (0 ≤ z ∧ z < 64)
def stepR (z : Int) : Bool := decide (0 ≤ z ∧ z < 8)
/-- What Check says of a ring. -/
def chkR (p h t : Int) : Int := if pageR p = true then (if stepR h = true then (if stepR t = true then 0 else 2) else 2) else 2
/-- How many wait. -/
def lenR (h t : Int) : Int := (t - h + 8) % 8
/-- What is wrong with a memory, or a ring in it. -/
def bothR (zs : List Int) (p h t : Int) : Int := if chk zs = 0 then chkR p h t else chk zs

theorem pageR_in {z : Int} (h : pageR z = true) : 0 ≤ z ∧ z < 64 := by simpa [pageR] using h
theorem stepR_in {z : Int} (h : stepR z = true) : 0 ≤ z ∧ z < 8 := by simpa [stepR] using h
theorem chkR_ok {p h t : Int} (k : chkR p h t = 0) : pageR p = true ∧ stepR h = true ∧ stepR t = true := by
  unfold chkR at k
  by_cases a : pageR p = true
  · by_cases b : stepR h = true
    · by_cases c : stepR t = true
      · exact ⟨a, b, c⟩
      · simp [a, b, c] at k
    · simp [a, b] at k
  · simp [a] at k
theorem chkR_mk {p h t : Int} (a : pageR p = true) (b : stepR h = true) (c : stepR t = true) : chkR p h t = 0 := by simp [chkR, a, b, c]
theorem chkR_cases (p h t : Int) : chkR p h t = 0 ∨ chkR p h t = 2 := by
  unfold chkR
  by_cases a : pageR p = true
  · by_cases b : stepR h = true
    · by_cases c : stepR t = true
      · simp [a, b, c]
      · simp [a, b, c]
    · simp [a, b]
  · simp [a]
theorem lenR_in (h t : Int) : 0 ≤ lenR h t ∧ lenR h t < 8 := by unfold lenR; omega

theorem isPageR_any (z : Int) (w : World) : Calls Try.prog 100 #[.int .i64 z] w fun e w' => e = .returned (.bool (pageR z)) ∧ w' = w := by
  by_cases h1 : 0 ≤ z
  · by_cases h2 : z < 64
    · have : pageR z = true := by simp [pageR, h1, h2]
      rw [this]
      go_enter Try.func100, Try.ntmps100
      go_wp2
      go_ret
      exact ⟨rfl, rfl⟩
    · have : pageR z = false := by simp [pageR, h2]
      rw [this]
      go_enter Try.func100, Try.ntmps100
      go_wp2
      go_ret
      exact ⟨rfl, rfl⟩
  · have : pageR z = false := by simp [pageR, h1]
    rw [this]
    go_enter Try.func100, Try.ntmps100
    go_wp2
    go_ret
    exact ⟨rfl, rfl⟩
theorem isStep_any (z : Int) (w : World) : Calls Try.prog 101 #[.int .i64 z] w fun e w' => e = .returned (.bool (stepR z)) ∧ w' = w := by
  by_cases h1 : 0 ≤ z
  · by_cases h2 : z < 8
    · have : stepR z = true := by simp [stepR, h1, h2]
      rw [this]
      go_enter Try.func101, Try.ntmps101
      go_wp2
      go_ret
      exact ⟨rfl, rfl⟩
    · have : stepR z = false := by simp [stepR, h2]
      rw [this]
      go_enter Try.func101, Try.ntmps101
      go_wp2
      go_ret
      exact ⟨rfl, rfl⟩
  · have : stepR z = false := by simp [stepR, h1]
    rw [this]
    go_enter Try.func101, Try.ntmps101
    go_wp2
    go_ret
    exact ⟨rfl, rfl⟩

/-- The block of a ring that is handed in. -/
abbrev ringB (p h t : Int) : Obj := .cells #[.int .i64 p, .int .i64 h, .int .i64 t] 42

set_option maxHeartbeats 1000000 in
theorem rCheck_any (p h t : Int) (w : World) :
    Calls Try.prog 69 #[.agg #[.int .i64 p, .int .i64 h, .int .i64 t]] w fun e w' => e = .returned (.int .i64 (chkR p h t)) ∧ w' = w.alloc (ringB p h t) := by
  cases a : pageR p
  · have : chkR p h t = 2 := by simp [chkR, a]
    rw [this]
    go_enter Try.func69, Try.ntmps69
    go_wp2_with (first | (go_at_call 100; refine (isPageR_any _ _).mono ?_; rintro e w' ⟨rfl, rfl⟩) | (go_at_call 101; refine (isStep_any _ _).mono ?_; rintro e w' ⟨rfl, rfl⟩))
    go_ret
    exact ⟨rfl, rfl⟩
  cases b : stepR h
  · have : chkR p h t = 2 := by simp [chkR, a, b]
    rw [this]
    go_enter Try.func69, Try.ntmps69
    go_wp2_with (first | (go_at_call 100; refine (isPageR_any _ _).mono ?_; rintro e w' ⟨rfl, rfl⟩) | (go_at_call 101; refine (isStep_any _ _).mono ?_; rintro e w' ⟨rfl, rfl⟩))
    go_ret
    exact ⟨rfl, rfl⟩
  cases c : stepR t
  · have : chkR p h t = 2 := by simp [chkR, a, b, c]
    rw [this]
    go_enter Try.func69, Try.ntmps69
    go_wp2_with (first | (go_at_call 100; refine (isPageR_any _ _).mono ?_; rintro e w' ⟨rfl, rfl⟩) | (go_at_call 101; refine (isStep_any _ _).mono ?_; rintro e w' ⟨rfl, rfl⟩))
    go_ret
    exact ⟨rfl, rfl⟩
  have : chkR p h t = 0 := by simp [chkR, a, b, c]
  rw [this]
  go_enter Try.func69, Try.ntmps69
  go_wp2_with (first | (go_at_call 100; refine (isPageR_any _ _).mono ?_; rintro e w' ⟨rfl, rfl⟩) | (go_at_call 101; refine (isStep_any _ _).mono ?_; rintro e w' ⟨rfl, rfl⟩))
  go_ret
  exact ⟨rfl, rfl⟩

set_option maxHeartbeats 1000000 in
/-- Length of a right ring. -/
theorem length_any (p h t : Int) (w : World) (hh : 0 ≤ h ∧ h < 8) (ht : 0 ≤ t ∧ t < 8) :
    Calls Try.prog 43 #[.agg #[.int .i64 p, .int .i64 h, .int .i64 t]] w fun e w' => e = .returned (.int .i64 (lenR h t)) ∧ w' = w.alloc (ringB p h t) := by
  obtain ⟨h0, h1⟩ := hh
  obtain ⟨t0, t1⟩ := ht
  go_enter Try.func43, Try.ntmps43
  go_wp2
  go_ret
  exact ⟨rfl, rfl⟩

set_option maxHeartbeats 1000000 in
theorem place_any (p h t s : Int) (w : World) (hp : 0 ≤ p ∧ p < 64) (hs : 0 ≤ s ∧ s < 8) :
    Calls Try.prog 83 #[.agg #[.int .i64 p, .int .i64 h, .int .i64 t], .int .i64 s] w fun e w' => e = .returned (.int .i64 (p * 8 + s)) ∧ w' = w.alloc (ringB p h t) := by
  obtain ⟨h0, h1⟩ := hp
  obtain ⟨t0, t1⟩ := hs
  go_enter Try.func83, Try.ntmps83
  go_wp2
  go_ret
  exact ⟨rfl, rfl⟩

theorem next_any (s : Int) (w : World) (hs : 0 ≤ s ∧ s < 8) : Calls Try.prog 84 #[.int .i64 s] w fun e w' => e = .returned (.int .i64 ((s + 1) % 8)) ∧ w' = w := by
  obtain ⟨t0, t1⟩ := hs
  go_enter Try.func84, Try.ntmps84
  go_wp2
  go_ret
  exact ⟨rfl, rfl⟩

set_option maxHeartbeats 1000000 in
theorem checkBoth_any (v : Value) (zs : List Int) (p h t : Int) (w : World) (hs : Sl w v zs) :
    Calls Try.prog 82 #[.agg #[v], .agg #[.int .i64 p, .int .i64 h, .int .i64 t]] w fun e w' => e = .returned (.int .i64 (bothR zs p h t)) ∧ Below w.heap.size w w' := by
  go_enter Try.func82, Try.ntmps82
  go_wp2_with fail
  refine (check_any _ zs _ (hs.keep (bel_alloc (bel_alloc (Below.refl _ _) _) _))).mono ?_
  rintro e w1 ⟨rfl, b1⟩
  have K1 := (Blk.newAt (n := w.heap.size + 1) (by simp) #[.int .i64 p, .int .i64 h, .int .i64 t] 42 (0, 0)).keep b1
  obtain ⟨d0, d1, d2⟩ := K1.three
  have B1 : Hid (Below w.heap.size w w1) := bel_trans (bel_alloc (bel_alloc (Below.refl _ _) _) _) b1
  have s1 := K1.lt
  clear b1 K1
  by_cases hk : chk zs = 0
  · have HR : Hid (bothR zs p h t = chkR p h t) := by show _ = _; simp [bothR, hk]
    rw [hk]
    go_wp2_with fail
    refine (rCheck_any _ _ _ _).mono ?_
    rintro e w2 ⟨rfl, rfl⟩
    go_wp2
    go_ret
    exact ⟨ret_int HR.out.symm, bel_alloc B1.out _⟩
  · have HR : Hid (bothR zs p h t = chk zs) := by show _ = _; simp [bothR, hk]
    have hq : (chk zs != 0) = true := by simpa using hk
    go_wp2
    go_ret
    exact ⟨ret_int HR.out.symm, B1.out⟩
end Go.Proofs.Ytefcdcneenjbgab
/-
  A variable's own block: the cells it holds, none of them frozen; carried over calls, new blocks, stores.
-/
namespace Go.Proofs.Ytefcdcneenjbgab
open Go.RowKit

/-- This block holds these cells, and may be written. -/
def Box (w : World) (n : Nat) (t : TypeId) (cs : Array Value) : Prop := w.heap[n]? = some (.cells cs t (0, 0))

theorem Box.blk {w : World} {n : Nat} {t : TypeId} {cs : Array Value} (h : Box w n t cs) : Blk w n cs := ⟨t, (0, 0), h⟩
theorem Box.lt {w : World} {n : Nat} {t : TypeId} {cs : Array Value} (h : Box w n t cs) : n < w.heap.size := h.blk.lt
theorem Box.keep {w w' : World} {n : Nat} {t : TypeId} {cs : Array Value} (h : Box w n t cs) (hb : Below w.heap.size w w') : Box w' n t cs := heap_kept hb h.lt h
theorem Box.newAt {w : World} {n : Nat} (h : n = w.heap.size) (t : TypeId) (cs : Array Value) : Box (w.alloc (.cells cs t)) n t cs := heap_at h
theorem Box.past {w : World} {n : Nat} {t : TypeId} {cs : Array Value} (h : Box w n t cs) (o : Obj) : Box (w.alloc o) n t cs := heap_past h.lt h
theorem Box.cell {w : World} {n : Nat} {t : TypeId} {cs : Array Value} (h : Box w n t cs) (i : Nat) : w.cell? ⟨n, i, none⟩ = cs[i]? := h.blk.cell i
theorem Box.frozen {w : World} {n : Nat} {t : TypeId} {cs : Array Value} (h : Box w n t cs) (i : Nat) : w.frozen? ⟨n, i, none⟩ = false := frozen_of_row w n _ _ _ h
theorem Box.set {w : World} {n : Nat} {t : TypeId} {cs : Array Value} (h : Box w n t cs) (i : Nat) (u : Value) : Box (w.setCell ⟨n, i, none⟩ u) n t (cs.setIfInBounds i u) := heap_setCell_same w n i cs t u h
theorem Box.other {w : World} {n : Nat} {t : TypeId} {cs : Array Value} (h : Box w n t cs) {p : Addr} (hp : n ≠ p.block) (u : Value) : Box (w.setCell p u) n t cs := by
  unfold Box; rw [heap_setCell_other w p n u hp]; exact h
theorem Box.drew {w : World} {n : Nat} {t : TypeId} {cs : Array Value} (h : Box w n t cs) : Box w.drew n t cs := h
theorem Box.drewN {w : World} {n : Nat} {t : TypeId} {cs : Array Value} (h : Box w n t cs) (k : Nat) : Box (w.drewN k) n t cs := h
/-- One cell, three cells, with their marks. -/
theorem Box.one {w : World} {n : Nat} {t : TypeId} {a : Value} (h : Box w n t #[a]) : w.cell? ⟨n, 0, none⟩ = some a ∧ w.frozen? ⟨n, 0, none⟩ = false ∧ n < w.heap.size := ⟨h.cell 0, h.frozen 0, h.lt⟩
theorem Box.three {w : World} {n : Nat} {t : TypeId} {a b c : Value} (h : Box w n t #[a, b, c]) :
    w.cell? ⟨n, 0, none⟩ = some a ∧ w.cell? ⟨n, 1, none⟩ = some b ∧ w.cell? ⟨n, 2, none⟩ = some c ∧ w.frozen? ⟨n, 0, none⟩ = false ∧ w.frozen? ⟨n, 1, none⟩ = false ∧ w.frozen? ⟨n, 2, none⟩ = false ∧ n < w.heap.size :=
  ⟨h.cell 0, h.cell 1, h.cell 2, h.frozen 0, h.frozen 1, h.frozen 2, h.lt⟩
theorem Box.set1 {w : World} {n : Nat} {t : TypeId} {a : Value} (h : Box w n t #[a]) (u : Value) : Box (w.setCell ⟨n, 0, none⟩ u) n t #[u] := h.set 0 u
theorem Box.set3 {w : World} {n : Nat} {t : TypeId} {a b c : Value} (h : Box w n t #[a, b, c]) (u0 u1 u2 : Value) :
    Box (((w.setCell ⟨n, 0, none⟩ u0).setCell ⟨n, 1, none⟩ u1).setCell ⟨n, 2, none⟩ u2) n t #[u0, u1, u2] := ((h.set 0 u0).set 1 u1).set 2 u2
theorem Box.other3 {w : World} {n m : Nat} {t : TypeId} {cs : Array Value} (h : Box w n t cs) (hp : n ≠ m) (u0 u1 u2 : Value) :
    Box (((w.setCell ⟨m, 0, none⟩ u0).setCell ⟨m, 1, none⟩ u1).setCell ⟨m, 2, none⟩ u2) n t cs :=
  ((h.other (p := ⟨m, 0, none⟩) hp u0).other (p := ⟨m, 1, none⟩) hp u1).other (p := ⟨m, 2, none⟩) hp u2
theorem bel_set3 {a w : World} {n : Nat} (hp : a.heap.size ≤ n) (h : Below a.heap.size a w) (u0 u1 u2 : Value) :
    Below a.heap.size a (((w.setCell ⟨n, 0, none⟩ u0).setCell ⟨n, 1, none⟩ u1).setCell ⟨n, 2, none⟩ u2) :=
  ((h.setCell (p := ⟨n, 0, none⟩) hp u0).setCell (p := ⟨n, 1, none⟩) hp u1).setCell (p := ⟨n, 2, none⟩) hp u2
theorem bel_set1 {a w : World} {n : Nat} (hp : a.heap.size ≤ n) (h : Below a.heap.size a w) (u0 : Value) : Below a.heap.size a (w.setCell ⟨n, 0, none⟩ u0) := h.setCell (p := ⟨n, 0, none⟩) hp u0
/-- Four cells. -/
theorem Box.four {w : World} {n : Nat} {t : TypeId} {a b c d : Value} (h : Box w n t #[a, b, c, d]) :
    w.cell? ⟨n, 0, none⟩ = some a ∧ w.cell? ⟨n, 1, none⟩ = some b ∧ w.cell? ⟨n, 2, none⟩ = some c ∧ w.cell? ⟨n, 3, none⟩ = some d ∧ w.frozen? ⟨n, 0, none⟩ = false ∧ w.frozen? ⟨n, 1, none⟩ = false ∧ w.frozen? ⟨n, 2, none⟩ = false ∧ w.frozen? ⟨n, 3, none⟩ = false ∧ n < w.heap.size :=
  ⟨h.cell 0, h.cell 1, h.cell 2, h.cell 3, h.frozen 0, h.frozen 1, h.frozen 2, h.frozen 3, h.lt⟩
theorem Box.set4 {w : World} {n : Nat} {t : TypeId} {a b c d : Value} (h : Box w n t #[a, b, c, d]) (u0 u1 u2 u3 : Value) :
    Box ((((w.setCell ⟨n, 0, none⟩ u0).setCell ⟨n, 1, none⟩ u1).setCell ⟨n, 2, none⟩ u2).setCell ⟨n, 3, none⟩ u3) n t #[u0, u1, u2, u3] := (((h.set 0 u0).set 1 u1).set 2 u2).set 3 u3
theorem bel_set4 {a w : World} {n : Nat} (hp : a.heap.size ≤ n) (h : Below a.heap.size a w) (u0 u1 u2 u3 : Value) :
    Below a.heap.size a ((((w.setCell ⟨n, 0, none⟩ u0).setCell ⟨n, 1, none⟩ u1).setCell ⟨n, 2, none⟩ u2).setCell ⟨n, 3, none⟩ u3) :=
  (bel_set3 hp h u0 u1 u2).setCell (p := ⟨n, 3, none⟩) hp u3
end Go.Proofs.Ytefcdcneenjbgab
/-
  ring.Push: a memory of its own with a word more in the ring, and the ring then; nothing that was there turns.
-/
namespace Go.Proofs.Ytefcdcneenjbgab
open Go.RowKit

/-- What Push answers: the error, the words, the ring. -/
def psE (zs : List Int) (p h t x : Int) : Int := if bothR zs p h t = 0 then (if wordB x = true then (if lenR h t = 7 then 1 else 0) else 2) else bothR zs p h t
def psM (zs : List Int) (p h t x : Int) : List Int := if psE zs p h t x = 0 then zs.set (p * 8 + t).toNat x else []
def psR (zs : List Int) (p h t x : Int) : Int × Int × Int := if psE zs p h t x = 0 then (p, h, (t + 1) % 8) else (0, 0, 0)

theorem bothR_ok {zs : List Int} {p h t : Int} (k : bothR zs p h t = 0) : chk zs = 0 ∧ chkR p h t = 0 := by
  unfold bothR at k
  by_cases hk : chk zs = 0
  · rw [if_pos hk] at k; exact ⟨hk, k⟩
  · rw [if_neg hk] at k; exact absurd k hk
theorem bothR_mk {zs : List Int} {p h t : Int} (a : chk zs = 0) (b : chkR p h t = 0) : bothR zs p h t = 0 := by rw [bothR, if_pos a, b]
theorem place_ok {p t : Int} (hp : pageR p = true) (ht : stepR t = true) : placeB (p * 8 + t) = true := by
  obtain ⟨a, b⟩ := pageR_in hp
  obtain ⟨c, d⟩ := stepR_in ht
  simp [placeB]; omega

/-- Four cells that are read, and nothing that has turned. -/
theorem keep31 {W w' : World} {m n : Nat} {v u0 u1 u2 : Value} (hv : W.cell? ⟨m, 0, none⟩ = some v) (h0 : W.cell? ⟨n, 0, none⟩ = some u0) (h1 : W.cell? ⟨n, 1, none⟩ = some u1) (h2 : W.cell? ⟨n, 2, none⟩ = some u2) (hm : m < W.heap.size) (hn : n < W.heap.size) (hb : Below W.heap.size W w') :
    w'.cell? ⟨m, 0, none⟩ = some v ∧ w'.cell? ⟨n, 0, none⟩ = some u0 ∧ w'.cell? ⟨n, 1, none⟩ = some u1 ∧ w'.cell? ⟨n, 2, none⟩ = some u2 ∧ Below W.heap.size W w' :=
  ⟨((bcell hb).1 m 0 hm).trans hv, ((bcell hb).1 n 0 hn).trans h0, ((bcell hb).1 n 1 hn).trans h1, ((bcell hb).1 n 2 hn).trans h2, hb⟩
theorem limb4 {A B C D E : Prop} (h : A ∧ B ∧ C ∧ D ∧ E) : E := h.2.2.2.2

set_option maxHeartbeats 2000000 in
theorem push_any (v : Value) (zs : List Int) (p h t x : Int) (w : World) (hs : Sl w v zs) :
    Calls Try.prog 74 #[.agg #[v], .agg #[.int .i64 p, .int .i64 h, .int .i64 t], .int .i64 x] w fun e w' =>
      (∃ v' p' h' t', e = .returned (.tuple #[.agg #[v'], .agg #[.int .i64 p', .int .i64 h', .int .i64 t'], .int .i64 (psE zs p h t x)]) ∧ Sl w' v' (psM zs p h t x) ∧ Fresh w.heap.size v' ∧ psR zs p h t x = (p', h', t')) ∧ Below w.heap.size w w' := by
  obtain ⟨a0, c0, rfl⟩ := hs.shape
  go_enter Try.func74, Try.ntmps74
  go_wp2_with fail
  refine (checkBoth_any _ zs p h t _ (hs.keep (bel_alloc (bel_alloc (bel_alloc (bel_alloc (Below.refl _ _) _) _) _) _))).mono ?_
  rintro e w1 ⟨rfl, b1⟩
  have X0 := (((Box.newAt (n := w.heap.size) (by simp) 39 #[.slice a0 zs.length c0]).past (.cells #[.int .i64 p, .int .i64 h, .int .i64 t] 42)).past (.cells #[.slice none 0 0] 39)).past (.cells #[.int .i64 0, .int .i64 0, .int .i64 0] 42) |>.keep b1
  have X1 := ((Box.newAt (w := w.alloc (.cells #[.slice a0 zs.length c0] 39)) (n := w.heap.size + 1) (by simp) 42 #[.int .i64 p, .int .i64 h, .int .i64 t]).past _).past _ |>.keep b1
  have X2 := (Box.newAt (n := w.heap.size + 1 + 1) (by simp) 39 #[.slice none 0 0]).past _ |>.keep b1
  have X3 := (Box.newAt (n := w.heap.size + 1 + 1 + 1) (by simp) 42 #[.int .i64 0, .int .i64 0, .int .i64 0]) |>.keep b1
  have B1 : Hid (Below w.heap.size w w1) := bel_trans (bel_alloc (bel_alloc (bel_alloc (bel_alloc (Below.refl _ _) _) _) _) _) b1
  clear b1
  obtain ⟨q0, -, s0⟩ := X0.one
  obtain ⟨q1, q2, q3, z1, z2, z3, s1⟩ := X1.three
  obtain ⟨y0, y1, s2⟩ := X2.one
  obtain ⟨u0, u1, u2, g0, g1, g2, s3⟩ := X3.three
  by_cases hk : bothR zs p h t = 0
  rotate_left
  · have hq : (bothR zs p h t != 0) = true := by simpa using hk
    have HE : Hid (psE zs p h t x = bothR zs p h t) := if_neg hk
    have HF : Hid (psM zs p h t x = []) := if_neg (by rw [HE.out]; exact hk)
    have HG : Hid (psR zs p h t x = (0, 0, 0)) := if_neg (by rw [HE.out]; exact hk)
    go_wp2
    refine bodyPost_ret (v := .tuple #[.agg #[.slice none 0 0], .agg #[.int .i64 0, .int .i64 0, .int .i64 0], .int .i64 (bothR zs p h t)]) (by simp [results, Try.results74, go_sem, *]) rfl ⟨⟨_, _, _, _, by rw [HE.out], by rw [HF.out]; exact Sl.nil _ _ _, Fresh.none _ _ _, HG.out⟩, ?_⟩
    exact bel_set3 (by omega) (bel_set1 (by omega) B1.out _) _ _ _
  obtain ⟨hz, hr⟩ := bothR_ok hk
  obtain ⟨rp, rh, rt⟩ := chkR_ok hr
  have hpl := place_ok rp rt
  have Rp := pageR_in rp
  have Rh := stepR_in rh
  have Rt := stepR_in rt
  rw [hk]
  have HZ : Hid (Sl w1 (.slice a0 zs.length c0) zs) := hs.keep B1.out
  go_upto_region 4 with fail
  go_cut [10, 11] from 20 to 29 (fun s u wx => ∃ n a c, s = .pointer (some ⟨n, 0, none⟩) ∧ u = .int .i64 (wrE zs (p * 8 + t) x) ∧ Box wx n 39 #[.slice a (wrM zs (p * 8 + t) x).length c] ∧ Sl wx (.slice a (wrM zs (p * 8 + t) x).length c) (wrM zs (p * 8 + t) x) ∧ Fresh w1.heap.size (.slice a (wrM zs (p * 8 + t) x).length c) ∧ w1.heap.size ≤ n ∧ Below w1.heap.size w1 wx)
  case first =>
    go_region_held3 (fun w' => w'.cell? ⟨w.heap.size, 0, none⟩ = some (.slice a0 zs.length c0) ∧ w'.cell? ⟨w.heap.size + 1, 0, none⟩ = some (.int .i64 p) ∧ w'.cell? ⟨w.heap.size + 1, 1, none⟩ = some (.int .i64 h) ∧ w'.cell? ⟨w.heap.size + 1, 2, none⟩ = some (.int .i64 t) ∧ Below w1.heap.size w1 w')
      (with_reducible refine keep31 (by assumption) (by assumption) (by assumption) (by assumption) (by assumption) (by assumption) ?_; (repeat (first | with_reducible assumption | (with_reducible (refine limb4 (?_ : _ ∧ _ ∧ _ ∧ _ ∧ _); assumption)) | with_reducible exact Below.refl _ _ | with_reducible refine Below.drew ?_ | with_reducible refine bel_drewN ?_ _ | with_reducible refine bel_alloc ?_ _ | (with_reducible refine bel_set1 ?_ ?_ _; (focus (first | (simp; done) | (simp; omega) | omega))) | with_reducible refine bel_trans ?_ (by assumption))))
      (first
        | (go_at_call 83; refine (place_any p h t t _ Rp Rt).mono ?_; rintro e w2 ⟨rfl, rfl⟩)
        | (go_at_call 107; refine (write_anyN _ zs (p * 8 + t) x _ ?_).mono ?_; (focus (refine HZ.out.keep ?_; (repeat (first | with_reducible assumption | (with_reducible (refine limb4 (?_ : _ ∧ _ ∧ _ ∧ _ ∧ _); assumption)) | with_reducible exact Below.refl _ _ | with_reducible refine Below.drew ?_ | with_reducible refine bel_drewN ?_ _ | with_reducible refine bel_alloc ?_ _ | (with_reducible refine bel_set1 ?_ ?_ _; (focus (first | (simp; done) | (simp; omega) | omega))) | with_reducible refine bel_trans ?_ (by assumption))))); rintro e w3 ⟨v3, rfl, h3, n3, b3⟩; obtain ⟨a3, c3, rfl⟩ := h3.shape; obtain ⟨c3, f3⟩ := bcell b3))
    all_goals (go_wp2_with fail; go_meet)
    · have z3 := b3.size
      exact ⟨_, _, _, rfl, rfl, Box.newAt rfl _ _, h3.keep (bel_alloc (Below.refl _ _) _), n3.mono (by simp), by simp at z3; omega, limb4 (by with_reducible assumption)⟩
    · have K := (Box.newAt (w := w1.alloc (ringB p h t)) (n := w1.heap.size + 1) (by simp) 39 #[.slice none 0 0]).drew.keep b3
      exact ⟨_, _, _, rfl, rfl, K.set1 _, h3.setSlice (K.cell 0) _, n3.mono (by simp; omega), by omega, limb4 (by with_reducible assumption)⟩
    · have K := ((Box.newAt (w := w1) (n := w1.heap.size) rfl 39 #[.slice none 0 0]).past (ringB p h t)).drew.keep b3
      exact ⟨_, _, _, rfl, rfl, K.set1 _, h3.setSlice (K.cell 0) _, n3.mono (by simp; omega), by omega, limb4 (by with_reducible assumption)⟩
  case rest =>
    obtain ⟨n, a3, c3, rfl, rfl, XN, HN, NN, hn, Bc⟩ := hcut
    have NF : Hid (Fresh w1.heap.size (.slice a3 (wrM zs (p * 8 + t) x).length c3)) := NN
    have NW : Hid (w.heap.size + 1 + 1 + 1 < w1.heap.size) := s3
    clear NN
    have X1 := X1.keep Bc
    have X2 := X2.keep Bc
    have X3 := X3.keep Bc
    have BC : Hid (Below w.heap.size w wc) := bel_trans B1.out Bc
    clear Bc B1 X0 q0 q1 q2 q3 z1 z2 z3 y0 y1 u0 u1 u2 g0 g1 g2 s0 s1 s2 s3 HZ
    obtain ⟨q1, q2, q3, z1, z2, z3, s1⟩ := X1.three
    obtain ⟨y0, y1, s2⟩ := X2.one
    obtain ⟨u0, u1, u2, g0, g1, g2, s3⟩ := X3.three
    obtain ⟨n0, -, sn⟩ := XN.one
    cases hx : wordB x
    · have HE : Hid (psE zs p h t x = 2) := by show _ = _; simp [psE, hk, hx]
      have HF : Hid (psM zs p h t x = []) := if_neg (by rw [HE.out]; decide)
      have HG : Hid (psR zs p h t x = (0, 0, 0)) := if_neg (by rw [HE.out]; decide)
      have e2 : wrE zs (p * 8 + t) x = 2 := by simp [wrE, hz, hpl, hx]
      rw [e2]
      go_wp2
      refine bodyPost_ret (v := .tuple #[.agg #[.slice none 0 0], .agg #[.int .i64 0, .int .i64 0, .int .i64 0], .int .i64 2]) (by simp [results, Try.results74, go_sem, *]) rfl ⟨⟨_, _, _, _, by rw [HE.out], by rw [HF.out]; exact Sl.nil _ _ _, Fresh.none _ _ _, HG.out⟩, ?_⟩
      exact bel_set3 (by omega) (bel_set1 (by omega) BC.out _) _ _ _
    have e2 : wrE zs (p * 8 + t) x = 0 := by simp [wrE, hz, hpl, hx]
    have m2 : wrM zs (p * 8 + t) x = zs.set (p * 8 + t).toNat x := wrM_ok hz hpl hx
    rw [e2]
    generalize wrM zs (p * 8 + t) x = zn at *
    have MZ : Hid (zn = zs.set (p * 8 + t).toNat x) := m2
    clear m2 e2
    go_wp2_with fail
    refine (length_any p h t _ Rh Rt).mono ?_
    rintro e w4 ⟨rfl, rfl⟩
    by_cases hl : lenR h t = 7
    · have HE : Hid (psE zs p h t x = 1) := by show _ = _; simp [psE, hk, hx, hl]
      have HF : Hid (psM zs p h t x = []) := if_neg (by rw [HE.out]; decide)
      have HG : Hid (psR zs p h t x = (0, 0, 0)) := if_neg (by rw [HE.out]; decide)
      rw [hl]
      go_wp2
      refine bodyPost_ret (v := .tuple #[.agg #[.slice none 0 0], .agg #[.int .i64 0, .int .i64 0, .int .i64 0], .int .i64 1]) (by simp [results, Try.results74, go_sem, *]) rfl ⟨⟨_, _, _, _, by rw [HE.out], by rw [HF.out]; exact Sl.nil _ _ _, Fresh.none _ _ _, HG.out⟩, ?_⟩
      (repeat (first | with_reducible exact BC.out | with_reducible refine bel_alloc ?_ _ | (with_reducible refine bel_set ?_ ?_ _; (focus (dsimp only; omega)))))
    have HE : Hid (psE zs p h t x = 0) := by show _ = _; simp [psE, hk, hx, hl]
    have HF : Hid (psM zs p h t x = zs.set (p * 8 + t).toNat x) := if_pos HE.out
    have HG : Hid (psR zs p h t x = (p, h, (t + 1) % 8)) := if_pos HE.out
    have hq : (lenR h t == 7) = false := by simpa using hl
    go_wp2_with fail
    refine (next_any t _ Rt).mono ?_
    rintro e w5 ⟨rfl, rfl⟩
    go_wp2
    go_region
    go_wp2
    refine bodyPost_ret (v := .tuple #[.agg #[.slice a3 zn.length c3], .agg #[.int .i64 p, .int .i64 h, .int .i64 ((t + 1) % 8)], .int .i64 0]) (by simp [results, Try.results74, go_sem, *]) rfl ⟨⟨_, _, _, _, by rw [HE.out], ?_, NF.out.mono (by have := NW.out; omega), HG.out⟩, ?_⟩
    · rw [HF.out, ← MZ.out]
      refine Sl.keep ?_ (Below.drew (bel_alloc (Below.refl _ _) _))
      refine Sl.setOther (Sl.setOther (Sl.setOther (Sl.setOther (Sl.setOther HN ?_ _) ?_ _) ?_ _) ?_ _) ?_ _ <;> (have := NW.out; exact NF.out.ne (by dsimp only; omega))
    · refine Below.drew (bel_alloc ?_ _)
      (repeat (first | with_reducible exact BC.out | with_reducible refine bel_alloc ?_ _ | (with_reducible refine bel_set ?_ ?_ _; (focus (dsimp only; omega)))))
end Go.Proofs.Ytefcdcneenjbgab
/-
  ring.Pop: the word that waits longest, and the ring without it; nothing that was there turns.
-/
namespace Go.Proofs.Ytefcdcneenjbgab
open Go.RowKit

/-- What Pop answers: the error, the word, the ring. -/
def ppE (zs : List Int) (p h t : Int) : Int := if bothR zs p h t = 0 then (if h = t then 6 else 0) else bothR zs p h t
def ppV (zs : List Int) (p h t : Int) : Int := if ppE zs p h t = 0 then nth zs (p * 8 + h).toNat else 0
def ppR (zs : List Int) (p h t : Int) : Int × Int × Int := if ppE zs p h t = 0 then (p, (h + 1) % 8, t) else (0, 0, 0)

theorem lenR_zero {h t : Int} (hh : 0 ≤ h ∧ h < 8) (ht : 0 ≤ t ∧ t < 8) : lenR h t = 0 ↔ h = t := by unfold lenR; omega

/-- Five cells that are read, and nothing that has turned. -/
theorem keep32 {W w' : World} {m n b o : Nat} {v u0 u1 u2 u3 : Value} (hv : W.cell? ⟨m, 0, none⟩ = some v) (h0 : W.cell? ⟨n, 0, none⟩ = some u0) (h1 : W.cell? ⟨n, 1, none⟩ = some u1) (h2 : W.cell? ⟨n, 2, none⟩ = some u2) (h3 : W.cell? ⟨b, o, none⟩ = some u3) (hm : m < W.heap.size) (hn : n < W.heap.size) (ho : b < W.heap.size) (hb : Below W.heap.size W w') :
    w'.cell? ⟨m, 0, none⟩ = some v ∧ w'.cell? ⟨n, 0, none⟩ = some u0 ∧ w'.cell? ⟨n, 1, none⟩ = some u1 ∧ w'.cell? ⟨n, 2, none⟩ = some u2 ∧ w'.cell? ⟨b, o, none⟩ = some u3 ∧ Below W.heap.size W w' :=
  ⟨((bcell hb).1 m 0 hm).trans hv, ((bcell hb).1 n 0 hn).trans h0, ((bcell hb).1 n 1 hn).trans h1, ((bcell hb).1 n 2 hn).trans h2, ((bcell hb).1 b o ho).trans h3, hb⟩
theorem limbV {A B C D E F : Prop} (h : A ∧ B ∧ C ∧ D ∧ E ∧ F) : F := h.2.2.2.2.2

set_option maxHeartbeats 2000000 in
theorem pop_any (v : Value) (zs : List Int) (p h t : Int) (w : World) (hs : Sl w v zs) :
    Calls Try.prog 45 #[.agg #[v], .agg #[.int .i64 p, .int .i64 h, .int .i64 t]] w fun e w' =>
      (∃ p' h' t', e = .returned (.tuple #[.int .i64 (ppV zs p h t), .agg #[.int .i64 p', .int .i64 h', .int .i64 t'], .int .i64 (ppE zs p h t)]) ∧ ppR zs p h t = (p', h', t')) ∧ Below w.heap.size w w' := by
  obtain ⟨a0, c0, rfl⟩ := hs.shape
  go_enter Try.func45, Try.ntmps45
  go_wp2_with fail
  refine (checkBoth_any _ zs p h t _ (hs.keep (bel_alloc (bel_alloc (bel_alloc (Below.refl _ _) _) _) _))).mono ?_
  rintro e w1 ⟨rfl, b1⟩
  have X0 := ((Box.newAt (n := w.heap.size) (by simp) 39 #[.slice a0 zs.length c0]).past (.cells #[.int .i64 p, .int .i64 h, .int .i64 t] 42)).past (.cells #[.int .i64 0, .int .i64 0, .int .i64 0] 42) |>.keep b1
  have X1 := (Box.newAt (w := w.alloc (.cells #[.slice a0 zs.length c0] 39)) (n := w.heap.size + 1) (by simp) 42 #[.int .i64 p, .int .i64 h, .int .i64 t]).past _ |>.keep b1
  have X3 := (Box.newAt (n := w.heap.size + 1 + 1) (by simp) 42 #[.int .i64 0, .int .i64 0, .int .i64 0]) |>.keep b1
  have B1 : Hid (Below w.heap.size w w1) := bel_trans (bel_alloc (bel_alloc (bel_alloc (Below.refl _ _) _) _) _) b1
  clear b1
  obtain ⟨q0, -, s0⟩ := X0.one
  obtain ⟨q1, q2, q3, z1, z2, z3, s1⟩ := X1.three
  obtain ⟨u0, u1, u2, g0, g1, g2, s3⟩ := X3.three
  by_cases hk : bothR zs p h t = 0
  rotate_left
  · have hq : (bothR zs p h t != 0) = true := by simpa using hk
    have HE : Hid (ppE zs p h t = bothR zs p h t) := if_neg hk
    have HF : Hid (ppV zs p h t = 0) := if_neg (by rw [HE.out]; exact hk)
    have HG : Hid (ppR zs p h t = (0, 0, 0)) := if_neg (by rw [HE.out]; exact hk)
    go_wp2
    refine bodyPost_ret (v := .tuple #[.int .i64 0, .agg #[.int .i64 0, .int .i64 0, .int .i64 0], .int .i64 (bothR zs p h t)]) (by simp [results, Try.results45, go_sem, *]) rfl ⟨⟨_, _, _, by rw [HE.out, HF.out], HG.out⟩, ?_⟩
    exact bel_set3 (by omega) B1.out _ _ _
  obtain ⟨hz, hr⟩ := bothR_ok hk
  obtain ⟨rp, rh, rt⟩ := chkR_ok hr
  have hpl := place_ok rp rh
  have Rp := pageR_in rp
  have Rh := stepR_in rh
  have Rt := stepR_in rt
  have HL : Hid (lenR h t = 0 ↔ h = t) := lenR_zero Rh Rt
  rw [hk]
  go_wp2_with fail
  refine (length_any p h t _ Rh Rt).mono ?_
  rintro e w4 ⟨rfl, rfl⟩
  by_cases hl : lenR h t = 0
  · have he := HL.out.1 hl
    have HE : Hid (ppE zs p h t = 6) := by show _ = _; rw [ppE, if_pos hk, if_pos he]
    have HF : Hid (ppV zs p h t = 0) := if_neg (by rw [HE.out]; decide)
    have HG : Hid (ppR zs p h t = (0, 0, 0)) := if_neg (by rw [HE.out]; decide)
    clear he
    rw [hl]
    go_wp2
    refine bodyPost_ret (v := .tuple #[.int .i64 0, .agg #[.int .i64 0, .int .i64 0, .int .i64 0], .int .i64 6]) (by simp [results, Try.results45, go_sem, *]) rfl ⟨⟨_, _, _, by rw [HE.out, HF.out], HG.out⟩, ?_⟩
    (repeat (first | with_reducible exact B1.out | with_reducible refine bel_alloc ?_ _ | (with_reducible refine bel_set ?_ ?_ _; (focus (dsimp only; omega)))))
  have hne : ¬ h = t := fun e => hl (HL.out.2 e)
  have HE : Hid (ppE zs p h t = 0) := by show _ = _; rw [ppE, if_pos hk, if_neg hne]
  have HF : Hid (ppV zs p h t = nth zs (p * 8 + h).toNat) := if_pos HE.out
  have HG : Hid (ppR zs p h t = (p, (h + 1) % 8, t)) := if_pos HE.out
  have hq : (lenR h t == 0) = false := by simpa using hl
  clear hne
  have X0 := X0.past (ringB p h t)
  have X1 := X1.past (ringB p h t)
  have X3 := X3.past (ringB p h t)
  have B4 : Hid (Below w.heap.size w (w1.alloc (ringB p h t))) := bel_alloc B1.out _
  have hl512 : zs.length = 512 := (chk_ok hz).1
  obtain ⟨b, o, cap, he, hb, hc⟩ := (hs.keep B4.out).open512 hl512
  simp only [Value.slice.injEq] at he
  obtain ⟨rfl, hll, rfl⟩ := he
  obtain ⟨p0, p1⟩ := Rp
  obtain ⟨h0, h1⟩ := Rh
  have gk := hc (p * 8 + h).toNat (by omega)
  have k0 : 0 ≤ p * 8 + h := by omega
  have k1 : p * 8 + h < (zs.length : Int) := by omega
  clear q0 q1 q2 q3 z1 z2 z3 u0 u1 u2 g0 g1 g2 s0 s1 s3 hc B1
  obtain ⟨q0, -, s0⟩ := X0.one
  obtain ⟨q1, q2, q3, z1, z2, z3, s1⟩ := X1.three
  obtain ⟨u0, u1, u2, g0, g1, g2, s3⟩ := X3.three
  have HL5 : Hid (zs.length = 512) := hl512
  clear hl512 hll
  go_upto_region 6 with fail
  generalize w1.alloc (ringB p h t) = W at *
  go_cut [8] from 20 to 27 (fun s wx => s = .int .i64 (nth zs (p * 8 + h).toNat) ∧ Below W.heap.size W wx)
  case first =>
    go_region_held3 (fun w' => w'.cell? ⟨w.heap.size, 0, none⟩ = some (.slice (some ⟨b, o, none⟩) zs.length c0) ∧ w'.cell? ⟨w.heap.size + 1, 0, none⟩ = some (.int .i64 p) ∧ w'.cell? ⟨w.heap.size + 1, 1, none⟩ = some (.int .i64 h) ∧ w'.cell? ⟨w.heap.size + 1, 2, none⟩ = some (.int .i64 t) ∧ w'.cell? ⟨b, o + (p * 8 + h).toNat, none⟩ = some (.int .i64 (nth zs (p * 8 + h).toNat)) ∧ Below W.heap.size W w')
      (with_reducible refine keep32 (by assumption) (by assumption) (by assumption) (by assumption) (by assumption) (by assumption) (by assumption) (by assumption) ?_; (repeat (first | with_reducible assumption | (with_reducible (refine limbV (?_ : _ ∧ _ ∧ _ ∧ _ ∧ _ ∧ _); assumption)) | with_reducible exact Below.refl _ _ | with_reducible refine Below.drew ?_ | with_reducible refine bel_drewN ?_ _ | with_reducible refine bel_alloc ?_ _ | (with_reducible refine bel_set1 ?_ ?_ _; (focus (first | (simp; done) | (simp; omega) | omega))) | with_reducible refine bel_trans ?_ (by assumption))))
      (first
        | (go_at_call 83; refine (place_any p h t h _ ⟨p0, p1⟩ ⟨h0, h1⟩).mono ?_; rintro e w2 ⟨rfl, rfl⟩))
    all_goals (go_wp2_with fail; go_meet)
    exact ⟨rfl, Below.drew (bel_alloc (Below.refl _ _) _)⟩
  case rest =>
    obtain ⟨rfl, Bc⟩ := hcut
    have X1 := X1.keep Bc
    have X3 := X3.keep Bc
    have BC : Hid (Below w.heap.size w wc) := bel_trans B4.out Bc
    clear Bc B4 X0 q0 q1 q2 q3 z1 z2 z3 u0 u1 u2 g0 g1 g2 s0 s1 s3 gk hb
    obtain ⟨q1, q2, q3, z1, z2, z3, s1⟩ := X1.three
    obtain ⟨u0, u1, u2, g0, g1, g2, s3⟩ := X3.three
    generalize nth zs (p * 8 + h).toNat = y at *
    go_wp2_with fail
    refine (next_any h _ ⟨h0, h1⟩).mono ?_
    rintro e w5 ⟨rfl, rfl⟩
    go_wp2
    go_region
    go_wp2
    refine bodyPost_ret (v := .tuple #[.int .i64 y, .agg #[.int .i64 p, .int .i64 ((h + 1) % 8), .int .i64 t], .int .i64 0]) (by simp [results, Try.results45, go_sem, *]) rfl ⟨⟨_, _, _, by rw [HE.out, HF.out], HG.out⟩, ?_⟩
    refine Below.drew ?_
    (repeat (first | with_reducible exact BC.out | with_reducible refine bel_alloc ?_ _ | (with_reducible refine bel_set ?_ ?_ _; (focus (dsimp only; omega)))))

/-- Pop of what waits, and of nothing. -/
theorem pop_ok {v : Value} {zs : List Int} {p h t : Int} {w : World} (hs : Sl w v zs) (hz : chk zs = 0) (hr : chkR p h t = 0) (hne : ¬ h = t) :
    Calls Try.prog 45 #[.agg #[v], .agg #[.int .i64 p, .int .i64 h, .int .i64 t]] w fun e w' =>
      e = .returned (.tuple #[.int .i64 (nth zs (p * 8 + h).toNat), .agg #[.int .i64 p, .int .i64 ((h + 1) % 8), .int .i64 t], .int .i64 0]) ∧ Below w.heap.size w w' := by
  refine (pop_any v zs p h t w hs).mono ?_
  rintro e w' ⟨⟨p', h', t', rfl, hR⟩, hb⟩
  have e0 : ppE zs p h t = 0 := by rw [ppE, if_pos (bothR_mk hz hr), if_neg hne]
  rw [ppR, if_pos e0] at hR
  simp only [Prod.mk.injEq] at hR
  obtain ⟨rfl, rfl, rfl⟩ := hR
  rw [ppV, if_pos e0, e0]
  exact ⟨rfl, hb⟩
theorem pop_none {v : Value} {zs : List Int} {p h : Int} {w : World} (hs : Sl w v zs) (hz : chk zs = 0) (hr : chkR p h h = 0) :
    Calls Try.prog 45 #[.agg #[v], .agg #[.int .i64 p, .int .i64 h, .int .i64 h]] w fun e w' =>
      e = .returned (.tuple #[.int .i64 0, .agg #[.int .i64 0, .int .i64 0, .int .i64 0], .int .i64 6]) ∧ Below w.heap.size w w' := by
  refine (pop_any v zs p h h w hs).mono ?_
  rintro e w' ⟨⟨p', h', t', rfl, hR⟩, hb⟩
  have e0 : ppE zs p h h = 6 := by rw [ppE, if_pos (bothR_mk hz hr), if_pos rfl]
  rw [ppR, if_neg (by rw [e0]; decide)] at hR
  simp only [Prod.mk.injEq] at hR
  obtain ⟨rfl, rfl, rfl⟩ := hR
  rw [ppV, if_neg (by rw [e0]; decide), e0]
  exact ⟨rfl, hb⟩
/-- Push where there is room, and where there is none. -/
theorem push_ok {v : Value} {zs : List Int} {p h t x : Int} {w : World} (hs : Sl w v zs) (hz : chk zs = 0) (hr : chkR p h t = 0) (hx : wordB x = true) (hl : ¬ lenR h t = 7) :
    Calls Try.prog 74 #[.agg #[v], .agg #[.int .i64 p, .int .i64 h, .int .i64 t], .int .i64 x] w fun e w' =>
      ∃ v', e = .returned (.tuple #[.agg #[v'], .agg #[.int .i64 p, .int .i64 h, .int .i64 ((t + 1) % 8)], .int .i64 0]) ∧ Sl w' v' (zs.set (p * 8 + t).toNat x) ∧ Fresh w.heap.size v' ∧ Below w.heap.size w w' := by
  refine (push_any v zs p h t x w hs).mono ?_
  rintro e w' ⟨⟨v', p', h', t', rfl, hS, hF, hR⟩, hb⟩
  have e0 : psE zs p h t x = 0 := by rw [psE, if_pos (bothR_mk hz hr), if_pos hx, if_neg hl]
  rw [psR, if_pos e0] at hR
  simp only [Prod.mk.injEq] at hR
  obtain ⟨rfl, rfl, rfl⟩ := hR
  rw [psM, if_pos e0] at hS
  rw [e0]
  exact ⟨v', rfl, hS, hF, hb⟩
theorem push_full {v : Value} {zs : List Int} {p h t x : Int} {w : World} (hs : Sl w v zs) (hz : chk zs = 0) (hr : chkR p h t = 0) (hx : wordB x = true) (hl : lenR h t = 7) :
    Calls Try.prog 74 #[.agg #[v], .agg #[.int .i64 p, .int .i64 h, .int .i64 t], .int .i64 x] w fun e w' =>
      ∃ a c, e = .returned (.tuple #[.agg #[.slice a 0 c], .agg #[.int .i64 0, .int .i64 0, .int .i64 0], .int .i64 1]) ∧ Below w.heap.size w w' := by
  refine (push_any v zs p h t x w hs).mono ?_
  rintro e w' ⟨⟨v', p', h', t', rfl, hS, hF, hR⟩, hb⟩
  have e0 : psE zs p h t x = 1 := by rw [psE, if_pos (bothR_mk hz hr), if_pos hx, if_pos hl]
  rw [psR, if_neg (by rw [e0]; decide)] at hR
  simp only [Prod.mk.injEq] at hR
  obtain ⟨rfl, rfl, rfl⟩ := hR
  rw [psM, if_neg (by rw [e0]; decide)] at hS
  obtain ⟨a, c, rfl⟩ := hS.shape
  rw [e0]
  exact ⟨a, c, rfl, hb⟩
end Go.Proofs.Ytefcdcneenjbgab
/-
  What waits in a ring, as a list: numbers alone.
-/
namespace Go.Proofs.Ytefcdcneenjbgab
open Go.RowKit

/-- The place of a ring's step, so many steps behind its head. -/
def stp (p h : Int) (i : Nat) : Nat := (p * 8 + (h + (i : Int)) % 8).toNat
/-- The first so many words from the head on. -/
def wl (zs : List Int) (p h : Int) (n : Nat) : List Int := (List.range n).map (fun i => nth zs (stp p h i))
/-- These words lie in the ring, from the head on. -/
def Lies (zs : List Int) (p h : Int) (ws : List Int) : Prop := ∀ i, i < ws.length → nth zs (stp p h i) = nth ws i

theorem wl_len (zs : List Int) (p h : Int) (n : Nat) : (wl zs p h n).length = n := by simp [wl]
theorem wl_zero (zs : List Int) (p h : Int) : wl zs p h 0 = [] := rfl
theorem wl_succ (zs : List Int) (p h : Int) (n : Nat) : wl zs p h (n + 1) = wl zs p h n ++ [nth zs (stp p h n)] := by simp [wl, List.range_succ]
theorem wl_lies (zs : List Int) (p h : Int) (n : Nat) : Lies zs p h (wl zs p h n) := by
  intro i hi
  rw [wl_len] at hi
  simp [wl, nth, hi]
theorem stp_lt {p h : Int} (hp : 0 ≤ p ∧ p < 64) (i : Nat) : stp p h i < 512 := by unfold stp; omega
theorem stp_ne {p h : Int} (hp : 0 ≤ p ∧ p < 64) {i j : Nat} (hij : i < j) (hj : j < 8) : stp p h j ≠ stp p h i := by unfold stp; omega
theorem lies_push {zs ws : List Int} {p h x : Int} (hl : zs.length = 512) (hp : 0 ≤ p ∧ p < 64) (h7 : ws.length < 8) (hw : Lies zs p h ws) : Lies (zs.set (stp p h ws.length) x) p h (ws ++ [x]) := by
  intro i hi
  simp at hi
  by_cases e : i < ws.length
  · rw [nth_set_other (stp_ne hp e h7), hw i e]
    simp [nth, List.getElem?_append_left e]
  · obtain rfl : i = ws.length := by omega
    rw [nth_set_same (by rw [hl]; exact stp_lt hp _)]
    simp [nth]

/-- A ring's tail and length behind so many steps. -/
theorem len_steps {h : Int} {n : Nat} (hn : n < 8) : lenR h ((h + (n : Int)) % 8) = n := by unfold lenR; omega
theorem step_in (h : Int) (n : Nat) : stepR ((h + (n : Int)) % 8) = true := by simp [stepR]; omega
theorem step_next (h : Int) (n : Nat) : ((h + (n : Int)) % 8 + 1) % 8 = (h + ((n + 1 : Nat) : Int)) % 8 := by omega
theorem step_zero {h : Int} (hh : 0 ≤ h ∧ h < 8) : (h + ((0 : Nat) : Int)) % 8 = h := by omega
theorem step_tail {h t : Int} (ht : 0 ≤ t ∧ t < 8) : (h + ((lenR h t).toNat : Int)) % 8 = t := by unfold lenR; omega
theorem step_ne {h : Int} {i j : Nat} (hij : i < j) (hj : j < 8) : ¬ (h + (i : Int)) % 8 = (h + (j : Int)) % 8 := by omega
theorem stp_place (p h : Int) (n : Nat) : (p * 8 + (h + (n : Int)) % 8).toNat = stp p h n := rfl
end Go.Proofs.Ytefcdcneenjbgab
/-
  Orders and faults as words: numbers alone.
-/
namespace Go.Proofs.Ytefcdcneenjbgab
open Go.RowKit

/-- What is wrong with an order; its word. -/
def oE (k d p : Int) : Int := if (0 ≤ k ∧ k ≤ 3) ∧ (0 ≤ d ∧ d ≤ 7) ∧ (0 ≤ p ∧ p ≤ 63) then (if (0 < d ∧ k < 2) ∨ (0 < p ∧ k < 3) then 3 else 0) else 2
def oW (k d p : Int) : Int := if oE k d p = 0 then k + 4 * d + 32 * p else 0
/-- A word that is read as an order. -/
def roE (w : Int) : Int := if 0 ≤ w ∧ w ≤ 65535 then (if oE (w % 4) (w / 4 % 8) (w / 32) = 0 then 0 else 3) else 2
def roO (w : Int) : Int × Int × Int := if roE w = 0 then (w % 4, w / 4 % 8, w / 32) else (0, 0, 0)

theorem oE_cases (k d p : Int) : oE k d p = 0 ∨ oE k d p = 2 ∨ oE k d p = 3 := by
  unfold oE; split
  · split
    · exact .inr (.inr rfl)
    · exact .inl rfl
  · exact .inr (.inl rfl)
theorem oE_ok {k d p : Int} (h : oE k d p = 0) : (0 ≤ k ∧ k ≤ 3) ∧ (0 ≤ d ∧ d ≤ 7) ∧ (0 ≤ p ∧ p ≤ 63) ∧ ¬ (0 < d ∧ k < 2) ∧ ¬ (0 < p ∧ k < 3) := by
  unfold oE at h
  split at h
  · rename_i h1
    split at h
    · exact absurd h (by decide)
    · rename_i h2
      exact ⟨h1.1, h1.2.1, h1.2.2, fun x => h2 (.inl x), fun x => h2 (.inr x)⟩
  · exact absurd h (by decide)
theorem oE_mk {k d p : Int} (h1 : 0 ≤ k ∧ k ≤ 3) (h2 : 0 ≤ d ∧ d ≤ 7) (h3 : 0 ≤ p ∧ p ≤ 63) (h4 : ¬ (0 < d ∧ k < 2)) (h5 : ¬ (0 < p ∧ k < 3)) : oE k d p = 0 := by
  unfold oE; rw [if_pos ⟨h1, h2, h3⟩, if_neg (fun h => h.elim h4 h5)]
theorem oW_ok {k d p : Int} (h : oE k d p = 0) : oW k d p = k + 4 * d + 32 * p := if_pos h
theorem roE_ok {w : Int} (h : roE w = 0) : (0 ≤ w ∧ w ≤ 65535) ∧ oE (w % 4) (w / 4 % 8) (w / 32) = 0 := by
  unfold roE at h
  split at h
  · rename_i h1
    split at h
    · rename_i h2; exact ⟨h1, h2⟩
    · exact absurd h (by decide)
  · exact absurd h (by decide)
theorem roE_mk {w : Int} (h1 : 0 ≤ w ∧ w ≤ 65535) (h2 : oE (w % 4) (w / 4 % 8) (w / 32) = 0) : roE w = 0 := by unfold roE; rw [if_pos h1, if_pos h2]

/-- What is put is read; what is read is put as it was; unlike ones have unlike words. -/
theorem o_back {k d p : Int} (h : oE k d p = 0) : roE (oW k d p) = 0 ∧ roO (oW k d p) = (k, d, p) := by
  obtain ⟨h1, h2, h3, h4, h5⟩ := oE_ok h
  have e1 : oW k d p % 4 = k := by rw [oW_ok h]; omega
  have e2 : oW k d p / 4 % 8 = d := by rw [oW_ok h]; omega
  have e3 : oW k d p / 32 = p := by rw [oW_ok h]; omega
  have hr : roE (oW k d p) = 0 := roE_mk (by rw [oW_ok h]; omega) (by rw [e1, e2, e3]; exact h)
  exact ⟨hr, by rw [roO, if_pos hr, e1, e2, e3]⟩
theorem o_read {w k d p : Int} (h : roE w = 0) (e : roO w = (k, d, p)) : oE k d p = 0 ∧ oW k d p = w := by
  obtain ⟨h1, h2⟩ := roE_ok h
  rw [roO, if_pos h] at e
  simp only [Prod.mk.injEq] at e
  obtain ⟨rfl, rfl, rfl⟩ := e
  exact ⟨h2, by rw [oW_ok h2]; omega⟩
theorem o_like {k d p k' d' p' : Int} (h : oE k d p = 0) (h' : oE k' d' p' = 0) : oW k d p = oW k' d' p' ↔ k = k' ∧ d = d' ∧ p = p' := by
  constructor
  · intro e
    have a := (o_back h).2
    rw [e, (o_back h').2] at a
    simp only [Prod.mk.injEq] at a
    exact ⟨a.1.symm, a.2.1.symm, a.2.2.symm⟩
  · rintro ⟨rfl, rfl, rfl⟩; rfl

/-- What is wrong with a fault; its word. -/
def fE (c d p : Int) : Int := if (1 ≤ c ∧ c ≤ 5) ∧ (0 ≤ d ∧ d ≤ 7) ∧ (0 ≤ p ∧ p ≤ 63) then 0 else 2
def fX (x : Bool) : Int := if x = true then 4096 else 0
def fW (c d p : Int) (x : Bool) : Int := if fE c d p = 0 then c + 8 * d + 64 * p + fX x else 0
/-- A word that is read as a fault. -/
def rfE (w : Int) : Int := if 0 ≤ w ∧ w ≤ 65535 then (if fE (w % 8) (w / 8 % 8) (w / 64 % 64) = 0 ∧ w < 8192 then 0 else 3) else 2
def rfF (w : Int) : Int × Int × Int × Bool := if rfE w = 0 then (w % 8, w / 8 % 8, w / 64 % 64, decide (w / 4096 = 1)) else (0, 0, 0, false)

theorem fE_ok {c d p : Int} (h : fE c d p = 0) : (1 ≤ c ∧ c ≤ 5) ∧ (0 ≤ d ∧ d ≤ 7) ∧ (0 ≤ p ∧ p ≤ 63) := by
  unfold fE at h; split at h
  · rename_i h1; exact h1
  · exact absurd h (by decide)
theorem fE_mk {c d p : Int} (h1 : 1 ≤ c ∧ c ≤ 5) (h2 : 0 ≤ d ∧ d ≤ 7) (h3 : 0 ≤ p ∧ p ≤ 63) : fE c d p = 0 := if_pos ⟨h1, h2, h3⟩
theorem fE_cases (c d p : Int) : fE c d p = 0 ∨ fE c d p = 2 := by
  unfold fE; split
  · exact .inl rfl
  · exact .inr rfl
theorem fW_ok {c d p : Int} {x : Bool} (h : fE c d p = 0) : fW c d p x = c + 8 * d + 64 * p + fX x := if_pos h
theorem fX_cases (x : Bool) : (x = true ∧ fX x = 4096) ∨ (x = false ∧ fX x = 0) := by cases x <;> simp [fX]
theorem rfE_ok {w : Int} (h : rfE w = 0) : (0 ≤ w ∧ w ≤ 65535) ∧ fE (w % 8) (w / 8 % 8) (w / 64 % 64) = 0 ∧ w < 8192 := by
  unfold rfE at h
  split at h
  · rename_i h1
    split at h
    · rename_i h2; exact ⟨h1, h2⟩
    · exact absurd h (by decide)
  · exact absurd h (by decide)
theorem rfE_mk {w : Int} (h1 : 0 ≤ w ∧ w ≤ 65535) (h2 : fE (w % 8) (w / 8 % 8) (w / 64 % 64) = 0) (h3 : w < 8192) : rfE w = 0 := by unfold rfE; rw [if_pos h1, if_pos ⟨h2, h3⟩]
theorem f_back {c d p : Int} {x : Bool} (h : fE c d p = 0) : rfE (fW c d p x) = 0 ∧ rfF (fW c d p x) = (c, d, p, x) := by
  obtain ⟨h1, h2, h3⟩ := fE_ok h
  obtain ⟨w, hw⟩ : ∃ w, fW c d p x = w := ⟨_, rfl⟩
  have ew := fW_ok (x := x) h
  rw [hw] at ew ⊢
  have hx := fX_cases x
  have e1 : w % 8 = c := by rcases hx with ⟨_, hx⟩ | ⟨_, hx⟩ <;> rw [hx] at ew <;> omega
  have e2 : w / 8 % 8 = d := by rcases hx with ⟨_, hx⟩ | ⟨_, hx⟩ <;> rw [hx] at ew <;> omega
  have e3 : w / 64 % 64 = p := by rcases hx with ⟨_, hx⟩ | ⟨_, hx⟩ <;> rw [hx] at ew <;> omega
  have e4 : decide (w / 4096 = 1) = x := by
    rcases hx with ⟨hb, hx⟩ | ⟨hb, hx⟩
    · rw [hx] at ew; rw [hb]; exact decide_eq_true (by omega)
    · rw [hx] at ew; rw [hb]; exact decide_eq_false (by omega)
  have hr : rfE w = 0 := rfE_mk (by rcases hx with ⟨_, hx⟩ | ⟨_, hx⟩ <;> rw [hx] at ew <;> omega) (by rw [e1, e2, e3]; exact h) (by rcases hx with ⟨_, hx⟩ | ⟨_, hx⟩ <;> rw [hx] at ew <;> omega)
  exact ⟨hr, by rw [rfF, if_pos hr, e1, e2, e3, e4]⟩
theorem f_read {w c d p : Int} {x : Bool} (h : rfE w = 0) (e : rfF w = (c, d, p, x)) : fE c d p = 0 ∧ fW c d p x = w := by
  obtain ⟨h1, h2, h3⟩ := rfE_ok h
  rw [rfF, if_pos h] at e
  simp only [Prod.mk.injEq] at e
  obtain ⟨rfl, rfl, rfl, rfl⟩ := e
  refine ⟨h2, ?_⟩
  rw [fW_ok h2]
  by_cases hx : w / 4096 = 1
  · rw [show decide (w / 4096 = 1) = true from decide_eq_true hx, show fX true = 4096 from rfl]; omega
  · rw [show decide (w / 4096 = 1) = false from decide_eq_false hx, show fX false = 0 from rfl]; omega
end Go.Proofs.Ytefcdcneenjbgab
