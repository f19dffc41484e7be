/-
  Package bridge: what isDev, isPage, isFences, Check, checkBoth, byLine answer; none turns memory that was there.
-/
import Derived.Test.YtemnklppplgcoabBridgeMath
import Derived.Test.YtemnklppplgcoabBox12
import Derived.Test.YtemnklppplgcoabKept
namespace Go.Proofs.Ytemnklppplgcoab
open Go.RowKit

def fenR (z : Int) : Bool := decide (0 ≤ z ∧ z < 1000)
theorem fenR_in {z : Int} (h : fenR z = true) : 0 ≤ z ∧ z < 1000 := by simpa [fenR] using h

theorem isPageB_any (z : Int) (w : World) : Calls Try.prog 50 #[.int .i64 z] w fun e w' => e = .returned (.bool (pageR z)) ∧ w' = w := by
  by_cases h1 : 0 ≤ z
  · by_cases h2 : z < 64
    · have : pageR z = true := by simp [pageR, h1, h2]
      rw [this]
      go_enter Try.func50, Try.ntmps50
      go_wp2
      go_ret
      exact ⟨rfl, rfl⟩
    · have : pageR z = false := by simp [pageR, h2]
      rw [this]
      go_enter Try.func50, Try.ntmps50
      go_wp2
      go_ret
      exact ⟨rfl, rfl⟩
  · have : pageR z = false := by simp [pageR, h1]
    rw [this]
    go_enter Try.func50, Try.ntmps50
    go_wp2
    go_ret
    exact ⟨rfl, rfl⟩
theorem isDevB_any (z : Int) (w : World) : Calls Try.prog 49 #[.int .i64 z] w fun e w' => e = .returned (.bool (stepR z)) ∧ w' = w := by
  by_cases h1 : 0 ≤ z
  · by_cases h2 : z < 8
    · have : stepR z = true := by simp [stepR, h1, h2]
      rw [this]
      go_enter Try.func49, Try.ntmps49
      go_wp2
      go_ret
      exact ⟨rfl, rfl⟩
    · have : stepR z = false := by simp [stepR, h2]
      rw [this]
      go_enter Try.func49, Try.ntmps49
      go_wp2
      go_ret
      exact ⟨rfl, rfl⟩
  · have : stepR z = false := by simp [stepR, h1]
    rw [this]
    go_enter Try.func49, Try.ntmps49
    go_wp2
    go_ret
    exact ⟨rfl, rfl⟩
theorem isFences_any (z : Int) (w : World) : Calls Try.prog 56 #[.int .i64 z] w fun e w' => e = .returned (.bool (fenR z)) ∧ w' = w := by
  by_cases h1 : 0 ≤ z
  · by_cases h2 : z < 1000
    · have : fenR z = true := by simp [fenR, h1, h2]
      rw [this]
      go_enter Try.func56, Try.ntmps56
      go_wp2
      go_ret
      exact ⟨rfl, rfl⟩
    · have : fenR z = false := by simp [fenR, h2]
      rw [this]
      go_enter Try.func56, Try.ntmps56
      go_wp2
      go_ret
      exact ⟨rfl, rfl⟩
  · have : fenR z = false := by simp [fenR, h1]
    rw [this]
    go_enter Try.func56, Try.ntmps56
    go_wp2
    go_ret
    exact ⟨rfl, rfl⟩

/-- The four ways in which the numbers of a bridge are wrong. -/
theorem rngBr_ways {b : Br} : (rngBr b = true ∧ ¬ b.mode < 0 ∧ ¬ 2 < b.mode ∧ pageR b.base = true ∧ fenR b.fen = true) ∨
    (rngBr b = false ∧ (b.mode < 0 ∨ (¬ b.mode < 0 ∧ 2 < b.mode) ∨ (¬ b.mode < 0 ∧ ¬ 2 < b.mode ∧ pageR b.base = false) ∨ (¬ b.mode < 0 ∧ ¬ 2 < b.mode ∧ pageR b.base = true ∧ fenR b.fen = false))) := by
  simp only [rngBr, pageR, fenR]
  by_cases h1 : b.mode < 0
  · exact .inr ⟨by simp; omega, .inl h1⟩
  by_cases h2 : 2 < b.mode
  · exact .inr ⟨by simp; omega, .inr (.inl ⟨h1, h2⟩)⟩
  by_cases h3 : 0 ≤ b.base ∧ b.base < 64
  · by_cases h4 : 0 ≤ b.fen ∧ b.fen < 1000
    · exact .inl ⟨by simp; omega, h1, h2, by simp [h3], by simp [h4]⟩
    · exact .inr ⟨by simp; omega, .inr (.inr (.inr ⟨h1, h2, by simp [h3], by simpa using h4⟩))⟩
  · exact .inr ⟨by simp; omega, .inr (.inr (.inl ⟨h1, h2, by simpa using h3⟩))⟩

set_option maxHeartbeats 2000000 in
theorem bCheck_any (mo ba op oh ot fe fp fh ft : Int) (st lo : Bool) (vc : Value) (l : List Ln) (w : World) (h : Ls w vc l) :
    Calls Try.prog 25 #[.agg #[.int .i64 mo, .int .i64 ba, vc, .int .i64 op, .int .i64 oh, .int .i64 ot, .bool st, .int .i64 fe, .int .i64 fp, .int .i64 fh, .int .i64 ft, .bool lo]] w fun e w' => e = .returned (.int .i64 (chkB ⟨mo, ba, l, op, oh, ot, st, fe, fp, fh, ft, lo⟩)) ∧ Below w.heap.size w w' := by
  have HS : Hid (Ls w vc l) := h
  obtain ⟨va, vk, rfl, -⟩ := h.shape
  clear h
  rcases rngBr_ways (b := ⟨mo, ba, l, op, oh, ot, st, fe, fp, fh, ft, lo⟩) with ⟨hr, h1, h2, h3, h4⟩ | ⟨hr, hw⟩
  rotate_left
  · have HE : Hid (chkB ⟨mo, ba, l, op, oh, ot, st, fe, fp, fh, ft, lo⟩ = 2) := by show _ = _; rw [chkB, hr]; rfl
    clear hr
    dsimp only at hw
    rcases hw with h1 | ⟨h1, h2⟩ | ⟨h1, h2, h3⟩ | ⟨h1, h2, h3, h4⟩
    all_goals
      go_enter Try.func25, Try.ntmps25
      go_wp2_with (first | (go_at_call 50; refine (isPageB_any _ _).mono ?_; rintro e w' ⟨rfl, rfl⟩) | (go_at_call 56; refine (isFences_any _ _).mono ?_; rintro e w' ⟨rfl, rfl⟩))
      go_ret
      exact ⟨ret_int HE.out.symm, bel_alloc (Below.refl _ _) _⟩
  dsimp only at h1 h2 h3 h4
  have HR : Hid (rngBr ⟨mo, ba, l, op, oh, ot, st, fe, fp, fh, ft, lo⟩ = true) := hr
  clear hr
  go_enter Try.func25, Try.ntmps25
  go_wp2_with (first | (go_at_call 50; refine (isPageB_any _ _).mono ?_; rintro e w' ⟨rfl, rfl⟩) | (go_at_call 56; refine (isFences_any _ _).mono ?_; rintro e w' ⟨rfl, rfl⟩))
  refine (cCheck_any _ l _ (HS.out.alloc _)).mono ?_
  rintro e w1 ⟨rfl, b1⟩
  have X0 := (Box.newAt (n := w.heap.size) rfl 44 #[.int .i64 mo, .int .i64 ba, .slice va l.length vk, .int .i64 op, .int .i64 oh, .int .i64 ot, .bool st, .int .i64 fe, .int .i64 fp, .int .i64 fh, .int .i64 ft, .bool lo]).keep b1
  have B1 : Hid (Below w.heap.size w w1) := bel_trans (bel_alloc (Below.refl _ _) _) b1
  clear b1
  obtain ⟨⟨q0, q1, q2, q3, q4, q5, q6, q7, q8, q9, q10, q11⟩, s0⟩ := X0.twelve
  by_cases hc : chkC l = 0
  rotate_left
  · have HE : Hid (chkB ⟨mo, ba, l, op, oh, ot, st, fe, fp, fh, ft, lo⟩ = chkC l) := by show _ = _; rw [chkB, if_pos HR.out, if_neg hc]
    have hq : (chkC l != 0) = true := by simpa using hc
    go_wp2
    go_ret
    exact ⟨ret_int HE.out.symm, B1.out⟩
  rw [hc]
  go_wp2_with fail
  refine (rCheck_any _ _ _ _).mono ?_
  rintro e w2 ⟨rfl, rfl⟩
  by_cases hk : chkR op oh ot = 0
  rotate_left
  · have HE : Hid (chkB ⟨mo, ba, l, op, oh, ot, st, fe, fp, fh, ft, lo⟩ = chkR op oh ot) := by show _ = _; rw [chkB, if_pos HR.out, if_pos hc, if_neg hk]
    have hq : (chkR op oh ot != 0) = true := by simpa using hk
    go_wp2
    go_ret
    exact ⟨ret_int HE.out.symm, bel_alloc B1.out _⟩
  have HE : Hid (chkB ⟨mo, ba, l, op, oh, ot, st, fe, fp, fh, ft, lo⟩ = chkR fp fh ft) := by show _ = _; rw [chkB, if_pos HR.out, if_pos hc, if_pos hk]
  rw [hk]
  go_wp2_with fail
  refine (rCheck_any _ _ _ _).mono ?_
  rintro e w2 ⟨rfl, rfl⟩
  go_wp2
  go_ret
  exact ⟨ret_int HE.out.symm, bel_alloc (bel_alloc B1.out _) _⟩

set_option maxHeartbeats 2000000 in
theorem checkBothB_any (v : Value) (zs : List Int) (mo ba op oh ot fe fp fh ft : Int) (st lo : Bool) (vc : Value) (l : List Ln) (w : World) (hs : Sl w v zs) (h : Ls w vc l) :
    Calls Try.prog 48 #[.agg #[v], .agg #[.int .i64 mo, .int .i64 ba, vc, .int .i64 op, .int .i64 oh, .int .i64 ot, .bool st, .int .i64 fe, .int .i64 fp, .int .i64 fh, .int .i64 ft, .bool lo]] w fun e w' => e = .returned (.int .i64 (bothB zs ⟨mo, ba, l, op, oh, ot, st, fe, fp, fh, ft, lo⟩)) ∧ Below w.heap.size w w' := by
  have HS : Hid (Ls w vc l) := h
  obtain ⟨va, vk, rfl, -⟩ := h.shape
  clear h
  go_enter Try.func48, Try.ntmps48
  go_wp2_with fail
  refine (check_any _ zs _ (hs.keep (bel_alloc (bel_alloc (Below.refl _ _) _) _))).mono ?_
  rintro e w1 ⟨rfl, b1⟩
  have X0 := (Box.newAt (n := w.heap.size + 1) (by simp) 44 #[.int .i64 mo, .int .i64 ba, .slice va l.length vk, .int .i64 op, .int .i64 oh, .int .i64 ot, .bool st, .int .i64 fe, .int .i64 fp, .int .i64 fh, .int .i64 ft, .bool lo]).keep b1
  have B1 : Hid (Below w.heap.size w w1) := bel_trans (bel_alloc (bel_alloc (Below.refl _ _) _) _) b1
  clear b1
  obtain ⟨⟨q0, q1, q2, q3, q4, q5, q6, q7, q8, q9, q10, q11⟩, s0⟩ := X0.twelve
  by_cases hk : chk zs = 0
  · have HE : Hid (bothB zs ⟨mo, ba, l, op, oh, ot, st, fe, fp, fh, ft, lo⟩ = chkB ⟨mo, ba, l, op, oh, ot, st, fe, fp, fh, ft, lo⟩) := if_pos hk
    rw [hk]
    go_wp2_with fail
    refine (bCheck_any mo ba op oh ot fe fp fh ft st lo (.slice va l.length vk) l _ (HS.out.keep B1.out)).mono ?_
    rintro e w2 ⟨rfl, b2⟩
    go_wp2
    go_ret
    exact ⟨ret_int HE.out.symm, bel_trans B1.out b2⟩
  · have HE : Hid (bothB zs ⟨mo, ba, l, op, oh, ot, st, fe, fp, fh, ft, lo⟩ = chk zs) := if_neg hk
    have hq : (chk zs != 0) = true := by simpa using hk
    go_wp2
    go_ret
    exact ⟨ret_int HE.out.symm, B1.out⟩

theorem byLine_any (d p a : Int) (r x wr : Bool) (w : World) :
    Calls Try.prog 75 #[.agg #[.int .i64 d, .int .i64 p, .int .i64 a, .bool r, .bool x], .bool wr] w fun e w' =>
      e = .returned (.tuple #[.int .i64 (if (wr && !x) = true then 0 else a), .int .i64 (if (wr && !x) = true then 5 else 0)]) ∧ Below w.heap.size w w' := by
  cases wr <;> cases x
  all_goals
    go_enter Try.func75, Try.ntmps75
    go_wp2
    first
      | exact bodyPost_ret (v := .tuple #[.int .i64 a, .int .i64 0]) (by simp [results, Try.results75, go_sem, *]; done) rfl ⟨rfl, bel_alloc (Below.refl _ _) _⟩
      | exact bodyPost_ret (v := .tuple #[.int .i64 0, .int .i64 5]) (by simp [results, Try.results75, go_sem, *]; done) rfl ⟨rfl, bel_alloc (Below.refl _ _) _⟩
end Go.Proofs.Ytemnklppplgcoab
