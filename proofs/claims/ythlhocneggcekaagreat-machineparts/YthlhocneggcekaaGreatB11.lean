/-
  Laid together: Bridge1, MachS, CopyB.
-/
import Derived.Test.YthlhocneggcekaaGreatB1
import Derived.Test.YthlhocneggcekaaGreatB2
import Derived.Test.YthlhocneggcekaaGreatB3
import Derived.Test.YthlhocneggcekaaGreatB4
import Derived.Test.YthlhocneggcekaaGreatB5
import Derived.Test.YthlhocneggcekaaGreatB6
import Derived.Test.YthlhocneggcekaaGreatB7
import Derived.Test.YthlhocneggcekaaGreatB8
import Derived.Test.YthlhocneggcekaaGreatB9
import Derived.Test.YthlhocneggcekaaGreatB10
import Derived.Deep.RegionHeld3
import Derived.Maps.OwnOps
import Derived.Maps.OwnSet
import Derived.Test.YthlhocneggcekaaGreatRows
import Derived.WalkKit
import Derived.WalkSpells
import Derived.WalkLawsBesides
import Derived.Below
import Derived.WalkSmall
import Derived.Deep.QuietTactic
import Derived.BigQuiet
import Derived.Deep.Draws
import Derived.Deep.AppendLies
import Derived.Deep.RegionWith
import Derived.LoopN
import Derived.Deep.CutRange
import Derived.Deep.DrawnRows
import Derived.Laws.CopyOwn
import Derived.Deep.RegionHeld
namespace Go.Proofs.YthlhocneggcekaaGreat
open Go.RowKit
def fenR (z : Int) : Bool := decide (0 ≤ z ∧ z < 1000)
theorem isPageB_any (z : Int) (w : World) : Calls Tryz.prog 73 #[J z] w fun e w' => e = .returned (.bool (pageR z)) ∧ w' = w := by
  by_cases h1 : 0 ≤ z
  · by_cases h2 : z < 64
    · have : pageR z = true := by simp [pageR, h1, h2]
      rw [this]
      go_enter Tryz.func73, Tryz.ntmps73
      go_wp2
      go_ret
      exact ⟨rfl, rfl⟩
    · have : pageR z = false := by simp [pageR, h2]
      rw [this]
      go_enter Tryz.func73, Tryz.ntmps73
      go_wp2
      go_ret
      exact ⟨rfl, rfl⟩
  · have : pageR z = false := by simp [pageR, h1]
    rw [this]
    go_enter Tryz.func73, Tryz.ntmps73
    go_wp2
    go_ret
    exact ⟨rfl, rfl⟩
theorem isDevB_any (z : Int) (w : World) : Calls Tryz.prog 86 #[J z] w fun e w' => e = .returned (.bool (stepR z)) ∧ w' = w := by
  by_cases h1 : 0 ≤ z
  · by_cases h2 : z < 8
    · have : stepR z = true := by simp [stepR, h1, h2]
      rw [this]
      go_enter Tryz.func86, Tryz.ntmps86
      go_wp2
      go_ret
      exact ⟨rfl, rfl⟩
    · have : stepR z = false := by simp [stepR, h2]
      rw [this]
      go_enter Tryz.func86, Tryz.ntmps86
      go_wp2
      go_ret
      exact ⟨rfl, rfl⟩
  · have : stepR z = false := by simp [stepR, h1]
    rw [this]
    go_enter Tryz.func86, Tryz.ntmps86
    go_wp2
    go_ret
    exact ⟨rfl, rfl⟩
theorem isFences_any (z : Int) (w : World) : Calls Tryz.prog 74 #[J z] w fun e w' => e = .returned (.bool (fenR z)) ∧ w' = w := by
  by_cases h1 : 0 ≤ z
  · by_cases h2 : z < 1000
    · have : fenR z = true := by simp [fenR, h1, h2]
      rw [this]
      go_enter Tryz.func74, Tryz.ntmps74
      go_wp2
      go_ret
      exact ⟨rfl, rfl⟩
    · have : fenR z = false := by simp [fenR, h2]
      rw [this]
      go_enter Tryz.func74, Tryz.ntmps74
      go_wp2
      go_ret
      exact ⟨rfl, rfl⟩
  · have : fenR z = false := by simp [fenR, h1]
    rw [this]
    go_enter Tryz.func74, Tryz.ntmps74
    go_wp2
    go_ret
    exact ⟨rfl, rfl⟩
theorem rngBr_ways {b : Br} : (rngBr b = true ∧ ¬ b.mode < 0 ∧ ¬ 2 < b.mode ∧ pageR b.base = true ∧ fenR b.fen = true) ∨
    (rngBr b = false ∧ (b.mode < 0 ∨ (¬ b.mode < 0 ∧ 2 < b.mode) ∨ (¬ b.mode < 0 ∧ ¬ 2 < b.mode ∧ pageR b.base = false) ∨ (¬ b.mode < 0 ∧ ¬ 2 < b.mode ∧ pageR b.base = true ∧ fenR b.fen = false))) := by
  simp only [rngBr, pageR, fenR]
  by_cases h1 : b.mode < 0
  · exact .inr ⟨by simp; omega, .inl h1⟩
  by_cases h2 : 2 < b.mode
  · exact .inr ⟨by simp; omega, .inr (.inl ⟨h1, h2⟩)⟩
  by_cases h3 : 0 ≤ b.base ∧ b.base < 64
  · by_cases h4 : 0 ≤ b.fen ∧ b.fen < 1000
    · exact .inl ⟨by simp; omega, h1, h2, by simp [h3], by simp [h4]⟩
    · exact .inr ⟨by simp; omega, .inr (.inr (.inr ⟨h1, h2, by simp [h3], by simpa using h4⟩))⟩
  · exact .inr ⟨by simp; omega, .inr (.inr (.inl ⟨h1, h2, by simpa using h3⟩))⟩
set_option maxHeartbeats 2000000 in
theorem bCheck_any (mo ba op oh ot fe fp fh ft : Int) (st lo : Bool) (vc : Value) (l : List Ln) (w : World) (h : Ls w vc l) :
    Calls Tryz.prog 43 #[.agg #[J mo, J ba, vc, J op, J oh, J ot, .bool st, J fe, J fp, J fh, J ft, .bool lo]] w fun e w' => e = .returned (J (chkB ⟨mo, ba, l, op, oh, ot, st, fe, fp, fh, ft, lo⟩)) ∧ Below w.heap.size w w' := by
  have HS : Hid (Ls w vc l) := h
  obtain ⟨va, vk, rfl, -⟩ := h.shape
  clear h
  rcases rngBr_ways (b := ⟨mo, ba, l, op, oh, ot, st, fe, fp, fh, ft, lo⟩) with ⟨hr, h1, h2, h3, h4⟩ | ⟨hr, hw⟩
  rotate_left
  · have HE : Hid (chkB ⟨mo, ba, l, op, oh, ot, st, fe, fp, fh, ft, lo⟩ = 2) := by show _ = _; rw [chkB, hr]; rfl
    clear hr
    dsimp only at hw
    rcases hw with h1 | ⟨h1, h2⟩ | ⟨h1, h2, h3⟩ | ⟨h1, h2, h3, h4⟩
    all_goals
      go_enter Tryz.func43, Tryz.ntmps43
      go_wp2_with (first | (go_at_call 73; refine (isPageB_any _ _).mono ?_; rintro e w' ⟨rfl, rfl⟩) | (go_at_call 74; refine (isFences_any _ _).mono ?_; rintro e w' ⟨rfl, rfl⟩))
      go_ret
      exact ⟨ret_int HE.out.symm, bel_alloc (Below.refl _ _) _⟩
  dsimp only at h1 h2 h3 h4
  have HR : Hid (rngBr ⟨mo, ba, l, op, oh, ot, st, fe, fp, fh, ft, lo⟩ = true) := hr
  clear hr
  go_enter Tryz.func43, Tryz.ntmps43
  go_wp2_with (first | (go_at_call 73; refine (isPageB_any _ _).mono ?_; rintro e w' ⟨rfl, rfl⟩) | (go_at_call 74; refine (isFences_any _ _).mono ?_; rintro e w' ⟨rfl, rfl⟩))
  refine (cCheck_any _ l _ (HS.out.alloc _)).mono ?_
  rintro e w1 ⟨rfl, b1⟩
  have X0 := (Box.newAt (n := w.heap.size) rfl 31 #[J mo, J ba, .slice va l.length vk, J op, J oh, J ot, .bool st, J fe, J fp, J fh, J ft, .bool lo]).keep b1
  have B1 : Hid (Below w.heap.size w w1) := bel_trans (bel_alloc (Below.refl _ _) _) b1
  clear b1
  obtain ⟨⟨q0, q1, q2, q3, q4, q5, q6, q7, q8, q9, q10, q11⟩, s0⟩ := X0.twelve
  by_cases hc : chkC l = 0
  rotate_left
  · have HE : Hid (chkB ⟨mo, ba, l, op, oh, ot, st, fe, fp, fh, ft, lo⟩ = chkC l) := by show _ = _; rw [chkB, if_pos HR.out, if_neg hc]
    have hq : (chkC l != 0) = true := by simpa using hc
    go_wp2
    go_ret
    exact ⟨ret_int HE.out.symm, B1.out⟩
  rw [hc]
  go_wp2_with fail
  refine (rCheck_any _ _ _ _).mono ?_
  rintro e w2 ⟨rfl, rfl⟩
  by_cases hk : chkR op oh ot = 0
  rotate_left
  · have HE : Hid (chkB ⟨mo, ba, l, op, oh, ot, st, fe, fp, fh, ft, lo⟩ = chkR op oh ot) := by show _ = _; rw [chkB, if_pos HR.out, if_pos hc, if_neg hk]
    have hq : (chkR op oh ot != 0) = true := by simpa using hk
    go_wp2
    go_ret
    exact ⟨ret_int HE.out.symm, bel_alloc B1.out _⟩
  have HE : Hid (chkB ⟨mo, ba, l, op, oh, ot, st, fe, fp, fh, ft, lo⟩ = chkR fp fh ft) := by show _ = _; rw [chkB, if_pos HR.out, if_pos hc, if_pos hk]
  rw [hk]
  go_wp2_with fail
  refine (rCheck_any _ _ _ _).mono ?_
  rintro e w2 ⟨rfl, rfl⟩
  go_wp2
  go_ret
  exact ⟨ret_int HE.out.symm, bel_alloc (bel_alloc B1.out _) _⟩
set_option maxHeartbeats 2000000 in
theorem checkBothB_any (v : Value) (zs : List Int) (mo ba op oh ot fe fp fh ft : Int) (st lo : Bool) (vc : Value) (l : List Ln) (w : World) (hs : Sl w v zs) (h : Ls w vc l) :
    Calls Tryz.prog 85 #[.agg #[v], .agg #[J mo, J ba, vc, J op, J oh, J ot, .bool st, J fe, J fp, J fh, J ft, .bool lo]] w fun e w' => e = .returned (J (bothB zs ⟨mo, ba, l, op, oh, ot, st, fe, fp, fh, ft, lo⟩)) ∧ Below w.heap.size w w' := by
  have HS : Hid (Ls w vc l) := h
  obtain ⟨va, vk, rfl, -⟩ := h.shape
  clear h
  go_enter Tryz.func85, Tryz.ntmps85
  go_wp2_with fail
  refine (check_any _ zs _ (hs.keep (bel_alloc (bel_alloc (Below.refl _ _) _) _))).mono ?_
  rintro e w1 ⟨rfl, b1⟩
  have X0 := (Box.newAt (n := w.heap.size + 1) (by simp) 31 #[J mo, J ba, .slice va l.length vk, J op, J oh, J ot, .bool st, J fe, J fp, J fh, J ft, .bool lo]).keep b1
  have B1 : Hid (Below w.heap.size w w1) := bel_trans (bel_alloc (bel_alloc (Below.refl _ _) _) _) b1
  clear b1
  obtain ⟨⟨q0, q1, q2, q3, q4, q5, q6, q7, q8, q9, q10, q11⟩, s0⟩ := X0.twelve
  by_cases hk : chk zs = 0
  · have HE : Hid (bothB zs ⟨mo, ba, l, op, oh, ot, st, fe, fp, fh, ft, lo⟩ = chkB ⟨mo, ba, l, op, oh, ot, st, fe, fp, fh, ft, lo⟩) := if_pos hk
    rw [hk]
    go_wp2_with fail
    refine (bCheck_any mo ba op oh ot fe fp fh ft st lo (.slice va l.length vk) l _ (HS.out.keep B1.out)).mono ?_
    rintro e w2 ⟨rfl, b2⟩
    go_wp2
    go_ret
    exact ⟨ret_int HE.out.symm, bel_trans B1.out b2⟩
  · have HE : Hid (bothB zs ⟨mo, ba, l, op, oh, ot, st, fe, fp, fh, ft, lo⟩ = chk zs) := if_neg hk
    have hq : (chk zs != 0) = true := by simpa using hk
    go_wp2
    go_ret
    exact ⟨ret_int HE.out.symm, B1.out⟩
theorem byLine_any (d p a : Int) (r x wr : Bool) (w : World) :
    Calls Tryz.prog 121 #[.agg #[J d, J p, J a, .bool r, .bool x], .bool wr] w fun e w' =>
      e = .returned (.tuple #[J (if (wr && !x) = true then 0 else a), J (if (wr && !x) = true then 5 else 0)]) ∧ Below w.heap.size w w' := by
  cases wr <;> cases x
  all_goals
    go_enter Tryz.func121, Tryz.ntmps121
    go_wp2
    first
      | exact bodyPost_ret (v := .tuple #[J a, J 0]) (by simp [results, Tryz.results121, go_sem, *]; done) rfl ⟨rfl, bel_alloc (Below.refl _ _) _⟩
      | exact bodyPost_ret (v := .tuple #[J 0, J 5]) (by simp [results, Tryz.results121, go_sem, *]; done) rfl ⟨rfl, bel_alloc (Below.refl _ _) _⟩
theorem Box.seven {w : World} {n : Nat} {t : TypeId} {a0 a1 a2 a3 a4 a5 a6 : Value} (h : Box w n t #[a0, a1, a2, a3, a4, a5, a6]) :
    (w.cell? ⟨n, 0, none⟩ = some a0 ∧ w.cell? ⟨n, 1, none⟩ = some a1 ∧ w.cell? ⟨n, 2, none⟩ = some a2 ∧ w.cell? ⟨n, 3, none⟩ = some a3 ∧ w.cell? ⟨n, 4, none⟩ = some a4 ∧ w.cell? ⟨n, 5, none⟩ = some a5 ∧ w.cell? ⟨n, 6, none⟩ = some a6) ∧ n < w.heap.size :=
  ⟨⟨h.cell 0, h.cell 1, h.cell 2, h.cell 3, h.cell 4, h.cell 5, h.cell 6⟩, h.lt⟩
theorem Box.marksOf {w : World} {n : Nat} {t : TypeId} {cs : Array Value} (h : Box w n t cs) : ∀ i, w.frozen? ⟨n, i, none⟩ = false := fun i => h.frozen i
theorem bel_set16 {a w : World} {n : Nat} (hp : a.heap.size ≤ n) (h : Below a.heap.size a w) (u0 u1 u2 u3 u4 u5 u6 u7 u8 u9 u10 u11 u12 u13 u14 u15 : Value) :
    Below a.heap.size a ((((((((((((((((w.setCell ⟨n, 0, none⟩ u0).setCell ⟨n, 1, none⟩ u1).setCell ⟨n, 2, none⟩ u2).setCell ⟨n, 3, none⟩ u3).setCell ⟨n, 4, none⟩ u4).setCell ⟨n, 5, none⟩ u5).setCell ⟨n, 6, none⟩ u6).setCell ⟨n, 7, none⟩ u7).setCell ⟨n, 8, none⟩ u8).setCell ⟨n, 9, none⟩ u9).setCell ⟨n, 10, none⟩ u10).setCell ⟨n, 11, none⟩ u11).setCell ⟨n, 12, none⟩ u12).setCell ⟨n, 13, none⟩ u13).setCell ⟨n, 14, none⟩ u14).setCell ⟨n, 15, none⟩ u15) := ((((((((((((((((h.setCell (p := ⟨n, 0, none⟩) hp u0).setCell (p := ⟨n, 1, none⟩) hp u1).setCell (p := ⟨n, 2, none⟩) hp u2).setCell (p := ⟨n, 3, none⟩) hp u3).setCell (p := ⟨n, 4, none⟩) hp u4).setCell (p := ⟨n, 5, none⟩) hp u5).setCell (p := ⟨n, 6, none⟩) hp u6).setCell (p := ⟨n, 7, none⟩) hp u7).setCell (p := ⟨n, 8, none⟩) hp u8).setCell (p := ⟨n, 9, none⟩) hp u9).setCell (p := ⟨n, 10, none⟩) hp u10).setCell (p := ⟨n, 11, none⟩) hp u11).setCell (p := ⟨n, 12, none⟩) hp u12).setCell (p := ⟨n, 13, none⟩) hp u13).setCell (p := ⟨n, 14, none⟩) hp u14).setCell (p := ⟨n, 15, none⟩) hp u15)
theorem Box.set16 {w : World} {n : Nat} {t : TypeId} {a0 a1 a2 a3 a4 a5 a6 a7 a8 a9 a10 a11 a12 a13 a14 a15 : Value} (h : Box w n t #[a0, a1, a2, a3, a4, a5, a6, a7, a8, a9, a10, a11, a12, a13, a14, a15]) (u0 u1 u2 u3 u4 u5 u6 u7 u8 u9 u10 u11 u12 u13 u14 u15 : Value) :
    Box ((((((((((((((((w.setCell ⟨n, 0, none⟩ u0).setCell ⟨n, 1, none⟩ u1).setCell ⟨n, 2, none⟩ u2).setCell ⟨n, 3, none⟩ u3).setCell ⟨n, 4, none⟩ u4).setCell ⟨n, 5, none⟩ u5).setCell ⟨n, 6, none⟩ u6).setCell ⟨n, 7, none⟩ u7).setCell ⟨n, 8, none⟩ u8).setCell ⟨n, 9, none⟩ u9).setCell ⟨n, 10, none⟩ u10).setCell ⟨n, 11, none⟩ u11).setCell ⟨n, 12, none⟩ u12).setCell ⟨n, 13, none⟩ u13).setCell ⟨n, 14, none⟩ u14).setCell ⟨n, 15, none⟩ u15) n t #[u0, u1, u2, u3, u4, u5, u6, u7, u8, u9, u10, u11, u12, u13, u14, u15] := by
  have h0 : Box _ n t #[u0, a1, a2, a3, a4, a5, a6, a7, a8, a9, a10, a11, a12, a13, a14, a15] := h.set 0 u0
  have h1 : Box _ n t #[u0, u1, a2, a3, a4, a5, a6, a7, a8, a9, a10, a11, a12, a13, a14, a15] := h0.set 1 u1
  have h2 : Box _ n t #[u0, u1, u2, a3, a4, a5, a6, a7, a8, a9, a10, a11, a12, a13, a14, a15] := h1.set 2 u2
  have h3 : Box _ n t #[u0, u1, u2, u3, a4, a5, a6, a7, a8, a9, a10, a11, a12, a13, a14, a15] := h2.set 3 u3
  have h4 : Box _ n t #[u0, u1, u2, u3, u4, a5, a6, a7, a8, a9, a10, a11, a12, a13, a14, a15] := h3.set 4 u4
  have h5 : Box _ n t #[u0, u1, u2, u3, u4, u5, a6, a7, a8, a9, a10, a11, a12, a13, a14, a15] := h4.set 5 u5
  have h6 : Box _ n t #[u0, u1, u2, u3, u4, u5, u6, a7, a8, a9, a10, a11, a12, a13, a14, a15] := h5.set 6 u6
  have h7 : Box _ n t #[u0, u1, u2, u3, u4, u5, u6, u7, a8, a9, a10, a11, a12, a13, a14, a15] := h6.set 7 u7
  have h8 : Box _ n t #[u0, u1, u2, u3, u4, u5, u6, u7, u8, a9, a10, a11, a12, a13, a14, a15] := h7.set 8 u8
  have h9 : Box _ n t #[u0, u1, u2, u3, u4, u5, u6, u7, u8, u9, a10, a11, a12, a13, a14, a15] := h8.set 9 u9
  have h10 : Box _ n t #[u0, u1, u2, u3, u4, u5, u6, u7, u8, u9, u10, a11, a12, a13, a14, a15] := h9.set 10 u10
  have h11 : Box _ n t #[u0, u1, u2, u3, u4, u5, u6, u7, u8, u9, u10, u11, a12, a13, a14, a15] := h10.set 11 u11
  have h12 : Box _ n t #[u0, u1, u2, u3, u4, u5, u6, u7, u8, u9, u10, u11, u12, a13, a14, a15] := h11.set 12 u12
  have h13 : Box _ n t #[u0, u1, u2, u3, u4, u5, u6, u7, u8, u9, u10, u11, u12, u13, a14, a15] := h12.set 13 u13
  have h14 : Box _ n t #[u0, u1, u2, u3, u4, u5, u6, u7, u8, u9, u10, u11, u12, u13, u14, a15] := h13.set 14 u14
  have h15 : Box _ n t #[u0, u1, u2, u3, u4, u5, u6, u7, u8, u9, u10, u11, u12, u13, u14, u15] := h14.set 15 u15
  exact h15
theorem Box.setBrM {w : World} {n : Nat} {t : TypeId} {a0 a1 a2 a3 a4 a5 a6 a7 a8 a9 a10 a11 a12 a13 a14 a15 : Value} (h : Box w n t #[a0, a1, a2, a3, a4, a5, a6, a7, a8, a9, a10, a11, a12, a13, a14, a15]) (u4 u5 u6 u7 u8 u9 u10 u11 u12 u13 u14 u15 : Value) :
    Box ((((((((((((w.setCell ⟨n, 4, none⟩ u4).setCell ⟨n, 5, none⟩ u5).setCell ⟨n, 6, none⟩ u6).setCell ⟨n, 7, none⟩ u7).setCell ⟨n, 8, none⟩ u8).setCell ⟨n, 9, none⟩ u9).setCell ⟨n, 10, none⟩ u10).setCell ⟨n, 11, none⟩ u11).setCell ⟨n, 12, none⟩ u12).setCell ⟨n, 13, none⟩ u13).setCell ⟨n, 14, none⟩ u14).setCell ⟨n, 15, none⟩ u15) n t #[a0, a1, a2, a3, u4, u5, u6, u7, u8, u9, u10, u11, u12, u13, u14, u15] := by
  have h4 : Box _ n t #[a0, a1, a2, a3, u4, a5, a6, a7, a8, a9, a10, a11, a12, a13, a14, a15] := h.set 4 u4
  have h5 : Box _ n t #[a0, a1, a2, a3, u4, u5, a6, a7, a8, a9, a10, a11, a12, a13, a14, a15] := h4.set 5 u5
  have h6 : Box _ n t #[a0, a1, a2, a3, u4, u5, u6, a7, a8, a9, a10, a11, a12, a13, a14, a15] := h5.set 6 u6
  have h7 : Box _ n t #[a0, a1, a2, a3, u4, u5, u6, u7, a8, a9, a10, a11, a12, a13, a14, a15] := h6.set 7 u7
  have h8 : Box _ n t #[a0, a1, a2, a3, u4, u5, u6, u7, u8, a9, a10, a11, a12, a13, a14, a15] := h7.set 8 u8
  have h9 : Box _ n t #[a0, a1, a2, a3, u4, u5, u6, u7, u8, u9, a10, a11, a12, a13, a14, a15] := h8.set 9 u9
  have h10 : Box _ n t #[a0, a1, a2, a3, u4, u5, u6, u7, u8, u9, u10, a11, a12, a13, a14, a15] := h9.set 10 u10
  have h11 : Box _ n t #[a0, a1, a2, a3, u4, u5, u6, u7, u8, u9, u10, u11, a12, a13, a14, a15] := h10.set 11 u11
  have h12 : Box _ n t #[a0, a1, a2, a3, u4, u5, u6, u7, u8, u9, u10, u11, u12, a13, a14, a15] := h11.set 12 u12
  have h13 : Box _ n t #[a0, a1, a2, a3, u4, u5, u6, u7, u8, u9, u10, u11, u12, u13, a14, a15] := h12.set 13 u13
  have h14 : Box _ n t #[a0, a1, a2, a3, u4, u5, u6, u7, u8, u9, u10, u11, u12, u13, u14, a15] := h13.set 14 u14
  have h15 : Box _ n t #[a0, a1, a2, a3, u4, u5, u6, u7, u8, u9, u10, u11, u12, u13, u14, u15] := h14.set 15 u15
  exact h15
theorem makeLines (w : World) (n : Nat) (hn : n ≤ 6) : ∃ cur : Array Value, (Instr.makeSlice 27 (J n) (J n)).run Tryz.prog w = .ok (.slice (some ⟨w.heap.size, 0, none⟩) n n) (w.alloc (.cells cur 52)) ∧ cur.size = n * 5 := by
  obtain ⟨i, hi, hz, hs, hb⟩ := infoLine
  have h := run_make (P := Tryz.prog) w 27 52 i _ Tryz.underlying27 hi hz .i64 .i64 n n (by omega) (by omega) (by rw [hb]; omega) (by omega)
  rw [hs] at h
  simp only [Int.toNat_natCast] at h
  exact ⟨_, h, size_madeCells _ _⟩
theorem copyLines (w : World) (ty : TypeId) (v : Value) (g : Nat) (l : List Ln) (cur : Array Value) (hg : w.heap[g]? = some (.cells cur 52 (0, 0))) (hcur : cur.size = l.length * 5) (hl : Ls w v l) :
    ∃ w3, (Builtin.copy_ #[27, 27] ty #[.slice (some ⟨g, 0, none⟩) l.length l.length, v]).run Tryz.prog w = .ok (J l.length) w3 ∧ w3.heap[g]? = some (.cells (l.flatMap cellsL).toArray 52 (0, 0)) ∧
      (∀ k, k ≠ g → w3.heap[k]? = w.heap[k]?) ∧ w3.heap.size = w.heap.size ∧ Below g w w3 := by
  obtain ⟨i, hi, hz, hs, hb⟩ := infoLine
  obtain ⟨a, cap, rfl, hlc, hm, h⟩ := hl
  have hl5 := flat_len l
  have hst := run_storeCells_at Tryz.prog g 0 52 (l.flatMap cellsL) 0 cur w hg (by rw [hl5, hcur]; omega) (flat_one l)
  have hd : List.drop (0 + 0 + (l.flatMap cellsL).length) cur.toList = [] := List.drop_of_length_le (by simp only [Array.length_toList, hcur, hl5]; omega)
  rw [hd, Nat.add_zero, List.take_zero, List.nil_append, List.append_nil] at hst
  refine ⟨_, ?_, setRow_heap w g cur _ _ _ hg, fun k hk => setRow_other w g k _ hk, by simp [World.setRow], ⟨rfl, rfl, rfl, by simp [World.setRow], fun k hk => setRow_other w g k _ (by omega)⟩⟩
  rcases h with rfl | ⟨b, o, rfl, hlt, hc⟩
  · have hst' : (storeCells ⟨g, 0, none⟩ [] 0).run Tryz.prog w = .ok () (w.setRow g ([] : List Value).toArray) := hst
    cases a <;>
      simp [Builtin.copy_, run_underlying Tryz.underlying27, Builtin.lenOf, Builtin.firstCells, sizeOf, typeInfo, hi, loadCells, loadCellsFrom, hst', goInt]
  · have hld := run_loadCells_list (P := Tryz.prog) w ⟨b, o, none⟩ (l.flatMap cellsL) (fun j u hu => by
      obtain ⟨i', r, h1, h2, rfl, h4⟩ := flat_of hu
      rw [add_off, ← Nat.add_assoc]
      exact atL_cell (hc i' h1) h2 h4)
    rw [hl5] at hld
    simp [Builtin.copy_, run_underlying Tryz.underlying27, Builtin.lenOf, Builtin.firstCells, sizeOf, typeInfo, hi, hs, hld, hst, goInt]
theorem ls_block {w : World} {g : Nat} {l : List Ln} (hg : w.heap[g]? = some (.cells (l.flatMap cellsL).toArray 52 (0, 0))) (hn : l.length ≤ 6) : Ls w (.slice (some ⟨g, 0, none⟩) l.length l.length) l := by
  refine ⟨_, l.length, rfl, Nat.le_refl _, by unfold maxLen; omega, .inr ⟨g, 0, rfl, (Box.lt hg), fun i hi => ?_⟩⟩
  have hc : ∀ r, r < 5 → w.cell? ⟨g, 0 + i * 5 + r, none⟩ = (cellsL (lth l i))[r]? := fun r hr => by
    rw [Nat.zero_add, cell_of_row w g _ _ _ _ hg, List.getElem?_toArray, flat_at l i r hi hr]
  exact ⟨hc 0 (by omega), hc 1 (by omega), hc 2 (by omega), hc 3 (by omega), hc 4 (by omega)⟩
set_option maxHeartbeats 2000000 in
theorem copyOfMem_any (v : Value) (zs : List Int) (w : World) (h : Sl w v zs) (hn : zs.length = 512) :
    Calls Tryz.prog 135 #[.agg #[v]] w fun e w' => ∃ g, e = .returned (.agg #[.slice (some ⟨g, 0, none⟩) 512 512]) ∧ Sl w' (.slice (some ⟨g, 0, none⟩) 512 512) zs ∧ w.heap.size ≤ g ∧ Below w.heap.size w w' := by
  obtain ⟨b, o, cap, rfl, hb, hc⟩ := h.open512 hn
  have HC : Hid (∀ i, i < 512 → w.cell? ⟨b, o + i, none⟩ = some (J (nth zs i))) := hc
  have HN : Hid (zs.length = 512) := hn
  clear hc hn h
  go_enter Tryz.func135, Tryz.ntmps135
  go_wp2_with fail
  refine (new_own _).mono ?_
  rintro e w2 ⟨g, rfl, hg2, hge, hb2⟩
  have X0 := ((Box.newAt (n := w.heap.size) rfl 24 #[.slice (some ⟨b, o, none⟩) 512 cap]).past _).keep hb2
  have X1 := (Box.newAt (n := w.heap.size + 1) (by simp) 24 #[.slice none 0 0]).keep hb2
  have HB2 : Hid (Below w.heap.size w w2) := bel_trans (bel_alloc (bel_alloc (Below.refl _ _) _) _) hb2
  have hgL : w.heap.size + 1 + 1 ≤ g := by simpa using hge
  have hs2 := hb2.size
  clear hb2 hge
  obtain ⟨hglt, _⟩ := Array.getElem?_eq_some_iff.1 hg2
  obtain ⟨w3, hrun, hg3, ho3, hs3, hb3⟩ := copy_full (w2.alloc (.cells #[.slice (some ⟨g, 0, none⟩) 512 512] 24)) b o cap g zs zeroCells HN.out (heap_past hglt hg2) (by simp [zeroCells, size_madeCells]) (fun i hi => by
    rw [World.cell?_alloc_past _ _ _ (by omega), HB2.out.cell (p := ⟨b, o + i, none⟩) hb]; exact HC.out i hi)
  have X2 : Box w3 w2.heap.size 24 #[.slice (some ⟨g, 0, none⟩) 512 512] := by
    unfold Box; rw [ho3 _ (by omega)]; exact Box.newAt rfl _ _
  have Y1 : Box w3 (w.heap.size + 1) 24 #[.slice none 0 0] := by
    unfold Box; rw [ho3 _ (by omega)]; exact X1.past _
  obtain ⟨q0, -, s0⟩ := X0.one
  obtain ⟨q2, -, s2⟩ := X2.one
  obtain ⟨q1, y1, s1⟩ := Y1.one
  have HG3 : Hid _ := hg3
  have HB3 : Hid (Below w.heap.size w w3) := (bel_alloc HB2.out _).trans (hb3.mono (by omega))
  clear ho3 hb3 hg3 hg2 hs2
  go_wp2_with fail
  refine bodyPost_ret (v := .agg #[.slice (some ⟨g, 0, none⟩) 512 512]) (by simp [results, Tryz.results135, go_sem, *]) rfl ⟨_, rfl, ?_, by omega, ?_⟩
  · refine sl_block (cs := intCells zs) (t := 3) (fr := (0, 0)) ?_ (intCells_list _) HN.out.symm (by rw [HN.out]; simp [maxLen])
    exact Box.other (p := ⟨w.heap.size + 1, 0, none⟩) HG3.out (by dsimp only; omega) _
  · exact bel_set1 (by omega) HB3.out _
end Go.Proofs.YthlhocneggcekaaGreat
