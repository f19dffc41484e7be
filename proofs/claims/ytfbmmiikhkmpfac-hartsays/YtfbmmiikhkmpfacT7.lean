/-
  Laid together: HSet, HSet2, HOut.
-/
import Derived.Test.YtfbmmiikhkmpfacT6
import Derived.Deep.RegionHeld3
/-
  Package hart: set: a bridge with one register set, or not; nothing that was there turns.
-/
namespace Go.Proofs.Ytfbmmiikhkmpfac
open Go.RowKit

theorem setB_iff {b : Br} (h : chkB b = 0) {i v : Int} (hv : 0 ≤ v) (hi : i = 0 ∨ i = 1 ∨ i = 2 ∨ i = 3 ∨ i = 5 ∨ i = 6) : (chkB (setB b i v) == 0) = decide (v ≤ mostB i) := by
  by_cases hm : v ≤ mostB i
  · rw [decide_eq_true hm, setB_good h hv hm]; rfl
  · rw [decide_eq_false hm]
    have : ¬ chkB (setB b i v) = 0 := by
      intro e
      obtain ⟨g1, g2, g3, g4, g5, g6⟩ := chkB_ok e
      obtain ⟨r1, r2, r3⟩ := chkR_ok g5
      obtain ⟨s1, s2, s3⟩ := chkR_ok g6
      have r1 := pageR_in r1
      have r3 := stepR_in r3
      have s1 := pageR_in s1
      have s2 := stepR_in s2
      rcases hi with rfl | rfl | rfl | rfl | rfl | rfl <;> simp [setB, mostB] at * <;> omega
    simpa using this

theorem box12N {N : Nat} {W w' : World} {n : Nat} {t : TypeId} {a0 a1 a2 a3 a4 a5 a6 a7 a8 a9 a10 a11 : Value} (h : Box W n t #[a0, a1, a2, a3, a4, a5, a6, a7, a8, a9, a10, a11]) (hn : n < N) (hb : Below N W w') :
    (w'.cell? ⟨n, 0, none⟩ = some a0 ∧ w'.cell? ⟨n, 1, none⟩ = some a1 ∧ w'.cell? ⟨n, 2, none⟩ = some a2 ∧ w'.cell? ⟨n, 3, none⟩ = some a3 ∧ w'.cell? ⟨n, 4, none⟩ = some a4 ∧ w'.cell? ⟨n, 5, none⟩ = some a5 ∧ w'.cell? ⟨n, 6, none⟩ = some a6 ∧ w'.cell? ⟨n, 7, none⟩ = some a7 ∧ w'.cell? ⟨n, 8, none⟩ = some a8 ∧ w'.cell? ⟨n, 9, none⟩ = some a9 ∧ w'.cell? ⟨n, 10, none⟩ = some a10 ∧ w'.cell? ⟨n, 11, none⟩ = some a11) ∧ Below N W w' :=
  ⟨(Box.twelve (show Box w' n t #[a0, a1, a2, a3, a4, a5, a6, a7, a8, a9, a10, a11] from (hb.block n hn).trans h)).1, hb⟩
theorem limb2 {A B : Prop} (h : A ∧ B) : B := h.2

/-- What set answers. -/
abbrev SetOut (mo ba op oh ot fe fp fh ft : Int) (st lo : Bool) (vc : Value) (l : List Ln) (i v : Int) (w : World) (e : Ending) (w' : World) : Prop :=
  ∃ mo1 ba1 op1 oh1 ot1 fe1 fp1 fh1 ft1 st1 lo1 ca1 ck1 cc1, e = .returned (.tuple #[.agg #[.int .i64 mo1, .int .i64 ba1, .slice ca1 ck1 cc1, .int .i64 op1, .int .i64 oh1, .int .i64 ot1, .bool st1, .int .i64 fe1, .int .i64 fp1, .int .i64 fh1, .int .i64 ft1, .bool lo1], .bool (decide (v ≤ mostB i))]) ∧
    (v ≤ mostB i → vc = .slice ca1 ck1 cc1 ∧ setB ⟨mo, ba, l, op, oh, ot, st, fe, fp, fh, ft, lo⟩ i v = ⟨mo1, ba1, l, op1, oh1, ot1, st1, fe1, fp1, fh1, ft1, lo1⟩) ∧ Below w.heap.size w w'

set_option maxRecDepth 10000 in
set_option maxHeartbeats 4000000 in
theorem set_0 (mo ba op oh ot fe fp fh ft : Int) (st lo : Bool) (vc : Value) (l : List Ln) (v : Int) (w : World) (h : Ls w vc l) (hb : chkB ⟨mo, ba, l, op, oh, ot, st, fe, fp, fh, ft, lo⟩ = 0) (hv : 0 ≤ v) :
    Calls Try.prog 68 #[.agg #[.int .i64 mo, .int .i64 ba, vc, .int .i64 op, .int .i64 oh, .int .i64 ot, .bool st, .int .i64 fe, .int .i64 fp, .int .i64 fh, .int .i64 ft, .bool lo], .int .i64 0, .int .i64 v] w fun e w' => SetOut mo ba op oh ot fe fp fh ft st lo vc l 0 v w e w' := by
  have HL : Hid (Ls w vc l) := h
  obtain ⟨ca, cc, rfl, -⟩ := h.shape
  obtain ⟨ck, hck⟩ : ∃ ck, ck = l.length := ⟨_, rfl⟩
  rw [← hck] at HL ⊢
  have HC : Hid ((chkB (setB ⟨mo, ba, l, op, oh, ot, st, fe, fp, fh, ft, lo⟩ 0 v) == 0) = decide (v ≤ mostB 0)) := setB_iff hb hv (by simp)
  have HS : Hid (setB ⟨mo, ba, l, op, oh, ot, st, fe, fp, fh, ft, lo⟩ 0 v = ⟨v, ba, l, op, oh, ot, st, fe, fp, fh, ft, lo⟩) := rfl
  obtain ⟨c, hc⟩ : ∃ c, chkB ⟨v, ba, l, op, oh, ot, st, fe, fp, fh, ft, lo⟩ = c := ⟨_, rfl⟩
  have HCC : Hid (chkB ⟨v, ba, l, op, oh, ot, st, fe, fp, fh, ft, lo⟩ = c) := hc
  obtain ⟨ok, hok⟩ : ∃ ok, (c == 0) = ok := ⟨_, rfl⟩
  have HOK : Hid (decide (v ≤ mostB 0) = ok) := by show _ = _; rw [← HC.out, HS.out, hc, hok]
  clear h hb hv hck hc HC
  go_enter Try.func68, Try.ntmps68
  have X0 := (Box.newAt (w := w) (n := w.heap.size) rfl 40 #[.int .i64 v, .int .i64 ba, .slice ca ck cc, .int .i64 op, .int .i64 oh, .int .i64 ot, .bool st, .int .i64 fe, .int .i64 fp, .int .i64 fh, .int .i64 ft, .bool lo]).past (.cells #[.int .i64 0, .int .i64 0, .slice none 0 0, .int .i64 0, .int .i64 0, .int .i64 0, .bool false, .int .i64 0, .int .i64 0, .int .i64 0, .int .i64 0, .bool false] 40)
  have X1 := Box.newAt (w := w.alloc (.cells #[.int .i64 v, .int .i64 ba, .slice ca ck cc, .int .i64 op, .int .i64 oh, .int .i64 ot, .bool st, .int .i64 fe, .int .i64 fp, .int .i64 fh, .int .i64 ft, .bool lo] 40)) (n := w.heap.size + 1) (by simp) 40 #[.int .i64 0, .int .i64 0, .slice none 0 0, .int .i64 0, .int .i64 0, .int .i64 0, .bool false, .int .i64 0, .int .i64 0, .int .i64 0, .int .i64 0, .bool false]
  have B0 : Hid (Below w.heap.size w _) := bel_alloc (bel_alloc (Below.refl w.heap.size w) (.cells #[.int .i64 v, .int .i64 ba, .slice ca ck cc, .int .i64 op, .int .i64 oh, .int .i64 ot, .bool st, .int .i64 fe, .int .i64 fp, .int .i64 fh, .int .i64 ft, .bool lo] 40)) (.cells #[.int .i64 0, .int .i64 0, .slice none 0 0, .int .i64 0, .int .i64 0, .int .i64 0, .bool false, .int .i64 0, .int .i64 0, .int .i64 0, .int .i64 0, .bool false] 40)
  go_upto_region 18 with fail
  generalize ((w.alloc (.cells #[.int .i64 v, .int .i64 ba, .slice ca ck cc, .int .i64 op, .int .i64 oh, .int .i64 ot, .bool st, .int .i64 fe, .int .i64 fp, .int .i64 fh, .int .i64 ft, .bool lo] 40)).alloc (.cells #[.int .i64 0, .int .i64 0, .slice none 0 0, .int .i64 0, .int .i64 0, .int .i64 0, .bool false, .int .i64 0, .int .i64 0, .int .i64 0, .int .i64 0, .bool false] 40)) = W at *
  have n0 : w.heap.size < w.heap.size + 1 := by omega
  have nW : w.heap.size + 1 ≤ W.heap.size := by have := X1.lt; omega
  have nV : w.heap.size ≤ w.heap.size + 1 := by omega
  obtain ⟨⟨d0, d1, d2, d3, d4, d5, d6, d7, d8, d9, d10, d11⟩, s0⟩ := X0.twelve
  go_region_held3 (fun w' => (w'.cell? ⟨w.heap.size, 0, none⟩ = some (.int .i64 v) ∧ w'.cell? ⟨w.heap.size, 1, none⟩ = some (.int .i64 ba) ∧ w'.cell? ⟨w.heap.size, 2, none⟩ = some (.slice ca ck cc) ∧ w'.cell? ⟨w.heap.size, 3, none⟩ = some (.int .i64 op) ∧ w'.cell? ⟨w.heap.size, 4, none⟩ = some (.int .i64 oh) ∧ w'.cell? ⟨w.heap.size, 5, none⟩ = some (.int .i64 ot) ∧ w'.cell? ⟨w.heap.size, 6, none⟩ = some (.bool st) ∧ w'.cell? ⟨w.heap.size, 7, none⟩ = some (.int .i64 fe) ∧ w'.cell? ⟨w.heap.size, 8, none⟩ = some (.int .i64 fp) ∧ w'.cell? ⟨w.heap.size, 9, none⟩ = some (.int .i64 fh) ∧ w'.cell? ⟨w.heap.size, 10, none⟩ = some (.int .i64 ft) ∧ w'.cell? ⟨w.heap.size, 11, none⟩ = some (.bool lo)) ∧ Below (w.heap.size + 1) W w')
    (with_reducible refine box12N X0 n0 ?_; (repeat (first | with_reducible assumption | (with_reducible (refine limb2 (?_ : _ ∧ _); assumption)) | with_reducible exact Below.refl _ _ | with_reducible refine Below.drew ?_ | with_reducible refine below_drewN ?_ _ | (with_reducible refine belN_alloc nW ?_ _) | (with_reducible refine belN_set ?_ ?_ _; (focus (first | with_reducible exact Nat.le_refl _ | with_reducible exact Nat.le_succ _))) | (with_reducible refine belN_trans (by assumption) nW ?_))))
    (first
      | (go_at_call 26; refine (bCheck_any v ba op oh ot fe fp fh ft st lo _ l _ ?_).mono ?_; (focus (refine HL.out.keep (B0.out.trans (Below.mono ?_ nV)); (repeat (first | with_reducible assumption | (with_reducible (refine limb2 (?_ : _ ∧ _); assumption)) | with_reducible exact Below.refl _ _ | with_reducible refine Below.drew ?_ | with_reducible refine below_drewN ?_ _ | (with_reducible refine belN_alloc nW ?_ _) | (with_reducible refine belN_set ?_ ?_ _; (focus (first | with_reducible exact Nat.le_refl _ | with_reducible exact Nat.le_succ _))) | (with_reducible refine belN_trans (by assumption) nW ?_))))); rintro e w5 ⟨rfl, b5⟩; rw [HCC.out]; obtain ⟨⟨u0, u1, u2, u3, u4, u5, u6, u7, u8, u9, u10, u11⟩, s5⟩ := (X1.drew.keep b5).twelve; have f5 := (X1.drew.keep b5).marksAll))
  rename_i hH
  have hB := limb2 hH
  clear hH
  have HB : Hid (Below w.heap.size w _) := B0.out.trans (hB.mono nV)
  clear hB
  go_wp2
  refine bodyPost_ret (v := .tuple #[.agg #[.int .i64 v, .int .i64 ba, .slice ca ck cc, .int .i64 op, .int .i64 oh, .int .i64 ot, .bool st, .int .i64 fe, .int .i64 fp, .int .i64 fh, .int .i64 ft, .bool lo], .bool ok]) (by simp [results, Try.results68, go_sem, *]) rfl ⟨_, _, _, _, _, _, _, _, _, _, _, _, _, _, by rw [HOK.out], fun _ => ⟨rfl, HS.out⟩, HB.out⟩

set_option maxRecDepth 10000 in
set_option maxHeartbeats 4000000 in
theorem set_1 (mo ba op oh ot fe fp fh ft : Int) (st lo : Bool) (vc : Value) (l : List Ln) (v : Int) (w : World) (h : Ls w vc l) (hb : chkB ⟨mo, ba, l, op, oh, ot, st, fe, fp, fh, ft, lo⟩ = 0) (hv : 0 ≤ v) :
    Calls Try.prog 68 #[.agg #[.int .i64 mo, .int .i64 ba, vc, .int .i64 op, .int .i64 oh, .int .i64 ot, .bool st, .int .i64 fe, .int .i64 fp, .int .i64 fh, .int .i64 ft, .bool lo], .int .i64 1, .int .i64 v] w fun e w' => SetOut mo ba op oh ot fe fp fh ft st lo vc l 1 v w e w' := by
  have HL : Hid (Ls w vc l) := h
  obtain ⟨ca, cc, rfl, -⟩ := h.shape
  obtain ⟨ck, hck⟩ : ∃ ck, ck = l.length := ⟨_, rfl⟩
  rw [← hck] at HL ⊢
  have HC : Hid ((chkB (setB ⟨mo, ba, l, op, oh, ot, st, fe, fp, fh, ft, lo⟩ 1 v) == 0) = decide (v ≤ mostB 1)) := setB_iff hb hv (by simp)
  have HS : Hid (setB ⟨mo, ba, l, op, oh, ot, st, fe, fp, fh, ft, lo⟩ 1 v = ⟨mo, v, l, op, oh, ot, st, fe, fp, fh, ft, lo⟩) := rfl
  obtain ⟨c, hc⟩ : ∃ c, chkB ⟨mo, v, l, op, oh, ot, st, fe, fp, fh, ft, lo⟩ = c := ⟨_, rfl⟩
  have HCC : Hid (chkB ⟨mo, v, l, op, oh, ot, st, fe, fp, fh, ft, lo⟩ = c) := hc
  obtain ⟨ok, hok⟩ : ∃ ok, (c == 0) = ok := ⟨_, rfl⟩
  have HOK : Hid (decide (v ≤ mostB 1) = ok) := by show _ = _; rw [← HC.out, HS.out, hc, hok]
  clear h hb hv hck hc HC
  go_enter Try.func68, Try.ntmps68
  have X0 := (Box.newAt (w := w) (n := w.heap.size) rfl 40 #[.int .i64 mo, .int .i64 v, .slice ca ck cc, .int .i64 op, .int .i64 oh, .int .i64 ot, .bool st, .int .i64 fe, .int .i64 fp, .int .i64 fh, .int .i64 ft, .bool lo]).past (.cells #[.int .i64 0, .int .i64 0, .slice none 0 0, .int .i64 0, .int .i64 0, .int .i64 0, .bool false, .int .i64 0, .int .i64 0, .int .i64 0, .int .i64 0, .bool false] 40)
  have X1 := Box.newAt (w := w.alloc (.cells #[.int .i64 mo, .int .i64 v, .slice ca ck cc, .int .i64 op, .int .i64 oh, .int .i64 ot, .bool st, .int .i64 fe, .int .i64 fp, .int .i64 fh, .int .i64 ft, .bool lo] 40)) (n := w.heap.size + 1) (by simp) 40 #[.int .i64 0, .int .i64 0, .slice none 0 0, .int .i64 0, .int .i64 0, .int .i64 0, .bool false, .int .i64 0, .int .i64 0, .int .i64 0, .int .i64 0, .bool false]
  have B0 : Hid (Below w.heap.size w _) := bel_alloc (bel_alloc (Below.refl w.heap.size w) (.cells #[.int .i64 mo, .int .i64 v, .slice ca ck cc, .int .i64 op, .int .i64 oh, .int .i64 ot, .bool st, .int .i64 fe, .int .i64 fp, .int .i64 fh, .int .i64 ft, .bool lo] 40)) (.cells #[.int .i64 0, .int .i64 0, .slice none 0 0, .int .i64 0, .int .i64 0, .int .i64 0, .bool false, .int .i64 0, .int .i64 0, .int .i64 0, .int .i64 0, .bool false] 40)
  go_upto_region 18 with fail
  generalize ((w.alloc (.cells #[.int .i64 mo, .int .i64 v, .slice ca ck cc, .int .i64 op, .int .i64 oh, .int .i64 ot, .bool st, .int .i64 fe, .int .i64 fp, .int .i64 fh, .int .i64 ft, .bool lo] 40)).alloc (.cells #[.int .i64 0, .int .i64 0, .slice none 0 0, .int .i64 0, .int .i64 0, .int .i64 0, .bool false, .int .i64 0, .int .i64 0, .int .i64 0, .int .i64 0, .bool false] 40)) = W at *
  have n0 : w.heap.size < w.heap.size + 1 := by omega
  have nW : w.heap.size + 1 ≤ W.heap.size := by have := X1.lt; omega
  have nV : w.heap.size ≤ w.heap.size + 1 := by omega
  obtain ⟨⟨d0, d1, d2, d3, d4, d5, d6, d7, d8, d9, d10, d11⟩, s0⟩ := X0.twelve
  go_region_held3 (fun w' => (w'.cell? ⟨w.heap.size, 0, none⟩ = some (.int .i64 mo) ∧ w'.cell? ⟨w.heap.size, 1, none⟩ = some (.int .i64 v) ∧ w'.cell? ⟨w.heap.size, 2, none⟩ = some (.slice ca ck cc) ∧ w'.cell? ⟨w.heap.size, 3, none⟩ = some (.int .i64 op) ∧ w'.cell? ⟨w.heap.size, 4, none⟩ = some (.int .i64 oh) ∧ w'.cell? ⟨w.heap.size, 5, none⟩ = some (.int .i64 ot) ∧ w'.cell? ⟨w.heap.size, 6, none⟩ = some (.bool st) ∧ w'.cell? ⟨w.heap.size, 7, none⟩ = some (.int .i64 fe) ∧ w'.cell? ⟨w.heap.size, 8, none⟩ = some (.int .i64 fp) ∧ w'.cell? ⟨w.heap.size, 9, none⟩ = some (.int .i64 fh) ∧ w'.cell? ⟨w.heap.size, 10, none⟩ = some (.int .i64 ft) ∧ w'.cell? ⟨w.heap.size, 11, none⟩ = some (.bool lo)) ∧ Below (w.heap.size + 1) W w')
    (with_reducible refine box12N X0 n0 ?_; (repeat (first | with_reducible assumption | (with_reducible (refine limb2 (?_ : _ ∧ _); assumption)) | with_reducible exact Below.refl _ _ | with_reducible refine Below.drew ?_ | with_reducible refine below_drewN ?_ _ | (with_reducible refine belN_alloc nW ?_ _) | (with_reducible refine belN_set ?_ ?_ _; (focus (first | with_reducible exact Nat.le_refl _ | with_reducible exact Nat.le_succ _))) | (with_reducible refine belN_trans (by assumption) nW ?_))))
    (first
      | (go_at_call 26; refine (bCheck_any mo v op oh ot fe fp fh ft st lo _ l _ ?_).mono ?_; (focus (refine HL.out.keep (B0.out.trans (Below.mono ?_ nV)); (repeat (first | with_reducible assumption | (with_reducible (refine limb2 (?_ : _ ∧ _); assumption)) | with_reducible exact Below.refl _ _ | with_reducible refine Below.drew ?_ | with_reducible refine below_drewN ?_ _ | (with_reducible refine belN_alloc nW ?_ _) | (with_reducible refine belN_set ?_ ?_ _; (focus (first | with_reducible exact Nat.le_refl _ | with_reducible exact Nat.le_succ _))) | (with_reducible refine belN_trans (by assumption) nW ?_))))); rintro e w5 ⟨rfl, b5⟩; rw [HCC.out]; obtain ⟨⟨u0, u1, u2, u3, u4, u5, u6, u7, u8, u9, u10, u11⟩, s5⟩ := (X1.drew.keep b5).twelve; have f5 := (X1.drew.keep b5).marksAll))
  rename_i hH
  have hB := limb2 hH
  clear hH
  have HB : Hid (Below w.heap.size w _) := B0.out.trans (hB.mono nV)
  clear hB
  go_wp2
  refine bodyPost_ret (v := .tuple #[.agg #[.int .i64 mo, .int .i64 v, .slice ca ck cc, .int .i64 op, .int .i64 oh, .int .i64 ot, .bool st, .int .i64 fe, .int .i64 fp, .int .i64 fh, .int .i64 ft, .bool lo], .bool ok]) (by simp [results, Try.results68, go_sem, *]) rfl ⟨_, _, _, _, _, _, _, _, _, _, _, _, _, _, by rw [HOK.out], fun _ => ⟨rfl, HS.out⟩, HB.out⟩

set_option maxRecDepth 10000 in
set_option maxHeartbeats 4000000 in
theorem set_2 (mo ba op oh ot fe fp fh ft : Int) (st lo : Bool) (vc : Value) (l : List Ln) (v : Int) (w : World) (h : Ls w vc l) (hb : chkB ⟨mo, ba, l, op, oh, ot, st, fe, fp, fh, ft, lo⟩ = 0) (hv : 0 ≤ v) :
    Calls Try.prog 68 #[.agg #[.int .i64 mo, .int .i64 ba, vc, .int .i64 op, .int .i64 oh, .int .i64 ot, .bool st, .int .i64 fe, .int .i64 fp, .int .i64 fh, .int .i64 ft, .bool lo], .int .i64 2, .int .i64 v] w fun e w' => SetOut mo ba op oh ot fe fp fh ft st lo vc l 2 v w e w' := by
  have HL : Hid (Ls w vc l) := h
  obtain ⟨ca, cc, rfl, -⟩ := h.shape
  obtain ⟨ck, hck⟩ : ∃ ck, ck = l.length := ⟨_, rfl⟩
  rw [← hck] at HL ⊢
  have HC : Hid ((chkB (setB ⟨mo, ba, l, op, oh, ot, st, fe, fp, fh, ft, lo⟩ 2 v) == 0) = decide (v ≤ mostB 2)) := setB_iff hb hv (by simp)
  have HS : Hid (setB ⟨mo, ba, l, op, oh, ot, st, fe, fp, fh, ft, lo⟩ 2 v = ⟨mo, ba, l, v, oh, ot, st, fe, fp, fh, ft, lo⟩) := rfl
  obtain ⟨c, hc⟩ : ∃ c, chkB ⟨mo, ba, l, v, oh, ot, st, fe, fp, fh, ft, lo⟩ = c := ⟨_, rfl⟩
  have HCC : Hid (chkB ⟨mo, ba, l, v, oh, ot, st, fe, fp, fh, ft, lo⟩ = c) := hc
  obtain ⟨ok, hok⟩ : ∃ ok, (c == 0) = ok := ⟨_, rfl⟩
  have HOK : Hid (decide (v ≤ mostB 2) = ok) := by show _ = _; rw [← HC.out, HS.out, hc, hok]
  clear h hb hv hck hc HC
  go_enter Try.func68, Try.ntmps68
  have X0 := (Box.newAt (w := w) (n := w.heap.size) rfl 40 #[.int .i64 mo, .int .i64 ba, .slice ca ck cc, .int .i64 v, .int .i64 oh, .int .i64 ot, .bool st, .int .i64 fe, .int .i64 fp, .int .i64 fh, .int .i64 ft, .bool lo]).past (.cells #[.int .i64 0, .int .i64 0, .slice none 0 0, .int .i64 0, .int .i64 0, .int .i64 0, .bool false, .int .i64 0, .int .i64 0, .int .i64 0, .int .i64 0, .bool false] 40)
  have X1 := Box.newAt (w := w.alloc (.cells #[.int .i64 mo, .int .i64 ba, .slice ca ck cc, .int .i64 v, .int .i64 oh, .int .i64 ot, .bool st, .int .i64 fe, .int .i64 fp, .int .i64 fh, .int .i64 ft, .bool lo] 40)) (n := w.heap.size + 1) (by simp) 40 #[.int .i64 0, .int .i64 0, .slice none 0 0, .int .i64 0, .int .i64 0, .int .i64 0, .bool false, .int .i64 0, .int .i64 0, .int .i64 0, .int .i64 0, .bool false]
  have B0 : Hid (Below w.heap.size w _) := bel_alloc (bel_alloc (Below.refl w.heap.size w) (.cells #[.int .i64 mo, .int .i64 ba, .slice ca ck cc, .int .i64 v, .int .i64 oh, .int .i64 ot, .bool st, .int .i64 fe, .int .i64 fp, .int .i64 fh, .int .i64 ft, .bool lo] 40)) (.cells #[.int .i64 0, .int .i64 0, .slice none 0 0, .int .i64 0, .int .i64 0, .int .i64 0, .bool false, .int .i64 0, .int .i64 0, .int .i64 0, .int .i64 0, .bool false] 40)
  go_upto_region 18 with fail
  generalize ((w.alloc (.cells #[.int .i64 mo, .int .i64 ba, .slice ca ck cc, .int .i64 v, .int .i64 oh, .int .i64 ot, .bool st, .int .i64 fe, .int .i64 fp, .int .i64 fh, .int .i64 ft, .bool lo] 40)).alloc (.cells #[.int .i64 0, .int .i64 0, .slice none 0 0, .int .i64 0, .int .i64 0, .int .i64 0, .bool false, .int .i64 0, .int .i64 0, .int .i64 0, .int .i64 0, .bool false] 40)) = W at *
  have n0 : w.heap.size < w.heap.size + 1 := by omega
  have nW : w.heap.size + 1 ≤ W.heap.size := by have := X1.lt; omega
  have nV : w.heap.size ≤ w.heap.size + 1 := by omega
  obtain ⟨⟨d0, d1, d2, d3, d4, d5, d6, d7, d8, d9, d10, d11⟩, s0⟩ := X0.twelve
  go_region_held3 (fun w' => (w'.cell? ⟨w.heap.size, 0, none⟩ = some (.int .i64 mo) ∧ w'.cell? ⟨w.heap.size, 1, none⟩ = some (.int .i64 ba) ∧ w'.cell? ⟨w.heap.size, 2, none⟩ = some (.slice ca ck cc) ∧ w'.cell? ⟨w.heap.size, 3, none⟩ = some (.int .i64 v) ∧ w'.cell? ⟨w.heap.size, 4, none⟩ = some (.int .i64 oh) ∧ w'.cell? ⟨w.heap.size, 5, none⟩ = some (.int .i64 ot) ∧ w'.cell? ⟨w.heap.size, 6, none⟩ = some (.bool st) ∧ w'.cell? ⟨w.heap.size, 7, none⟩ = some (.int .i64 fe) ∧ w'.cell? ⟨w.heap.size, 8, none⟩ = some (.int .i64 fp) ∧ w'.cell? ⟨w.heap.size, 9, none⟩ = some (.int .i64 fh) ∧ w'.cell? ⟨w.heap.size, 10, none⟩ = some (.int .i64 ft) ∧ w'.cell? ⟨w.heap.size, 11, none⟩ = some (.bool lo)) ∧ Below (w.heap.size + 1) W w')
    (with_reducible refine box12N X0 n0 ?_; (repeat (first | with_reducible assumption | (with_reducible (refine limb2 (?_ : _ ∧ _); assumption)) | with_reducible exact Below.refl _ _ | with_reducible refine Below.drew ?_ | with_reducible refine below_drewN ?_ _ | (with_reducible refine belN_alloc nW ?_ _) | (with_reducible refine belN_set ?_ ?_ _; (focus (first | with_reducible exact Nat.le_refl _ | with_reducible exact Nat.le_succ _))) | (with_reducible refine belN_trans (by assumption) nW ?_))))
    (first
      | (go_at_call 26; refine (bCheck_any mo ba v oh ot fe fp fh ft st lo _ l _ ?_).mono ?_; (focus (refine HL.out.keep (B0.out.trans (Below.mono ?_ nV)); (repeat (first | with_reducible assumption | (with_reducible (refine limb2 (?_ : _ ∧ _); assumption)) | with_reducible exact Below.refl _ _ | with_reducible refine Below.drew ?_ | with_reducible refine below_drewN ?_ _ | (with_reducible refine belN_alloc nW ?_ _) | (with_reducible refine belN_set ?_ ?_ _; (focus (first | with_reducible exact Nat.le_refl _ | with_reducible exact Nat.le_succ _))) | (with_reducible refine belN_trans (by assumption) nW ?_))))); rintro e w5 ⟨rfl, b5⟩; rw [HCC.out]; obtain ⟨⟨u0, u1, u2, u3, u4, u5, u6, u7, u8, u9, u10, u11⟩, s5⟩ := (X1.drew.keep b5).twelve; have f5 := (X1.drew.keep b5).marksAll))
  rename_i hH
  have hB := limb2 hH
  clear hH
  have HB : Hid (Below w.heap.size w _) := B0.out.trans (hB.mono nV)
  clear hB
  go_wp2
  refine bodyPost_ret (v := .tuple #[.agg #[.int .i64 mo, .int .i64 ba, .slice ca ck cc, .int .i64 v, .int .i64 oh, .int .i64 ot, .bool st, .int .i64 fe, .int .i64 fp, .int .i64 fh, .int .i64 ft, .bool lo], .bool ok]) (by simp [results, Try.results68, go_sem, *]) rfl ⟨_, _, _, _, _, _, _, _, _, _, _, _, _, _, by rw [HOK.out], fun _ => ⟨rfl, HS.out⟩, HB.out⟩

set_option maxRecDepth 10000 in
set_option maxHeartbeats 4000000 in
theorem set_3 (mo ba op oh ot fe fp fh ft : Int) (st lo : Bool) (vc : Value) (l : List Ln) (v : Int) (w : World) (h : Ls w vc l) (hb : chkB ⟨mo, ba, l, op, oh, ot, st, fe, fp, fh, ft, lo⟩ = 0) (hv : 0 ≤ v) :
    Calls Try.prog 68 #[.agg #[.int .i64 mo, .int .i64 ba, vc, .int .i64 op, .int .i64 oh, .int .i64 ot, .bool st, .int .i64 fe, .int .i64 fp, .int .i64 fh, .int .i64 ft, .bool lo], .int .i64 3, .int .i64 v] w fun e w' => SetOut mo ba op oh ot fe fp fh ft st lo vc l 3 v w e w' := by
  have HL : Hid (Ls w vc l) := h
  obtain ⟨ca, cc, rfl, -⟩ := h.shape
  obtain ⟨ck, hck⟩ : ∃ ck, ck = l.length := ⟨_, rfl⟩
  rw [← hck] at HL ⊢
  have HC : Hid ((chkB (setB ⟨mo, ba, l, op, oh, ot, st, fe, fp, fh, ft, lo⟩ 3 v) == 0) = decide (v ≤ mostB 3)) := setB_iff hb hv (by simp)
  have HS : Hid (setB ⟨mo, ba, l, op, oh, ot, st, fe, fp, fh, ft, lo⟩ 3 v = ⟨mo, ba, l, op, oh, v, st, fe, fp, fh, ft, lo⟩) := rfl
  obtain ⟨c, hc⟩ : ∃ c, chkB ⟨mo, ba, l, op, oh, v, st, fe, fp, fh, ft, lo⟩ = c := ⟨_, rfl⟩
  have HCC : Hid (chkB ⟨mo, ba, l, op, oh, v, st, fe, fp, fh, ft, lo⟩ = c) := hc
  obtain ⟨ok, hok⟩ : ∃ ok, (c == 0) = ok := ⟨_, rfl⟩
  have HOK : Hid (decide (v ≤ mostB 3) = ok) := by show _ = _; rw [← HC.out, HS.out, hc, hok]
  clear h hb hv hck hc HC
  go_enter Try.func68, Try.ntmps68
  have X0 := (Box.newAt (w := w) (n := w.heap.size) rfl 40 #[.int .i64 mo, .int .i64 ba, .slice ca ck cc, .int .i64 op, .int .i64 oh, .int .i64 v, .bool st, .int .i64 fe, .int .i64 fp, .int .i64 fh, .int .i64 ft, .bool lo]).past (.cells #[.int .i64 0, .int .i64 0, .slice none 0 0, .int .i64 0, .int .i64 0, .int .i64 0, .bool false, .int .i64 0, .int .i64 0, .int .i64 0, .int .i64 0, .bool false] 40)
  have X1 := Box.newAt (w := w.alloc (.cells #[.int .i64 mo, .int .i64 ba, .slice ca ck cc, .int .i64 op, .int .i64 oh, .int .i64 v, .bool st, .int .i64 fe, .int .i64 fp, .int .i64 fh, .int .i64 ft, .bool lo] 40)) (n := w.heap.size + 1) (by simp) 40 #[.int .i64 0, .int .i64 0, .slice none 0 0, .int .i64 0, .int .i64 0, .int .i64 0, .bool false, .int .i64 0, .int .i64 0, .int .i64 0, .int .i64 0, .bool false]
  have B0 : Hid (Below w.heap.size w _) := bel_alloc (bel_alloc (Below.refl w.heap.size w) (.cells #[.int .i64 mo, .int .i64 ba, .slice ca ck cc, .int .i64 op, .int .i64 oh, .int .i64 v, .bool st, .int .i64 fe, .int .i64 fp, .int .i64 fh, .int .i64 ft, .bool lo] 40)) (.cells #[.int .i64 0, .int .i64 0, .slice none 0 0, .int .i64 0, .int .i64 0, .int .i64 0, .bool false, .int .i64 0, .int .i64 0, .int .i64 0, .int .i64 0, .bool false] 40)
  go_upto_region 18 with fail
  generalize ((w.alloc (.cells #[.int .i64 mo, .int .i64 ba, .slice ca ck cc, .int .i64 op, .int .i64 oh, .int .i64 v, .bool st, .int .i64 fe, .int .i64 fp, .int .i64 fh, .int .i64 ft, .bool lo] 40)).alloc (.cells #[.int .i64 0, .int .i64 0, .slice none 0 0, .int .i64 0, .int .i64 0, .int .i64 0, .bool false, .int .i64 0, .int .i64 0, .int .i64 0, .int .i64 0, .bool false] 40)) = W at *
  have n0 : w.heap.size < w.heap.size + 1 := by omega
  have nW : w.heap.size + 1 ≤ W.heap.size := by have := X1.lt; omega
  have nV : w.heap.size ≤ w.heap.size + 1 := by omega
  obtain ⟨⟨d0, d1, d2, d3, d4, d5, d6, d7, d8, d9, d10, d11⟩, s0⟩ := X0.twelve
  go_region_held3 (fun w' => (w'.cell? ⟨w.heap.size, 0, none⟩ = some (.int .i64 mo) ∧ w'.cell? ⟨w.heap.size, 1, none⟩ = some (.int .i64 ba) ∧ w'.cell? ⟨w.heap.size, 2, none⟩ = some (.slice ca ck cc) ∧ w'.cell? ⟨w.heap.size, 3, none⟩ = some (.int .i64 op) ∧ w'.cell? ⟨w.heap.size, 4, none⟩ = some (.int .i64 oh) ∧ w'.cell? ⟨w.heap.size, 5, none⟩ = some (.int .i64 v) ∧ w'.cell? ⟨w.heap.size, 6, none⟩ = some (.bool st) ∧ w'.cell? ⟨w.heap.size, 7, none⟩ = some (.int .i64 fe) ∧ w'.cell? ⟨w.heap.size, 8, none⟩ = some (.int .i64 fp) ∧ w'.cell? ⟨w.heap.size, 9, none⟩ = some (.int .i64 fh) ∧ w'.cell? ⟨w.heap.size, 10, none⟩ = some (.int .i64 ft) ∧ w'.cell? ⟨w.heap.size, 11, none⟩ = some (.bool lo)) ∧ Below (w.heap.size + 1) W w')
    (with_reducible refine box12N X0 n0 ?_; (repeat (first | with_reducible assumption | (with_reducible (refine limb2 (?_ : _ ∧ _); assumption)) | with_reducible exact Below.refl _ _ | with_reducible refine Below.drew ?_ | with_reducible refine below_drewN ?_ _ | (with_reducible refine belN_alloc nW ?_ _) | (with_reducible refine belN_set ?_ ?_ _; (focus (first | with_reducible exact Nat.le_refl _ | with_reducible exact Nat.le_succ _))) | (with_reducible refine belN_trans (by assumption) nW ?_))))
    (first
      | (go_at_call 26; refine (bCheck_any mo ba op oh v fe fp fh ft st lo _ l _ ?_).mono ?_; (focus (refine HL.out.keep (B0.out.trans (Below.mono ?_ nV)); (repeat (first | with_reducible assumption | (with_reducible (refine limb2 (?_ : _ ∧ _); assumption)) | with_reducible exact Below.refl _ _ | with_reducible refine Below.drew ?_ | with_reducible refine below_drewN ?_ _ | (with_reducible refine belN_alloc nW ?_ _) | (with_reducible refine belN_set ?_ ?_ _; (focus (first | with_reducible exact Nat.le_refl _ | with_reducible exact Nat.le_succ _))) | (with_reducible refine belN_trans (by assumption) nW ?_))))); rintro e w5 ⟨rfl, b5⟩; rw [HCC.out]; obtain ⟨⟨u0, u1, u2, u3, u4, u5, u6, u7, u8, u9, u10, u11⟩, s5⟩ := (X1.drew.keep b5).twelve; have f5 := (X1.drew.keep b5).marksAll))
  rename_i hH
  have hB := limb2 hH
  clear hH
  have HB : Hid (Below w.heap.size w _) := B0.out.trans (hB.mono nV)
  clear hB
  go_wp2
  refine bodyPost_ret (v := .tuple #[.agg #[.int .i64 mo, .int .i64 ba, .slice ca ck cc, .int .i64 op, .int .i64 oh, .int .i64 v, .bool st, .int .i64 fe, .int .i64 fp, .int .i64 fh, .int .i64 ft, .bool lo], .bool ok]) (by simp [results, Try.results68, go_sem, *]) rfl ⟨_, _, _, _, _, _, _, _, _, _, _, _, _, _, by rw [HOK.out], fun _ => ⟨rfl, HS.out⟩, HB.out⟩

set_option maxRecDepth 10000 in
set_option maxHeartbeats 4000000 in
theorem set_5 (mo ba op oh ot fe fp fh ft : Int) (st lo : Bool) (vc : Value) (l : List Ln) (v : Int) (w : World) (h : Ls w vc l) (hb : chkB ⟨mo, ba, l, op, oh, ot, st, fe, fp, fh, ft, lo⟩ = 0) (hv : 0 ≤ v) :
    Calls Try.prog 68 #[.agg #[.int .i64 mo, .int .i64 ba, vc, .int .i64 op, .int .i64 oh, .int .i64 ot, .bool st, .int .i64 fe, .int .i64 fp, .int .i64 fh, .int .i64 ft, .bool lo], .int .i64 5, .int .i64 v] w fun e w' => SetOut mo ba op oh ot fe fp fh ft st lo vc l 5 v w e w' := by
  have HL : Hid (Ls w vc l) := h
  obtain ⟨ca, cc, rfl, -⟩ := h.shape
  obtain ⟨ck, hck⟩ : ∃ ck, ck = l.length := ⟨_, rfl⟩
  rw [← hck] at HL ⊢
  have HC : Hid ((chkB (setB ⟨mo, ba, l, op, oh, ot, st, fe, fp, fh, ft, lo⟩ 5 v) == 0) = decide (v ≤ mostB 5)) := setB_iff hb hv (by simp)
  have HS : Hid (setB ⟨mo, ba, l, op, oh, ot, st, fe, fp, fh, ft, lo⟩ 5 v = ⟨mo, ba, l, op, oh, ot, st, fe, v, fh, ft, lo⟩) := rfl
  obtain ⟨c, hc⟩ : ∃ c, chkB ⟨mo, ba, l, op, oh, ot, st, fe, v, fh, ft, lo⟩ = c := ⟨_, rfl⟩
  have HCC : Hid (chkB ⟨mo, ba, l, op, oh, ot, st, fe, v, fh, ft, lo⟩ = c) := hc
  obtain ⟨ok, hok⟩ : ∃ ok, (c == 0) = ok := ⟨_, rfl⟩
  have HOK : Hid (decide (v ≤ mostB 5) = ok) := by show _ = _; rw [← HC.out, HS.out, hc, hok]
  clear h hb hv hck hc HC
  go_enter Try.func68, Try.ntmps68
  have X0 := (Box.newAt (w := w) (n := w.heap.size) rfl 40 #[.int .i64 mo, .int .i64 ba, .slice ca ck cc, .int .i64 op, .int .i64 oh, .int .i64 ot, .bool st, .int .i64 fe, .int .i64 v, .int .i64 fh, .int .i64 ft, .bool lo]).past (.cells #[.int .i64 0, .int .i64 0, .slice none 0 0, .int .i64 0, .int .i64 0, .int .i64 0, .bool false, .int .i64 0, .int .i64 0, .int .i64 0, .int .i64 0, .bool false] 40)
  have X1 := Box.newAt (w := w.alloc (.cells #[.int .i64 mo, .int .i64 ba, .slice ca ck cc, .int .i64 op, .int .i64 oh, .int .i64 ot, .bool st, .int .i64 fe, .int .i64 v, .int .i64 fh, .int .i64 ft, .bool lo] 40)) (n := w.heap.size + 1) (by simp) 40 #[.int .i64 0, .int .i64 0, .slice none 0 0, .int .i64 0, .int .i64 0, .int .i64 0, .bool false, .int .i64 0, .int .i64 0, .int .i64 0, .int .i64 0, .bool false]
  have B0 : Hid (Below w.heap.size w _) := bel_alloc (bel_alloc (Below.refl w.heap.size w) (.cells #[.int .i64 mo, .int .i64 ba, .slice ca ck cc, .int .i64 op, .int .i64 oh, .int .i64 ot, .bool st, .int .i64 fe, .int .i64 v, .int .i64 fh, .int .i64 ft, .bool lo] 40)) (.cells #[.int .i64 0, .int .i64 0, .slice none 0 0, .int .i64 0, .int .i64 0, .int .i64 0, .bool false, .int .i64 0, .int .i64 0, .int .i64 0, .int .i64 0, .bool false] 40)
  go_upto_region 18 with fail
  generalize ((w.alloc (.cells #[.int .i64 mo, .int .i64 ba, .slice ca ck cc, .int .i64 op, .int .i64 oh, .int .i64 ot, .bool st, .int .i64 fe, .int .i64 v, .int .i64 fh, .int .i64 ft, .bool lo] 40)).alloc (.cells #[.int .i64 0, .int .i64 0, .slice none 0 0, .int .i64 0, .int .i64 0, .int .i64 0, .bool false, .int .i64 0, .int .i64 0, .int .i64 0, .int .i64 0, .bool false] 40)) = W at *
  have n0 : w.heap.size < w.heap.size + 1 := by omega
  have nW : w.heap.size + 1 ≤ W.heap.size := by have := X1.lt; omega
  have nV : w.heap.size ≤ w.heap.size + 1 := by omega
  obtain ⟨⟨d0, d1, d2, d3, d4, d5, d6, d7, d8, d9, d10, d11⟩, s0⟩ := X0.twelve
  go_region_held3 (fun w' => (w'.cell? ⟨w.heap.size, 0, none⟩ = some (.int .i64 mo) ∧ w'.cell? ⟨w.heap.size, 1, none⟩ = some (.int .i64 ba) ∧ w'.cell? ⟨w.heap.size, 2, none⟩ = some (.slice ca ck cc) ∧ w'.cell? ⟨w.heap.size, 3, none⟩ = some (.int .i64 op) ∧ w'.cell? ⟨w.heap.size, 4, none⟩ = some (.int .i64 oh) ∧ w'.cell? ⟨w.heap.size, 5, none⟩ = some (.int .i64 ot) ∧ w'.cell? ⟨w.heap.size, 6, none⟩ = some (.bool st) ∧ w'.cell? ⟨w.heap.size, 7, none⟩ = some (.int .i64 fe) ∧ w'.cell? ⟨w.heap.size, 8, none⟩ = some (.int .i64 v) ∧ w'.cell? ⟨w.heap.size, 9, none⟩ = some (.int .i64 fh) ∧ w'.cell? ⟨w.heap.size, 10, none⟩ = some (.int .i64 ft) ∧ w'.cell? ⟨w.heap.size, 11, none⟩ = some (.bool lo)) ∧ Below (w.heap.size + 1) W w')
    (with_reducible refine box12N X0 n0 ?_; (repeat (first | with_reducible assumption | (with_reducible (refine limb2 (?_ : _ ∧ _); assumption)) | with_reducible exact Below.refl _ _ | with_reducible refine Below.drew ?_ | with_reducible refine below_drewN ?_ _ | (with_reducible refine belN_alloc nW ?_ _) | (with_reducible refine belN_set ?_ ?_ _; (focus (first | with_reducible exact Nat.le_refl _ | with_reducible exact Nat.le_succ _))) | (with_reducible refine belN_trans (by assumption) nW ?_))))
    (first
      | (go_at_call 26; refine (bCheck_any mo ba op oh ot fe v fh ft st lo _ l _ ?_).mono ?_; (focus (refine HL.out.keep (B0.out.trans (Below.mono ?_ nV)); (repeat (first | with_reducible assumption | (with_reducible (refine limb2 (?_ : _ ∧ _); assumption)) | with_reducible exact Below.refl _ _ | with_reducible refine Below.drew ?_ | with_reducible refine below_drewN ?_ _ | (with_reducible refine belN_alloc nW ?_ _) | (with_reducible refine belN_set ?_ ?_ _; (focus (first | with_reducible exact Nat.le_refl _ | with_reducible exact Nat.le_succ _))) | (with_reducible refine belN_trans (by assumption) nW ?_))))); rintro e w5 ⟨rfl, b5⟩; rw [HCC.out]; obtain ⟨⟨u0, u1, u2, u3, u4, u5, u6, u7, u8, u9, u10, u11⟩, s5⟩ := (X1.drew.keep b5).twelve; have f5 := (X1.drew.keep b5).marksAll))
  rename_i hH
  have hB := limb2 hH
  clear hH
  have HB : Hid (Below w.heap.size w _) := B0.out.trans (hB.mono nV)
  clear hB
  go_wp2
  refine bodyPost_ret (v := .tuple #[.agg #[.int .i64 mo, .int .i64 ba, .slice ca ck cc, .int .i64 op, .int .i64 oh, .int .i64 ot, .bool st, .int .i64 fe, .int .i64 v, .int .i64 fh, .int .i64 ft, .bool lo], .bool ok]) (by simp [results, Try.results68, go_sem, *]) rfl ⟨_, _, _, _, _, _, _, _, _, _, _, _, _, _, by rw [HOK.out], fun _ => ⟨rfl, HS.out⟩, HB.out⟩

set_option maxRecDepth 10000 in
set_option maxHeartbeats 4000000 in
theorem set_6 (mo ba op oh ot fe fp fh ft : Int) (st lo : Bool) (vc : Value) (l : List Ln) (v : Int) (w : World) (h : Ls w vc l) (hb : chkB ⟨mo, ba, l, op, oh, ot, st, fe, fp, fh, ft, lo⟩ = 0) (hv : 0 ≤ v) :
    Calls Try.prog 68 #[.agg #[.int .i64 mo, .int .i64 ba, vc, .int .i64 op, .int .i64 oh, .int .i64 ot, .bool st, .int .i64 fe, .int .i64 fp, .int .i64 fh, .int .i64 ft, .bool lo], .int .i64 6, .int .i64 v] w fun e w' => SetOut mo ba op oh ot fe fp fh ft st lo vc l 6 v w e w' := by
  have HL : Hid (Ls w vc l) := h
  obtain ⟨ca, cc, rfl, -⟩ := h.shape
  obtain ⟨ck, hck⟩ : ∃ ck, ck = l.length := ⟨_, rfl⟩
  rw [← hck] at HL ⊢
  have HC : Hid ((chkB (setB ⟨mo, ba, l, op, oh, ot, st, fe, fp, fh, ft, lo⟩ 6 v) == 0) = decide (v ≤ mostB 6)) := setB_iff hb hv (by simp)
  have HS : Hid (setB ⟨mo, ba, l, op, oh, ot, st, fe, fp, fh, ft, lo⟩ 6 v = ⟨mo, ba, l, op, oh, ot, st, fe, fp, v, ft, lo⟩) := rfl
  obtain ⟨c, hc⟩ : ∃ c, chkB ⟨mo, ba, l, op, oh, ot, st, fe, fp, v, ft, lo⟩ = c := ⟨_, rfl⟩
  have HCC : Hid (chkB ⟨mo, ba, l, op, oh, ot, st, fe, fp, v, ft, lo⟩ = c) := hc
  obtain ⟨ok, hok⟩ : ∃ ok, (c == 0) = ok := ⟨_, rfl⟩
  have HOK : Hid (decide (v ≤ mostB 6) = ok) := by show _ = _; rw [← HC.out, HS.out, hc, hok]
  clear h hb hv hck hc HC
  go_enter Try.func68, Try.ntmps68
  have X0 := (Box.newAt (w := w) (n := w.heap.size) rfl 40 #[.int .i64 mo, .int .i64 ba, .slice ca ck cc, .int .i64 op, .int .i64 oh, .int .i64 ot, .bool st, .int .i64 fe, .int .i64 fp, .int .i64 v, .int .i64 ft, .bool lo]).past (.cells #[.int .i64 0, .int .i64 0, .slice none 0 0, .int .i64 0, .int .i64 0, .int .i64 0, .bool false, .int .i64 0, .int .i64 0, .int .i64 0, .int .i64 0, .bool false] 40)
  have X1 := Box.newAt (w := w.alloc (.cells #[.int .i64 mo, .int .i64 ba, .slice ca ck cc, .int .i64 op, .int .i64 oh, .int .i64 ot, .bool st, .int .i64 fe, .int .i64 fp, .int .i64 v, .int .i64 ft, .bool lo] 40)) (n := w.heap.size + 1) (by simp) 40 #[.int .i64 0, .int .i64 0, .slice none 0 0, .int .i64 0, .int .i64 0, .int .i64 0, .bool false, .int .i64 0, .int .i64 0, .int .i64 0, .int .i64 0, .bool false]
  have B0 : Hid (Below w.heap.size w _) := bel_alloc (bel_alloc (Below.refl w.heap.size w) (.cells #[.int .i64 mo, .int .i64 ba, .slice ca ck cc, .int .i64 op, .int .i64 oh, .int .i64 ot, .bool st, .int .i64 fe, .int .i64 fp, .int .i64 v, .int .i64 ft, .bool lo] 40)) (.cells #[.int .i64 0, .int .i64 0, .slice none 0 0, .int .i64 0, .int .i64 0, .int .i64 0, .bool false, .int .i64 0, .int .i64 0, .int .i64 0, .int .i64 0, .bool false] 40)
  go_upto_region 18 with fail
  generalize ((w.alloc (.cells #[.int .i64 mo, .int .i64 ba, .slice ca ck cc, .int .i64 op, .int .i64 oh, .int .i64 ot, .bool st, .int .i64 fe, .int .i64 fp, .int .i64 v, .int .i64 ft, .bool lo] 40)).alloc (.cells #[.int .i64 0, .int .i64 0, .slice none 0 0, .int .i64 0, .int .i64 0, .int .i64 0, .bool false, .int .i64 0, .int .i64 0, .int .i64 0, .int .i64 0, .bool false] 40)) = W at *
  have n0 : w.heap.size < w.heap.size + 1 := by omega
  have nW : w.heap.size + 1 ≤ W.heap.size := by have := X1.lt; omega
  have nV : w.heap.size ≤ w.heap.size + 1 := by omega
  obtain ⟨⟨d0, d1, d2, d3, d4, d5, d6, d7, d8, d9, d10, d11⟩, s0⟩ := X0.twelve
  go_region_held3 (fun w' => (w'.cell? ⟨w.heap.size, 0, none⟩ = some (.int .i64 mo) ∧ w'.cell? ⟨w.heap.size, 1, none⟩ = some (.int .i64 ba) ∧ w'.cell? ⟨w.heap.size, 2, none⟩ = some (.slice ca ck cc) ∧ w'.cell? ⟨w.heap.size, 3, none⟩ = some (.int .i64 op) ∧ w'.cell? ⟨w.heap.size, 4, none⟩ = some (.int .i64 oh) ∧ w'.cell? ⟨w.heap.size, 5, none⟩ = some (.int .i64 ot) ∧ w'.cell? ⟨w.heap.size, 6, none⟩ = some (.bool st) ∧ w'.cell? ⟨w.heap.size, 7, none⟩ = some (.int .i64 fe) ∧ w'.cell? ⟨w.heap.size, 8, none⟩ = some (.int .i64 fp) ∧ w'.cell? ⟨w.heap.size, 9, none⟩ = some (.int .i64 v) ∧ w'.cell? ⟨w.heap.size, 10, none⟩ = some (.int .i64 ft) ∧ w'.cell? ⟨w.heap.size, 11, none⟩ = some (.bool lo)) ∧ Below (w.heap.size + 1) W w')
    (with_reducible refine box12N X0 n0 ?_; (repeat (first | with_reducible assumption | (with_reducible (refine limb2 (?_ : _ ∧ _); assumption)) | with_reducible exact Below.refl _ _ | with_reducible refine Below.drew ?_ | with_reducible refine below_drewN ?_ _ | (with_reducible refine belN_alloc nW ?_ _) | (with_reducible refine belN_set ?_ ?_ _; (focus (first | with_reducible exact Nat.le_refl _ | with_reducible exact Nat.le_succ _))) | (with_reducible refine belN_trans (by assumption) nW ?_))))
    (first
      | (go_at_call 26; refine (bCheck_any mo ba op oh ot fe fp v ft st lo _ l _ ?_).mono ?_; (focus (refine HL.out.keep (B0.out.trans (Below.mono ?_ nV)); (repeat (first | with_reducible assumption | (with_reducible (refine limb2 (?_ : _ ∧ _); assumption)) | with_reducible exact Below.refl _ _ | with_reducible refine Below.drew ?_ | with_reducible refine below_drewN ?_ _ | (with_reducible refine belN_alloc nW ?_ _) | (with_reducible refine belN_set ?_ ?_ _; (focus (first | with_reducible exact Nat.le_refl _ | with_reducible exact Nat.le_succ _))) | (with_reducible refine belN_trans (by assumption) nW ?_))))); rintro e w5 ⟨rfl, b5⟩; rw [HCC.out]; obtain ⟨⟨u0, u1, u2, u3, u4, u5, u6, u7, u8, u9, u10, u11⟩, s5⟩ := (X1.drew.keep b5).twelve; have f5 := (X1.drew.keep b5).marksAll))
  rename_i hH
  have hB := limb2 hH
  clear hH
  have HB : Hid (Below w.heap.size w _) := B0.out.trans (hB.mono nV)
  clear hB
  go_wp2
  refine bodyPost_ret (v := .tuple #[.agg #[.int .i64 mo, .int .i64 ba, .slice ca ck cc, .int .i64 op, .int .i64 oh, .int .i64 ot, .bool st, .int .i64 fe, .int .i64 fp, .int .i64 v, .int .i64 ft, .bool lo], .bool ok]) (by simp [results, Try.results68, go_sem, *]) rfl ⟨_, _, _, _, _, _, _, _, _, _, _, _, _, _, by rw [HOK.out], fun _ => ⟨rfl, HS.out⟩, HB.out⟩

end Go.Proofs.Ytfbmmiikhkmpfac
/-
  Package hart: set at every register.
-/
namespace Go.Proofs.Ytfbmmiikhkmpfac
open Go.RowKit

set_option maxRecDepth 10000 in
set_option maxHeartbeats 4000000 in
theorem set_9 (mo ba op oh ot fe fp fh ft : Int) (st lo : Bool) (vc : Value) (l : List Ln) (v : Int) (w : World) (h : Ls w vc l) (hv : 0 ≤ v) :
    Calls Try.prog 68 #[.agg #[.int .i64 mo, .int .i64 ba, vc, .int .i64 op, .int .i64 oh, .int .i64 ot, .bool st, .int .i64 fe, .int .i64 fp, .int .i64 fh, .int .i64 ft, .bool lo], .int .i64 9, .int .i64 v] w fun e w' => SetOut mo ba op oh ot fe fp fh ft st lo vc l 9 v w e w' := by
  obtain ⟨ca, cc, rfl, -⟩ := h.shape
  obtain ⟨ck, hck⟩ : ∃ ck, ck = l.length := ⟨_, rfl⟩
  rw [← hck]
  have HS : Hid (setB ⟨mo, ba, l, op, oh, ot, st, fe, fp, fh, ft, lo⟩ 9 v = ⟨mo, ba, l, op, oh, ot, false, fe, fp, fh, ft, false⟩) := rfl
  obtain ⟨ok, hok⟩ : ∃ ok, (v == 0) = ok := ⟨_, rfl⟩
  have HOK : Hid (decide (v ≤ mostB 9) = ok) := by
    show _ = _
    rw [← hok]
    have : mostB 9 = 0 := rfl
    rw [this]
    by_cases e : v = 0
    · subst e; rfl
    · rw [decide_eq_false (by omega)]; simpa using e
  clear h hv hck
  go_enter Try.func68, Try.ntmps68
  go_wp2
  refine bodyPost_ret (v := .tuple #[.agg #[.int .i64 mo, .int .i64 ba, .slice ca ck cc, .int .i64 op, .int .i64 oh, .int .i64 ot, .bool false, .int .i64 fe, .int .i64 fp, .int .i64 fh, .int .i64 ft, .bool false], .bool ok]) (by simp [results, Try.results68, go_sem, *]) rfl ⟨_, _, _, _, _, _, _, _, _, _, _, _, _, _, by rw [HOK.out], fun _ => ⟨rfl, HS.out⟩, ?_⟩
  exact bel_alloc (bel_alloc (Below.refl _ _) _) _

set_option maxRecDepth 10000 in
set_option maxHeartbeats 4000000 in
theorem set_no (mo ba op oh ot fe fp fh ft : Int) (st lo : Bool) (vc : Value) (l : List Ln) (i v : Int) (w : World) (h : Ls w vc l) (hv : 0 ≤ v) (hi : ¬ (i = 0 ∨ i = 1 ∨ i = 2 ∨ i = 3 ∨ i = 5 ∨ i = 6 ∨ i = 9)) :
    Calls Try.prog 68 #[.agg #[.int .i64 mo, .int .i64 ba, vc, .int .i64 op, .int .i64 oh, .int .i64 ot, .bool st, .int .i64 fe, .int .i64 fp, .int .i64 fh, .int .i64 ft, .bool lo], .int .i64 i, .int .i64 v] w fun e w' => SetOut mo ba op oh ot fe fp fh ft st lo vc l i v w e w' := by
  obtain ⟨ca, cc, rfl, -⟩ := h.shape
  obtain ⟨ck, hck⟩ : ∃ ck, ck = l.length := ⟨_, rfl⟩
  rw [← hck]
  have hm : mostB i = -1 := by unfold mostB; rw [if_neg (by omega), if_neg (by omega), if_neg (by omega), if_neg (by omega)]
  have HM : Hid (decide (v ≤ mostB i) = false) := decide_eq_false (by rw [hm]; omega)
  have i0 : (i == 0) = false := by simp; omega
  have i1 : (i == 1) = false := by simp; omega
  have i2 : (i == 2) = false := by simp; omega
  have i3 : (i == 3) = false := by simp; omega
  have i5 : (i == 5) = false := by simp; omega
  have i6 : (i == 6) = false := by simp; omega
  have i9 : (i == 9) = false := by simp; omega
  clear h hv hck hi hm
  go_enter Try.func68, Try.ntmps68
  go_wp2
  refine bodyPost_ret (v := .tuple #[.agg #[.int .i64 0, .int .i64 0, .slice none 0 0, .int .i64 0, .int .i64 0, .int .i64 0, .bool false, .int .i64 0, .int .i64 0, .int .i64 0, .int .i64 0, .bool false], .bool false]) (by simp [results, Try.results68, go_sem, *]) rfl ⟨_, _, _, _, _, _, _, _, _, _, _, _, _, _, by rw [HM.out], fun q => absurd q (of_decide_eq_false HM.out), ?_⟩
  exact bel_alloc (bel_alloc (Below.refl _ _) _) _

theorem set_any (mo ba op oh ot fe fp fh ft : Int) (st lo : Bool) (vc : Value) (l : List Ln) (i v : Int) (w : World) (h : Ls w vc l) (hb : chkB ⟨mo, ba, l, op, oh, ot, st, fe, fp, fh, ft, lo⟩ = 0) (hv : 0 ≤ v) :
    Calls Try.prog 68 #[.agg #[.int .i64 mo, .int .i64 ba, vc, .int .i64 op, .int .i64 oh, .int .i64 ot, .bool st, .int .i64 fe, .int .i64 fp, .int .i64 fh, .int .i64 ft, .bool lo], .int .i64 i, .int .i64 v] w fun e w' => SetOut mo ba op oh ot fe fp fh ft st lo vc l i v w e w' := by
  by_cases hi : i = 0 ∨ i = 1 ∨ i = 2 ∨ i = 3 ∨ i = 5 ∨ i = 6 ∨ i = 9
  · rcases hi with rfl | rfl | rfl | rfl | rfl | rfl | rfl
    · exact set_0 mo ba op oh ot fe fp fh ft st lo vc l v w h hb hv
    · exact set_1 mo ba op oh ot fe fp fh ft st lo vc l v w h hb hv
    · exact set_2 mo ba op oh ot fe fp fh ft st lo vc l v w h hb hv
    · exact set_3 mo ba op oh ot fe fp fh ft st lo vc l v w h hb hv
    · exact set_5 mo ba op oh ot fe fp fh ft st lo vc l v w h hb hv
    · exact set_6 mo ba op oh ot fe fp fh ft st lo vc l v w h hb hv
    · exact set_9 mo ba op oh ot fe fp fh ft st lo vc l v w h hv
  · exact set_no mo ba op oh ot fe fp fh ft st lo vc l i v w h hv hi
end Go.Proofs.Ytfbmmiikhkmpfac
/-
  Package hart: out: a register into a register of the bridge, or not; nothing that was there turns.
-/
namespace Go.Proofs.Ytfbmmiikhkmpfac
open Go.RowKit

/-- The bridge of a state is set. -/
theorem Box.setBr {w : World} {n : Nat} {t : TypeId} {a0 a1 a2 a3 a4 a5 a6 a7 a8 a9 a10 a11 a12 a13 a14 a15 a16 a17 a18 a19 a20 a21 : Value} (h : Box w n t #[a0, a1, a2, a3, a4, a5, a6, a7, a8, a9, a10, a11, a12, a13, a14, a15, a16, a17, a18, a19, a20, a21]) (u0 u1 u2 u3 u4 u5 u6 u7 u8 u9 u10 u11 : Value) :
    Box ((((((((((((w.setCell ⟨n, 10, none⟩ u0).setCell ⟨n, 11, none⟩ u1).setCell ⟨n, 12, none⟩ u2).setCell ⟨n, 13, none⟩ u3).setCell ⟨n, 14, none⟩ u4).setCell ⟨n, 15, none⟩ u5).setCell ⟨n, 16, none⟩ u6).setCell ⟨n, 17, none⟩ u7).setCell ⟨n, 18, none⟩ u8).setCell ⟨n, 19, none⟩ u9).setCell ⟨n, 20, none⟩ u10).setCell ⟨n, 21, none⟩ u11) n t #[a0, a1, a2, a3, a4, a5, a6, a7, a8, a9, u0, u1, u2, u3, u4, u5, u6, u7, u8, u9, u10, u11] := by
  have h0 : Box _ n t #[a0, a1, a2, a3, a4, a5, a6, a7, a8, a9, u0, a11, a12, a13, a14, a15, a16, a17, a18, a19, a20, a21] := h.set 10 u0
  have h1 : Box _ n t #[a0, a1, a2, a3, a4, a5, a6, a7, a8, a9, u0, u1, a12, a13, a14, a15, a16, a17, a18, a19, a20, a21] := h0.set 11 u1
  have h2 : Box _ n t #[a0, a1, a2, a3, a4, a5, a6, a7, a8, a9, u0, u1, u2, a13, a14, a15, a16, a17, a18, a19, a20, a21] := h1.set 12 u2
  have h3 : Box _ n t #[a0, a1, a2, a3, a4, a5, a6, a7, a8, a9, u0, u1, u2, u3, a14, a15, a16, a17, a18, a19, a20, a21] := h2.set 13 u3
  have h4 : Box _ n t #[a0, a1, a2, a3, a4, a5, a6, a7, a8, a9, u0, u1, u2, u3, u4, a15, a16, a17, a18, a19, a20, a21] := h3.set 14 u4
  have h5 : Box _ n t #[a0, a1, a2, a3, a4, a5, a6, a7, a8, a9, u0, u1, u2, u3, u4, u5, a16, a17, a18, a19, a20, a21] := h4.set 15 u5
  have h6 : Box _ n t #[a0, a1, a2, a3, a4, a5, a6, a7, a8, a9, u0, u1, u2, u3, u4, u5, u6, a17, a18, a19, a20, a21] := h5.set 16 u6
  have h7 : Box _ n t #[a0, a1, a2, a3, a4, a5, a6, a7, a8, a9, u0, u1, u2, u3, u4, u5, u6, u7, a18, a19, a20, a21] := h6.set 17 u7
  have h8 : Box _ n t #[a0, a1, a2, a3, a4, a5, a6, a7, a8, a9, u0, u1, u2, u3, u4, u5, u6, u7, u8, a19, a20, a21] := h7.set 18 u8
  have h9 : Box _ n t #[a0, a1, a2, a3, a4, a5, a6, a7, a8, a9, u0, u1, u2, u3, u4, u5, u6, u7, u8, u9, a20, a21] := h8.set 19 u9
  have h10 : Box _ n t #[a0, a1, a2, a3, a4, a5, a6, a7, a8, a9, u0, u1, u2, u3, u4, u5, u6, u7, u8, u9, u10, a21] := h9.set 20 u10
  have h11 : Box _ n t #[a0, a1, a2, a3, a4, a5, a6, a7, a8, a9, u0, u1, u2, u3, u4, u5, u6, u7, u8, u9, u10, u11] := h10.set 21 u11
  exact h11
theorem Box.otherBr {w : World} {n m : Nat} {t : TypeId} {cs : Array Value} (h : Box w n t cs) (hp : n ≠ m) (u0 u1 u2 u3 u4 u5 u6 u7 u8 u9 u10 u11 : Value) : Box ((((((((((((w.setCell ⟨m, 10, none⟩ u0).setCell ⟨m, 11, none⟩ u1).setCell ⟨m, 12, none⟩ u2).setCell ⟨m, 13, none⟩ u3).setCell ⟨m, 14, none⟩ u4).setCell ⟨m, 15, none⟩ u5).setCell ⟨m, 16, none⟩ u6).setCell ⟨m, 17, none⟩ u7).setCell ⟨m, 18, none⟩ u8).setCell ⟨m, 19, none⟩ u9).setCell ⟨m, 20, none⟩ u10).setCell ⟨m, 21, none⟩ u11) n t cs :=
  ((((((((((((h.other (p := ⟨m, 10, none⟩) hp u0).other (p := ⟨m, 11, none⟩) hp u1).other (p := ⟨m, 12, none⟩) hp u2).other (p := ⟨m, 13, none⟩) hp u3).other (p := ⟨m, 14, none⟩) hp u4).other (p := ⟨m, 15, none⟩) hp u5).other (p := ⟨m, 16, none⟩) hp u6).other (p := ⟨m, 17, none⟩) hp u7).other (p := ⟨m, 18, none⟩) hp u8).other (p := ⟨m, 19, none⟩) hp u9).other (p := ⟨m, 20, none⟩) hp u10).other (p := ⟨m, 21, none⟩) hp u11)
theorem bel_setBr {a w : World} {m : Nat} (hp : a.heap.size ≤ m) (h : Below a.heap.size a w) (u0 u1 u2 u3 u4 u5 u6 u7 u8 u9 u10 u11 : Value) : Below a.heap.size a ((((((((((((w.setCell ⟨m, 10, none⟩ u0).setCell ⟨m, 11, none⟩ u1).setCell ⟨m, 12, none⟩ u2).setCell ⟨m, 13, none⟩ u3).setCell ⟨m, 14, none⟩ u4).setCell ⟨m, 15, none⟩ u5).setCell ⟨m, 16, none⟩ u6).setCell ⟨m, 17, none⟩ u7).setCell ⟨m, 18, none⟩ u8).setCell ⟨m, 19, none⟩ u9).setCell ⟨m, 20, none⟩ u10).setCell ⟨m, 21, none⟩ u11) :=
  ((((((((((((h.setCell (p := ⟨m, 10, none⟩) hp u0).setCell (p := ⟨m, 11, none⟩) hp u1).setCell (p := ⟨m, 12, none⟩) hp u2).setCell (p := ⟨m, 13, none⟩) hp u3).setCell (p := ⟨m, 14, none⟩) hp u4).setCell (p := ⟨m, 15, none⟩) hp u5).setCell (p := ⟨m, 16, none⟩) hp u6).setCell (p := ⟨m, 17, none⟩) hp u7).setCell (p := ⟨m, 18, none⟩) hp u8).setCell (p := ⟨m, 19, none⟩) hp u9).setCell (p := ⟨m, 20, none⟩) hp u10).setCell (p := ⟨m, 21, none⟩) hp u11)

set_option maxRecDepth 10000 in
set_option maxHeartbeats 4000000 in
theorem hOut_any (am : Option Addr) (nm cm : Nat) (pc : Int) (rs : List Int) (mo ba op oh ot fe fp fh ft : Int) (st lo : Bool) (ca : Option Addr) (ck cc : Nat) (l : List Ln) (k x y i : Int) (w : World) (hL : Ls w (.slice ca ck cc) l) (hb : chkB ⟨mo, ba, l, op, oh, ot, st, fe, fp, fh, ft, lo⟩ = 0) (h8 : rs.length = 8) (hw : ∀ j, j < 8 → 0 ≤ nth rs j ∧ nth rs j ≤ 65535) (hx : 0 ≤ x ∧ x ≤ 7) (hy : 0 ≤ y ∧ y ≤ 7) (hi : 0 ≤ i ∧ i ≤ 63) :
    Calls Try.prog 60 #[.agg #[.slice am nm cm, .int .i64 pc, .int .i64 (nth rs 0), .int .i64 (nth rs 1), .int .i64 (nth rs 2), .int .i64 (nth rs 3), .int .i64 (nth rs 4), .int .i64 (nth rs 5), .int .i64 (nth rs 6), .int .i64 (nth rs 7), .int .i64 mo, .int .i64 ba, .slice ca ck cc, .int .i64 op, .int .i64 oh, .int .i64 ot, .bool st, .int .i64 fe, .int .i64 fp, .int .i64 fh, .int .i64 ft, .bool lo], .agg #[.int .i64 k, .int .i64 x, .int .i64 y, .int .i64 i]] w fun e w' =>
      ∃ mo1 ba1 op1 oh1 ot1 fe1 fp1 fh1 ft1 st1 lo1 ca1 ck1 cc1, e = .returned (.tuple #[.agg #[.slice am nm cm, .int .i64 pc, .int .i64 (nth rs 0), .int .i64 (nth rs 1), .int .i64 (nth rs 2), .int .i64 (nth rs 3), .int .i64 (nth rs 4), .int .i64 (nth rs 5), .int .i64 (nth rs 6), .int .i64 (nth rs 7), .int .i64 mo1, .int .i64 ba1, .slice ca1 ck1 cc1, .int .i64 op1, .int .i64 oh1, .int .i64 ot1, .bool st1, .int .i64 fe1, .int .i64 fp1, .int .i64 fh1, .int .i64 ft1, .bool lo1], .bool (decide (nth rs x.toNat ≤ mostB i))]) ∧ (nth rs x.toNat ≤ mostB i → Value.slice ca ck cc = .slice ca1 ck1 cc1 ∧ setB ⟨mo, ba, l, op, oh, ot, st, fe, fp, fh, ft, lo⟩ i (nth rs x.toNat) = ⟨mo1, ba1, l, op1, oh1, ot1, st1, fe1, fp1, fh1, ft1, lo1⟩) ∧ Below w.heap.size w w' := by
  have HL : Hid (Ls w (.slice ca ck cc) l) := hL
  have HB : Hid (chkB ⟨mo, ba, l, op, oh, ot, st, fe, fp, fh, ft, lo⟩ = 0) := hb
  obtain ⟨hx0, hx1⟩ := hx
  obtain ⟨hy0, hy1⟩ := hy
  obtain ⟨hi0, hi1⟩ := hi
  have hx9 : x < 8 := by omega
  have hy9 : y < 8 := by omega
  have hx8 : x.toNat < 8 := by omega
  have hy8 : y.toNat < 8 := by omega
  have H8 : Hid (rs.length = 8) := h8
  have rx := hw x.toNat hx8
  have ry := hw y.toNat hy8
  obtain ⟨one, h1⟩ : ∃ one, nth rs x.toNat = one := ⟨_, rfl⟩
  obtain ⟨two, h2⟩ : ∃ two, nth rs y.toNat = two := ⟨_, rfl⟩
  have H1 : Hid (nth rs x.toNat = one) := h1
  have H2 : Hid (nth rs y.toNat = two) := h2
  rw [h1] at rx
  rw [h2] at ry
  rw [h1]
  obtain ⟨rx0, rx1⟩ := rx
  have HR0 : Hid (0 ≤ one) := rx0
  obtain ⟨ok, hok⟩ : ∃ ok, decide (one ≤ mostB i) = ok := ⟨_, rfl⟩
  have HOK : Hid (decide (one ≤ mostB i) = ok) := hok
  clear hok h1 h2 h8 hw rx0 rx1 ry hL hb
  go_enter Try.func60, Try.ntmps60
  go_upto_region 1 with fail
  have X0 := ((Box.newAt (w := w) (n := w.heap.size) rfl 66 #[.slice am nm cm, .int .i64 pc, .int .i64 (nth rs 0), .int .i64 (nth rs 1), .int .i64 (nth rs 2), .int .i64 (nth rs 3), .int .i64 (nth rs 4), .int .i64 (nth rs 5), .int .i64 (nth rs 6), .int .i64 (nth rs 7), .int .i64 mo, .int .i64 ba, .slice ca ck cc, .int .i64 op, .int .i64 oh, .int .i64 ot, .bool st, .int .i64 fe, .int .i64 fp, .int .i64 fh, .int .i64 ft, .bool lo]).past (.cells #[.int .i64 k, .int .i64 x, .int .i64 y, .int .i64 i] 23)).past (.cells #[.slice none 0 0, .int .i64 0, .int .i64 0, .int .i64 0, .int .i64 0, .int .i64 0, .int .i64 0, .int .i64 0, .int .i64 0, .int .i64 0, .int .i64 0, .int .i64 0, .slice none 0 0, .int .i64 0, .int .i64 0, .int .i64 0, .bool false, .int .i64 0, .int .i64 0, .int .i64 0, .int .i64 0, .bool false] 66)
  have X1 := (Box.newAt (w := w.alloc (.cells #[.slice am nm cm, .int .i64 pc, .int .i64 (nth rs 0), .int .i64 (nth rs 1), .int .i64 (nth rs 2), .int .i64 (nth rs 3), .int .i64 (nth rs 4), .int .i64 (nth rs 5), .int .i64 (nth rs 6), .int .i64 (nth rs 7), .int .i64 mo, .int .i64 ba, .slice ca ck cc, .int .i64 op, .int .i64 oh, .int .i64 ot, .bool st, .int .i64 fe, .int .i64 fp, .int .i64 fh, .int .i64 ft, .bool lo] 66)) (n := w.heap.size + 1) (by simp) 23 #[.int .i64 k, .int .i64 x, .int .i64 y, .int .i64 i]).past (.cells #[.slice none 0 0, .int .i64 0, .int .i64 0, .int .i64 0, .int .i64 0, .int .i64 0, .int .i64 0, .int .i64 0, .int .i64 0, .int .i64 0, .int .i64 0, .int .i64 0, .slice none 0 0, .int .i64 0, .int .i64 0, .int .i64 0, .bool false, .int .i64 0, .int .i64 0, .int .i64 0, .int .i64 0, .bool false] 66)
  have X2 := Box.newAt (w := (w.alloc (.cells #[.slice am nm cm, .int .i64 pc, .int .i64 (nth rs 0), .int .i64 (nth rs 1), .int .i64 (nth rs 2), .int .i64 (nth rs 3), .int .i64 (nth rs 4), .int .i64 (nth rs 5), .int .i64 (nth rs 6), .int .i64 (nth rs 7), .int .i64 mo, .int .i64 ba, .slice ca ck cc, .int .i64 op, .int .i64 oh, .int .i64 ot, .bool st, .int .i64 fe, .int .i64 fp, .int .i64 fh, .int .i64 ft, .bool lo] 66)).alloc (.cells #[.int .i64 k, .int .i64 x, .int .i64 y, .int .i64 i] 23)) (n := w.heap.size + 1 + 1) (by simp) 66 #[.slice none 0 0, .int .i64 0, .int .i64 0, .int .i64 0, .int .i64 0, .int .i64 0, .int .i64 0, .int .i64 0, .int .i64 0, .int .i64 0, .int .i64 0, .int .i64 0, .slice none 0 0, .int .i64 0, .int .i64 0, .int .i64 0, .bool false, .int .i64 0, .int .i64 0, .int .i64 0, .int .i64 0, .bool false]
  have B0 : Hid (Below w.heap.size w _) := bel_alloc (bel_alloc (bel_alloc (Below.refl w.heap.size w) (.cells #[.slice am nm cm, .int .i64 pc, .int .i64 (nth rs 0), .int .i64 (nth rs 1), .int .i64 (nth rs 2), .int .i64 (nth rs 3), .int .i64 (nth rs 4), .int .i64 (nth rs 5), .int .i64 (nth rs 6), .int .i64 (nth rs 7), .int .i64 mo, .int .i64 ba, .slice ca ck cc, .int .i64 op, .int .i64 oh, .int .i64 ot, .bool st, .int .i64 fe, .int .i64 fp, .int .i64 fh, .int .i64 ft, .bool lo] 66)) (.cells #[.int .i64 k, .int .i64 x, .int .i64 y, .int .i64 i] 23)) (.cells #[.slice none 0 0, .int .i64 0, .int .i64 0, .int .i64 0, .int .i64 0, .int .i64 0, .int .i64 0, .int .i64 0, .int .i64 0, .int .i64 0, .int .i64 0, .int .i64 0, .slice none 0 0, .int .i64 0, .int .i64 0, .int .i64 0, .bool false, .int .i64 0, .int .i64 0, .int .i64 0, .int .i64 0, .bool false] 66)
  have W3 : Hid ((((w.alloc (.cells #[.slice am nm cm, .int .i64 pc, .int .i64 (nth rs 0), .int .i64 (nth rs 1), .int .i64 (nth rs 2), .int .i64 (nth rs 3), .int .i64 (nth rs 4), .int .i64 (nth rs 5), .int .i64 (nth rs 6), .int .i64 (nth rs 7), .int .i64 mo, .int .i64 ba, .slice ca ck cc, .int .i64 op, .int .i64 oh, .int .i64 ot, .bool st, .int .i64 fe, .int .i64 fp, .int .i64 fh, .int .i64 ft, .bool lo] 66)).alloc (.cells #[.int .i64 k, .int .i64 x, .int .i64 y, .int .i64 i] 23)).alloc (.cells #[.slice none 0 0, .int .i64 0, .int .i64 0, .int .i64 0, .int .i64 0, .int .i64 0, .int .i64 0, .int .i64 0, .int .i64 0, .int .i64 0, .int .i64 0, .int .i64 0, .slice none 0 0, .int .i64 0, .int .i64 0, .int .i64 0, .bool false, .int .i64 0, .int .i64 0, .int .i64 0, .int .i64 0, .bool false] 66)).heap.size = w.heap.size + 1 + 1 + 1) := by show _ = _; simp
  generalize (((w.alloc (.cells #[.slice am nm cm, .int .i64 pc, .int .i64 (nth rs 0), .int .i64 (nth rs 1), .int .i64 (nth rs 2), .int .i64 (nth rs 3), .int .i64 (nth rs 4), .int .i64 (nth rs 5), .int .i64 (nth rs 6), .int .i64 (nth rs 7), .int .i64 mo, .int .i64 ba, .slice ca ck cc, .int .i64 op, .int .i64 oh, .int .i64 ot, .bool st, .int .i64 fe, .int .i64 fp, .int .i64 fh, .int .i64 ft, .bool lo] 66)).alloc (.cells #[.int .i64 k, .int .i64 x, .int .i64 y, .int .i64 i] 23)).alloc (.cells #[.slice none 0 0, .int .i64 0, .int .i64 0, .int .i64 0, .int .i64 0, .int .i64 0, .int .i64 0, .int .i64 0, .int .i64 0, .int .i64 0, .int .i64 0, .int .i64 0, .slice none 0 0, .int .i64 0, .int .i64 0, .int .i64 0, .bool false, .int .i64 0, .int .i64 0, .int .i64 0, .int .i64 0, .bool false] 66)) = W at *
  refine wp_region_held_drew (S := fun w' => Below W.heap.size W w') (by kernel_rfl) (Below.drew (Below.refl _ _)) (fun hHeld => ?_)
  refine wpHeld_takeL (i := 0) (v := ?_) rfl (by kernel_rfl) (by kernel_rfl) (by kernel_rfl) (fun _ _ _ h => h) (Or.inl ⟨by kernel_rfl, ?_⟩) (by assumption) ?_
  rotate_left 1
  focus (intro wz hSz; (try dsimp only at hSz); (obtain ⟨⟨q0, q1, q2, q3, q4, q5, q6, q7, q8, q9⟩, ⟨g0, g1, g2, g3, g4, g5, g6, g7, g8, g9, g10, g11⟩, s0⟩ := (X0.keep hSz).state); (obtain ⟨i0, i1, i2, i3, -, -, -, -, s1⟩ := (X1.keep hSz).four); (have gx := (X0.keep hSz).reg hx8); (rw [H1.out] at gx); (have gy := (X0.keep hSz).reg hy8); (rw [H2.out] at gy); go_simp; (try with_reducible rfl))
  simp only [Act.put, List.setIfInBounds_toArray, List.set_cons_zero, List.set_cons_succ]
  refine wpHeld_takeL (i := 1) (v := ?_) rfl (by kernel_rfl) (by kernel_rfl) (by kernel_rfl) (fun _ _ _ h => h) (Or.inl ⟨by kernel_rfl, ?_⟩) (by assumption) ?_
  rotate_left 1
  focus (intro wz hSz; (try dsimp only at hSz); (obtain ⟨⟨q0, q1, q2, q3, q4, q5, q6, q7, q8, q9⟩, ⟨g0, g1, g2, g3, g4, g5, g6, g7, g8, g9, g10, g11⟩, s0⟩ := (X0.keep hSz).state); (obtain ⟨i0, i1, i2, i3, -, -, -, -, s1⟩ := (X1.keep hSz).four); (have gx := (X0.keep hSz).reg hx8); (rw [H1.out] at gx); (have gy := (X0.keep hSz).reg hy8); (rw [H2.out] at gy); go_simp; (try with_reducible rfl))
  simp only [Act.put, List.setIfInBounds_toArray, List.set_cons_zero, List.set_cons_succ]
  refine wpHeld_takeL (i := 2) (v := ?_) rfl (by kernel_rfl) (by kernel_rfl) (by kernel_rfl) (fun _ _ _ h => h) (Or.inl ⟨by kernel_rfl, ?_⟩) (by assumption) ?_
  rotate_left 1
  focus (intro wz hSz; (try dsimp only at hSz); (obtain ⟨⟨q0, q1, q2, q3, q4, q5, q6, q7, q8, q9⟩, ⟨g0, g1, g2, g3, g4, g5, g6, g7, g8, g9, g10, g11⟩, s0⟩ := (X0.keep hSz).state); (obtain ⟨i0, i1, i2, i3, -, -, -, -, s1⟩ := (X1.keep hSz).four); (have gx := (X0.keep hSz).reg hx8); (rw [H1.out] at gx); (have gy := (X0.keep hSz).reg hy8); (rw [H2.out] at gy); go_simp; (try with_reducible rfl))
  simp only [Act.put, List.setIfInBounds_toArray, List.set_cons_zero, List.set_cons_succ]
  refine wpHeld_takeL (i := 3) (v := ?_) rfl (by kernel_rfl) (by kernel_rfl) (by kernel_rfl) (fun _ _ _ h => h) (Or.inl ⟨by kernel_rfl, ?_⟩) (by assumption) ?_
  rotate_left 1
  focus (intro wz hSz; (try dsimp only at hSz); (obtain ⟨⟨q0, q1, q2, q3, q4, q5, q6, q7, q8, q9⟩, ⟨g0, g1, g2, g3, g4, g5, g6, g7, g8, g9, g10, g11⟩, s0⟩ := (X0.keep hSz).state); (obtain ⟨i0, i1, i2, i3, -, -, -, -, s1⟩ := (X1.keep hSz).four); (have gx := (X0.keep hSz).reg hx8); (rw [H1.out] at gx); (have gy := (X0.keep hSz).reg hy8); (rw [H2.out] at gy); go_simp; (try with_reducible rfl))
  simp only [Act.put, List.setIfInBounds_toArray, List.set_cons_zero, List.set_cons_succ]
  refine wpHeld_takeL (i := 4) (v := ?_) rfl (by kernel_rfl) (by kernel_rfl) (by kernel_rfl) (fun _ _ _ h => h) (Or.inl ⟨by kernel_rfl, ?_⟩) (by assumption) ?_
  rotate_left 1
  focus (intro wz hSz; (try dsimp only at hSz); (obtain ⟨⟨q0, q1, q2, q3, q4, q5, q6, q7, q8, q9⟩, ⟨g0, g1, g2, g3, g4, g5, g6, g7, g8, g9, g10, g11⟩, s0⟩ := (X0.keep hSz).state); (obtain ⟨i0, i1, i2, i3, -, -, -, -, s1⟩ := (X1.keep hSz).four); (have gx := (X0.keep hSz).reg hx8); (rw [H1.out] at gx); (have gy := (X0.keep hSz).reg hy8); (rw [H2.out] at gy); go_simp; (try with_reducible rfl))
  simp only [Act.put, List.setIfInBounds_toArray, List.set_cons_zero, List.set_cons_succ]
  refine wpHeld_takeL (i := 5) (v := ?_) rfl (by kernel_rfl) (by kernel_rfl) (by kernel_rfl) (fun _ _ _ h => h) (Or.inl ⟨by kernel_rfl, ?_⟩) (by assumption) ?_
  rotate_left 1
  focus (intro wz hSz; (try dsimp only at hSz); (obtain ⟨⟨q0, q1, q2, q3, q4, q5, q6, q7, q8, q9⟩, ⟨g0, g1, g2, g3, g4, g5, g6, g7, g8, g9, g10, g11⟩, s0⟩ := (X0.keep hSz).state); (obtain ⟨i0, i1, i2, i3, -, -, -, -, s1⟩ := (X1.keep hSz).four); (have gx := (X0.keep hSz).reg hx8); (rw [H1.out] at gx); (have gy := (X0.keep hSz).reg hy8); (rw [H2.out] at gy); go_simp; (try with_reducible rfl))
  simp only [Act.put, List.setIfInBounds_toArray, List.set_cons_zero, List.set_cons_succ]
  refine wpHeld_takeL (i := 6) (v := ?_) rfl (by kernel_rfl) (by kernel_rfl) (by kernel_rfl) (fun _ _ _ h => h) (Or.inl ⟨by kernel_rfl, ?_⟩) (by assumption) ?_
  rotate_left 1
  focus (intro wz hSz; (try dsimp only at hSz); (obtain ⟨⟨q0, q1, q2, q3, q4, q5, q6, q7, q8, q9⟩, ⟨g0, g1, g2, g3, g4, g5, g6, g7, g8, g9, g10, g11⟩, s0⟩ := (X0.keep hSz).state); (obtain ⟨i0, i1, i2, i3, -, -, -, -, s1⟩ := (X1.keep hSz).four); (have gx := (X0.keep hSz).reg hx8); (rw [H1.out] at gx); (have gy := (X0.keep hSz).reg hy8); (rw [H2.out] at gy); go_simp; (try with_reducible rfl))
  simp only [Act.put, List.setIfInBounds_toArray, List.set_cons_zero, List.set_cons_succ]
  refine wpHeld_takeL (i := 7) (v := ?_) rfl (by kernel_rfl) (by kernel_rfl) (by kernel_rfl) (fun _ _ _ h => h) (Or.inl ⟨by kernel_rfl, ?_⟩) (by assumption) ?_
  rotate_left 1
  focus (intro wz hSz; (try dsimp only at hSz); (obtain ⟨⟨q0, q1, q2, q3, q4, q5, q6, q7, q8, q9⟩, ⟨g0, g1, g2, g3, g4, g5, g6, g7, g8, g9, g10, g11⟩, s0⟩ := (X0.keep hSz).state); (obtain ⟨i0, i1, i2, i3, -, -, -, -, s1⟩ := (X1.keep hSz).four); (have gx := (X0.keep hSz).reg hx8); (rw [H1.out] at gx); (have gy := (X0.keep hSz).reg hy8); (rw [H2.out] at gy); go_simp; (try with_reducible rfl))
  simp only [Act.put, List.setIfInBounds_toArray, List.set_cons_zero, List.set_cons_succ]
  refine wpHeld_takeL (i := 8) (v := ?_) rfl (by kernel_rfl) (by kernel_rfl) (by kernel_rfl) (fun _ _ _ h => h) (Or.inl ⟨by kernel_rfl, ?_⟩) (by assumption) ?_
  rotate_left 1
  focus (intro wz hSz; (try dsimp only at hSz); (obtain ⟨⟨q0, q1, q2, q3, q4, q5, q6, q7, q8, q9⟩, ⟨g0, g1, g2, g3, g4, g5, g6, g7, g8, g9, g10, g11⟩, s0⟩ := (X0.keep hSz).state); (obtain ⟨i0, i1, i2, i3, -, -, -, -, s1⟩ := (X1.keep hSz).four); (have gx := (X0.keep hSz).reg hx8); (rw [H1.out] at gx); (have gy := (X0.keep hSz).reg hy8); (rw [H2.out] at gy); go_simp; (try with_reducible rfl))
  simp only [Act.put, List.setIfInBounds_toArray, List.set_cons_zero, List.set_cons_succ]
  refine wpHeld_twoL (i := 9) (j := 13) (by kernel_rfl) (by rfl) (by rfl) (fun K hK => ?_) (fun K hK => ?_)
  · go_simp
    refine (set_any mo ba op oh ot fe fp fh ft st lo (.slice ca ck cc) l i one _ (HL.out.keep (bel_trans B0.out hHeld)) HB.out HR0.out).mono ?_
    rintro e w5 ⟨mo1, ba1, op1, oh1, ot1, fe1, fp1, fh1, ft1, st1, lo1, ca1, ck1, cc1, rfl, hS1, b5⟩
    rw [HOK.out]
    have HS1 : Hid _ := hS1
    clear hS1
    go_wp2_with fail
    refine hK.out _ _ ?_ (fun hHeld2 => ?_)
    · exact bel_trans hHeld b5
    clear hK K hHeld
    have hHeld := hHeld2
    clear hHeld2
    refine wpHeld_takeL (i := 10) (v := ?_) rfl (by kernel_rfl) (by kernel_rfl) (by kernel_rfl) (fun _ _ _ h => h) (Or.inl ⟨by kernel_rfl, ?_⟩) (by assumption) ?_
    rotate_left 1
    focus (intro wz hSz; (try dsimp only at hSz); go_simp; (try with_reducible rfl))
    simp only [Act.put, List.setIfInBounds_toArray, List.set_cons_zero, List.set_cons_succ]
    refine wpHeld_takeL (i := 11) (v := ?_) rfl (by kernel_rfl) (by kernel_rfl) (by kernel_rfl) (fun _ _ _ h => h) (Or.inl ⟨by kernel_rfl, ?_⟩) (by assumption) ?_
    rotate_left 1
    focus (intro wz hSz; (try dsimp only at hSz); go_simp; (try with_reducible rfl))
    simp only [Act.put, List.setIfInBounds_toArray, List.set_cons_zero, List.set_cons_succ]
    refine wpHeld_takeL (i := 12) (v := ?_) rfl (by kernel_rfl) (by kernel_rfl) (by kernel_rfl) (fun _ _ _ h => h) (Or.inl ⟨by kernel_rfl, ?_⟩) (by assumption) ?_
    rotate_left 1
    focus (intro wz hSz; (try dsimp only at hSz); go_simp; (try with_reducible rfl))
    simp only [Act.put, List.setIfInBounds_toArray, List.set_cons_zero, List.set_cons_succ]
    refine wpHeld_oneL (i := 13) (by kernel_rfl) (by rfl) (fun K hK => ?_)
    go_simp
    refine hK.out _ _ ?_ (fun hHeld2 => ?_)
    · exact bel_alloc hHeld _
    clear hK K hHeld
    have hHeld := hHeld2
    clear hHeld2
    refine wpHeld_oneL (i := 14) (by kernel_rfl) (by rfl) (fun K hK => ?_)
    go_simp
    refine hK.out _ _ ?_ (fun hHeld2 => ?_)
    · exact bel_alloc (bel_trans (Below.drew (Below.refl _ _)) b5) _
    clear hK K hHeld
    have hHeld := hHeld2
    clear hHeld2
    refine wpHeld_takeL (i := 15) (v := ?_) rfl (by kernel_rfl) (by kernel_rfl) (by kernel_rfl) (fun _ _ _ h => h) (Or.inl ⟨by kernel_rfl, ?_⟩) (by assumption) ?_
    rotate_left 1
    focus (intro wz hSz; (try dsimp only at hSz); go_simp; (try with_reducible rfl))
    simp only [Act.put, List.setIfInBounds_toArray, List.set_cons_zero, List.set_cons_succ]
    refine wpAnyH_done (by kernel_rfl) ?_ _
    have X6 := Box.newAt (w := w5) (n := w5.heap.size) rfl 40 #[.int .i64 mo1, .int .i64 ba1, .slice ca1 ck1 cc1, .int .i64 op1, .int .i64 oh1, .int .i64 ot1, .bool st1, .int .i64 fe1, .int .i64 fp1, .int .i64 fh1, .int .i64 ft1, .bool lo1]
    have hN6 : w.heap.size + 1 + 1 < w5.heap.size := by have := b5.size; have w3 := W3.out; simp at this; omega
    clear b5
    generalize (w5.alloc (.cells #[.int .i64 mo1, .int .i64 ba1, .slice ca1 ck1 cc1, .int .i64 op1, .int .i64 oh1, .int .i64 ot1, .bool st1, .int .i64 fe1, .int .i64 fp1, .int .i64 fh1, .int .i64 ft1, .bool lo1] 40)) = W5 at *
    generalize w5.heap.size = N6 at *
    have X0 := X0.keep hHeld
    have X2 := X2.keep hHeld
    have B5 : Hid (Below w.heap.size w W5) := bel_trans B0.out hHeld
    clear hHeld B0 X1
    have Y0 := X0.setBr (.int .i64 mo1) (.int .i64 ba1) (.slice ca1 ck1 cc1) (.int .i64 op1) (.int .i64 oh1) (.int .i64 ot1) (.bool st1) (.int .i64 fe1) (.int .i64 fp1) (.int .i64 fh1) (.int .i64 ft1) (.bool lo1)
    have Y2 := X2.otherBr (m := w.heap.size) (by omega) (.int .i64 mo1) (.int .i64 ba1) (.slice ca1 ck1 cc1) (.int .i64 op1) (.int .i64 oh1) (.int .i64 ot1) (.bool st1) (.int .i64 fe1) (.int .i64 fp1) (.int .i64 fh1) (.int .i64 ft1) (.bool lo1)
    have B6 : Hid (Below w.heap.size w _) := bel_setBr (Nat.le_refl _) B5.out (.int .i64 mo1) (.int .i64 ba1) (.slice ca1 ck1 cc1) (.int .i64 op1) (.int .i64 oh1) (.int .i64 ot1) (.bool st1) (.int .i64 fe1) (.int .i64 fp1) (.int .i64 fh1) (.int .i64 ft1) (.bool lo1)
    obtain ⟨-, ⟨g0, g1, g2, g3, g4, g5, g6, g7, g8, g9, g10, g11⟩, s0⟩ := X0.state0
    have fx := X0.marksAll
    obtain ⟨⟨u0, u1, u2, u3, u4, u5, u6, u7, u8, u9, u10, u11⟩, s6⟩ := X6.twelve
    go_upto_region 3 with fail
    clear g0 g1 g2 g3 g4 g5 g6 g7 g8 g9 g10 g11 fx s0 u0 u1 u2 u3 u4 u5 u6 u7 u8 u9 u10 u11 s6 X0 X2 X6
    generalize ((((((((((((W5.setCell ⟨w.heap.size, 10, none⟩ (.int .i64 mo1)).setCell ⟨w.heap.size, 11, none⟩ (.int .i64 ba1)).setCell ⟨w.heap.size, 12, none⟩ (.slice ca1 ck1 cc1)).setCell ⟨w.heap.size, 13, none⟩ (.int .i64 op1)).setCell ⟨w.heap.size, 14, none⟩ (.int .i64 oh1)).setCell ⟨w.heap.size, 15, none⟩ (.int .i64 ot1)).setCell ⟨w.heap.size, 16, none⟩ (.bool st1)).setCell ⟨w.heap.size, 17, none⟩ (.int .i64 fe1)).setCell ⟨w.heap.size, 18, none⟩ (.int .i64 fp1)).setCell ⟨w.heap.size, 19, none⟩ (.int .i64 fh1)).setCell ⟨w.heap.size, 20, none⟩ (.int .i64 ft1)).setCell ⟨w.heap.size, 21, none⟩ (.bool lo1)) = W6 at *
    go_wp2_with (first
      | (refine wpList_load_row rfl 66 (.tmp 2) rfl w.heap.size rfl _ _ _ _ Y0 Try.underlying66 rfl infoState ?_)
      | (refine wpList_store_row rfl 66 (.tmp 4) (.tmp 23) rfl (w.heap.size + 1 + 1) _ rfl rfl _ _ Y2 infoState rfl (stateOne _ _ _ _ _ _ _ _ _ _ _ _ _ _ _ _ _ _ _ _ _ _ _ _ _ _) ?_))
    have hl := Box.loadState (Y2.setRow #[.slice am nm cm, .int .i64 pc, .int .i64 (nth rs 0), .int .i64 (nth rs 1), .int .i64 (nth rs 2), .int .i64 (nth rs 3), .int .i64 (nth rs 4), .int .i64 (nth rs 5), .int .i64 (nth rs 6), .int .i64 (nth rs 7), .int .i64 mo1, .int .i64 ba1, .slice ca1 ck1 cc1, .int .i64 op1, .int .i64 oh1, .int .i64 ot1, .bool st1, .int .i64 fe1, .int .i64 fp1, .int .i64 fh1, .int .i64 ft1, .bool lo1]) rfl
    refine bodyPost_ret (v := .tuple #[.agg #[.slice am nm cm, .int .i64 pc, .int .i64 (nth rs 0), .int .i64 (nth rs 1), .int .i64 (nth rs 2), .int .i64 (nth rs 3), .int .i64 (nth rs 4), .int .i64 (nth rs 5), .int .i64 (nth rs 6), .int .i64 (nth rs 7), .int .i64 mo1, .int .i64 ba1, .slice ca1 ck1 cc1, .int .i64 op1, .int .i64 oh1, .int .i64 ot1, .bool st1, .int .i64 fe1, .int .i64 fp1, .int .i64 fh1, .int .i64 ft1, .bool lo1], .bool ok]) (by simp [results, Try.results60, asAddr, hl]) rfl ⟨_, _, _, _, _, _, _, _, _, _, _, _, _, _, by rw [HOK.out], HS1.out, ?_⟩
    exact bel_setRow (by omega) B6.out _
  · go_simp
    refine hK.out _ _ ?_ (fun hHeld2 => ?_)
    · exact bel_alloc hHeld _
    clear hK K hHeld
    have hHeld := hHeld2
    clear hHeld2
    refine wpHeld_oneL (i := 9) (by kernel_rfl) (by rfl) (fun K hK => ?_)
    go_simp
    refine (set_any mo ba op oh ot fe fp fh ft st lo (.slice ca ck cc) l i one _ (HL.out.keep (bel_trans B0.out hHeld)) HB.out HR0.out).mono ?_
    rintro e w5 ⟨mo1, ba1, op1, oh1, ot1, fe1, fp1, fh1, ft1, st1, lo1, ca1, ck1, cc1, rfl, hS1, b5⟩
    rw [HOK.out]
    have HS1 : Hid _ := hS1
    clear hS1
    have X6 := ((Box.newAt (w := W) (n := W.heap.size) rfl 40 #[.int .i64 0, .int .i64 0, .slice none 0 0, .int .i64 0, .int .i64 0, .int .i64 0, .bool false, .int .i64 0, .int .i64 0, .int .i64 0, .int .i64 0, .bool false]).drew.keep b5)
    go_wp2_with fail
    refine hK.out _ _ ?_ (fun hHeld2 => ?_)
    · exact bel_trans hHeld b5
    clear hK K hHeld
    have hHeld := hHeld2
    clear hHeld2
    refine wpHeld_takeL (i := 10) (v := ?_) rfl (by kernel_rfl) (by kernel_rfl) (by kernel_rfl) (fun _ _ _ h => h) (Or.inl ⟨by kernel_rfl, ?_⟩) (by assumption) ?_
    rotate_left 1
    focus (intro wz hSz; (try dsimp only at hSz); go_simp; (try with_reducible rfl))
    simp only [Act.put, List.setIfInBounds_toArray, List.set_cons_zero, List.set_cons_succ]
    refine wpHeld_takeL (i := 11) (v := ?_) rfl (by kernel_rfl) (by kernel_rfl) (by kernel_rfl) (fun _ _ _ h => h) (Or.inl ⟨by kernel_rfl, ?_⟩) (by assumption) ?_
    rotate_left 1
    focus (intro wz hSz; (try dsimp only at hSz); go_simp; (try with_reducible rfl))
    simp only [Act.put, List.setIfInBounds_toArray, List.set_cons_zero, List.set_cons_succ]
    refine wpHeld_takeL (i := 12) (v := ?_) rfl (by kernel_rfl) (by kernel_rfl) (by kernel_rfl) (fun _ _ _ h => h) (Or.inl ⟨by kernel_rfl, ?_⟩) (by assumption) ?_
    rotate_left 1
    focus (intro wz hSz; (try dsimp only at hSz); go_simp; (try with_reducible rfl))
    simp only [Act.put, List.setIfInBounds_toArray, List.set_cons_zero, List.set_cons_succ]
    obtain ⟨⟨u0, u1, u2, u3, u4, u5, u6, u7, u8, u9, u10, u11⟩, s6⟩ := X6.twelve
    have f6 := X6.marksAll
    refine wpHeld_oneL (i := 14) (by kernel_rfl) (by rfl) (fun K hK => ?_)
    go_simp
    refine hK.out _ _ ?_ (fun hHeld2 => ?_)
    · exact bel_set12 (Nat.le_refl _) hHeld _ _ _ _ _ _ _ _ _ _ _ _
    clear hK K hHeld
    have hHeld := hHeld2
    clear hHeld2
    refine wpHeld_takeL (i := 15) (v := ?_) rfl (by kernel_rfl) (by kernel_rfl) (by kernel_rfl) (fun _ _ _ h => h) (Or.inl ⟨by kernel_rfl, ?_⟩) (by assumption) ?_
    rotate_left 1
    focus (intro wz hSz; (try dsimp only at hSz); go_simp; (try with_reducible rfl))
    simp only [Act.put, List.setIfInBounds_toArray, List.set_cons_zero, List.set_cons_succ]
    refine wpAnyH_done (by kernel_rfl) ?_ _
    have X6 := X6.set12 (.int .i64 mo1) (.int .i64 ba1) (.slice ca1 ck1 cc1) (.int .i64 op1) (.int .i64 oh1) (.int .i64 ot1) (.bool st1) (.int .i64 fe1) (.int .i64 fp1) (.int .i64 fh1) (.int .i64 ft1) (.bool lo1)
    have hN6 : w.heap.size + 1 + 1 < W.heap.size := by have := W3.out; omega
    clear b5 u0 u1 u2 u3 u4 u5 u6 u7 u8 u9 u10 u11 f6 s6
    generalize ((((((((((((w5.setCell ⟨W.heap.size, 0, none⟩ (.int .i64 mo1)).setCell ⟨W.heap.size, 1, none⟩ (.int .i64 ba1)).setCell ⟨W.heap.size, 2, none⟩ (.slice ca1 ck1 cc1)).setCell ⟨W.heap.size, 3, none⟩ (.int .i64 op1)).setCell ⟨W.heap.size, 4, none⟩ (.int .i64 oh1)).setCell ⟨W.heap.size, 5, none⟩ (.int .i64 ot1)).setCell ⟨W.heap.size, 6, none⟩ (.bool st1)).setCell ⟨W.heap.size, 7, none⟩ (.int .i64 fe1)).setCell ⟨W.heap.size, 8, none⟩ (.int .i64 fp1)).setCell ⟨W.heap.size, 9, none⟩ (.int .i64 fh1)).setCell ⟨W.heap.size, 10, none⟩ (.int .i64 ft1)).setCell ⟨W.heap.size, 11, none⟩ (.bool lo1)) = W5 at *
    obtain ⟨N6, hWN⟩ : ∃ N6, W.heap.size = N6 := ⟨_, rfl⟩
    rw [hWN] at X6 hN6 ⊢
    clear hWN
    have X0 := X0.keep hHeld
    have X2 := X2.keep hHeld
    have B5 : Hid (Below w.heap.size w W5) := bel_trans B0.out hHeld
    clear hHeld B0 X1
    have Y0 := X0.setBr (.int .i64 mo1) (.int .i64 ba1) (.slice ca1 ck1 cc1) (.int .i64 op1) (.int .i64 oh1) (.int .i64 ot1) (.bool st1) (.int .i64 fe1) (.int .i64 fp1) (.int .i64 fh1) (.int .i64 ft1) (.bool lo1)
    have Y2 := X2.otherBr (m := w.heap.size) (by omega) (.int .i64 mo1) (.int .i64 ba1) (.slice ca1 ck1 cc1) (.int .i64 op1) (.int .i64 oh1) (.int .i64 ot1) (.bool st1) (.int .i64 fe1) (.int .i64 fp1) (.int .i64 fh1) (.int .i64 ft1) (.bool lo1)
    have B6 : Hid (Below w.heap.size w _) := bel_setBr (Nat.le_refl _) B5.out (.int .i64 mo1) (.int .i64 ba1) (.slice ca1 ck1 cc1) (.int .i64 op1) (.int .i64 oh1) (.int .i64 ot1) (.bool st1) (.int .i64 fe1) (.int .i64 fp1) (.int .i64 fh1) (.int .i64 ft1) (.bool lo1)
    obtain ⟨-, ⟨g0, g1, g2, g3, g4, g5, g6, g7, g8, g9, g10, g11⟩, s0⟩ := X0.state0
    have fx := X0.marksAll
    obtain ⟨⟨u0, u1, u2, u3, u4, u5, u6, u7, u8, u9, u10, u11⟩, s6⟩ := X6.twelve
    go_upto_region 3 with fail
    clear g0 g1 g2 g3 g4 g5 g6 g7 g8 g9 g10 g11 fx s0 u0 u1 u2 u3 u4 u5 u6 u7 u8 u9 u10 u11 s6 X0 X2 X6
    generalize ((((((((((((W5.setCell ⟨w.heap.size, 10, none⟩ (.int .i64 mo1)).setCell ⟨w.heap.size, 11, none⟩ (.int .i64 ba1)).setCell ⟨w.heap.size, 12, none⟩ (.slice ca1 ck1 cc1)).setCell ⟨w.heap.size, 13, none⟩ (.int .i64 op1)).setCell ⟨w.heap.size, 14, none⟩ (.int .i64 oh1)).setCell ⟨w.heap.size, 15, none⟩ (.int .i64 ot1)).setCell ⟨w.heap.size, 16, none⟩ (.bool st1)).setCell ⟨w.heap.size, 17, none⟩ (.int .i64 fe1)).setCell ⟨w.heap.size, 18, none⟩ (.int .i64 fp1)).setCell ⟨w.heap.size, 19, none⟩ (.int .i64 fh1)).setCell ⟨w.heap.size, 20, none⟩ (.int .i64 ft1)).setCell ⟨w.heap.size, 21, none⟩ (.bool lo1)) = W6 at *
    go_wp2_with (first
      | (refine wpList_load_row rfl 66 (.tmp 2) rfl w.heap.size rfl _ _ _ _ Y0 Try.underlying66 rfl infoState ?_)
      | (refine wpList_store_row rfl 66 (.tmp 4) (.tmp 23) rfl (w.heap.size + 1 + 1) _ rfl rfl _ _ Y2 infoState rfl (stateOne _ _ _ _ _ _ _ _ _ _ _ _ _ _ _ _ _ _ _ _ _ _ _ _ _ _) ?_))
    have hl := Box.loadState (Y2.setRow #[.slice am nm cm, .int .i64 pc, .int .i64 (nth rs 0), .int .i64 (nth rs 1), .int .i64 (nth rs 2), .int .i64 (nth rs 3), .int .i64 (nth rs 4), .int .i64 (nth rs 5), .int .i64 (nth rs 6), .int .i64 (nth rs 7), .int .i64 mo1, .int .i64 ba1, .slice ca1 ck1 cc1, .int .i64 op1, .int .i64 oh1, .int .i64 ot1, .bool st1, .int .i64 fe1, .int .i64 fp1, .int .i64 fh1, .int .i64 ft1, .bool lo1]) rfl
    refine bodyPost_ret (v := .tuple #[.agg #[.slice am nm cm, .int .i64 pc, .int .i64 (nth rs 0), .int .i64 (nth rs 1), .int .i64 (nth rs 2), .int .i64 (nth rs 3), .int .i64 (nth rs 4), .int .i64 (nth rs 5), .int .i64 (nth rs 6), .int .i64 (nth rs 7), .int .i64 mo1, .int .i64 ba1, .slice ca1 ck1 cc1, .int .i64 op1, .int .i64 oh1, .int .i64 ot1, .bool st1, .int .i64 fe1, .int .i64 fp1, .int .i64 fh1, .int .i64 ft1, .bool lo1], .bool ok]) (by simp [results, Try.results60, asAddr, hl]) rfl ⟨_, _, _, _, _, _, _, _, _, _, _, _, _, _, by rw [HOK.out], HS1.out, ?_⟩
    exact bel_setRow (by omega) B6.out _
end Go.Proofs.Ytfbmmiikhkmpfac
