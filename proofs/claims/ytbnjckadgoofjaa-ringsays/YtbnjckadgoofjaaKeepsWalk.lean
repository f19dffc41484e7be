/-
  The walk of drawbridgelaw.MemKeeps: it answers true, whatever memory and numbers it is given; nothing that was there turns.
-/
import Derived.Test.YtbnjckadgoofjaaStored
namespace Go.Proofs.Ytbnjckadgoofjaa
open Go.RowKit

theorem Sl.shape {w : World} {v : Value} {zs : List Int} (h : Sl w v zs) : ∃ a cap, v = .slice a zs.length cap := by
  obtain ⟨a, cap, h, _⟩ := h; exact ⟨a, cap, h⟩
theorem at_in (k : Int) (w : World) :
    Calls Try.prog 24 #[.int .i64 k, .int .i64 512] w fun e w' => ∃ i, e = .returned (.int .i64 i) ∧ placeB i = true ∧ w' = w :=
  (at_any k w).mono fun e w' ⟨he, hw⟩ => ⟨k % 512, he, by simp [placeB]; omega, hw⟩

/-- A store over a slice turns no number. -/
theorem Sl.setSlice {w : World} {v : Value} {zs : List Int} (h : Sl w v zs) {p : Addr} {a : Option Addr} {n c : Nat} (hp : w.cell? p = some (.slice a n c)) (u : Value) : Sl (w.setCell p u) v zs := by
  obtain ⟨a, cap, rfl, hl, h⟩ := h
  refine ⟨a, cap, rfl, hl, ?_⟩
  rcases h with h | ⟨b, o, rfl, hlt, hc⟩
  · exact .inl h
  · refine .inr ⟨b, o, rfl, by simpa [World.setCell] using hlt, fun i hi => ?_⟩
    have hq := hc i hi
    have hne : p ≠ ⟨b, o + i, none⟩ := fun e => by rw [e, hq] at hp; simp at hp
    rw [World.cell?_setCell_other (h := hne)]
    exact hq

set_option maxHeartbeats 4000000 in
theorem keeps_walk (v : Value) (zs : List Int) (i x j y : Int) (w : World) (h : Sl w v zs) :
    Calls Try.prog 5 #[.agg #[v], .int .i64 i, .int .i64 x, .int .i64 j, .int .i64 y] w fun e w' => e = .returned (.bool true) ∧ Below w.heap.size w w' := by
  obtain ⟨a0, c0, rfl⟩ := h.shape
  go_enter Try.func5, Try.ntmps5
  go_wp2_with fail
  refine (at_in _ _).mono ?_
  rintro e w1 ⟨I, rfl, hI, rfl⟩
  go_wp2_with fail
  refine (at_in _ _).mono ?_
  rintro e w1 ⟨J, rfl, hJ, rfl⟩
  go_wp2_with fail
  refine (write_any _ zs _ _ _ (h.keep (bel_alloc (Below.refl _ _) _))).mono ?_
  rintro e w2 ⟨v2, rfl, h2, b2⟩
  obtain ⟨c2, f2⟩ := bcell b2
  have s2 : w.heap.size < w2.heap.size := by have := b2.size; simp at this; omega
  have B2 : Hid (Below w.heap.size w w2) := bel_trans (bel_alloc (Below.refl _ _) _) b2
  have q2 : w2.cell? ⟨w.heap.size, 0, none⟩ = some (.slice a0 zs.length c0) := by rw [c2 _ _ (by simp)]; simp [go_sem]
  obtain ⟨a2, cc2, rfl⟩ := h2.shape
  clear c2 f2 b2
  by_cases hw : chk zs = 0 ∧ wordB x = true
  · obtain ⟨hk, hx⟩ := hw
    have hwe : wrE zs I x = 0 := wrE_ok hk hI hx
    have hwm : wrM zs I x = zs.set I.toNat x := wrM_ok hk hI hx
    rw [hwe]
    rw [hwm] at h2
    rw [hwm]
    have pI : 0 ≤ I ∧ I < 512 := by simpa [placeB] using hI
    have pJ : 0 ≤ J ∧ J < 512 := by simpa [placeB] using hJ
    have hl : zs.length = 512 := (chk_ok hk).1
    have ha : chk (zs.set I.toNat x) = 0 := chk_set hk hx
    have HX : Hid (nth (zs.set I.toNat x) I.toNat = x) := nth_set_same (by omega) x
    have HY : Hid (I ≠ J → nth (zs.set I.toNat x) J.toNat = nth zs J.toNat) := fun hne => nth_set_other (by omega) x
    have HZ : Hid (I ≠ J → (zs.set I.toNat x).set J.toNat y = (zs.set J.toNat y).set I.toNat x) := fun hne => List.set_comm _ _ (by omega)
    generalize zs.set I.toNat x = za at *
    have h0 := h.keep B2.out
    clear hwe hwm hl h
    go_wp2_with fail
    refine (stored_true _).mono ?_
    rintro e w3 ⟨rfl, b3⟩
    obtain ⟨c3, _⟩ := bcell b3
    have s3 : w2.heap.size < w3.heap.size := by have := b3.size; simp at this; omega
    have q3 : w3.cell? ⟨w.heap.size, 0, none⟩ = some (.slice a0 zs.length c0) := by rw [c3 _ _ (by simp; omega), World.cell?_alloc_past _ _ _ s2]; exact q2
    have r3 : w3.cell? ⟨w2.heap.size, 0, none⟩ = some (.slice a2 za.length cc2) := by rw [c3 _ _ (by simp)]; simp [go_sem]
    have h0 := h0.keep (bel_trans (bel_alloc (Below.refl _ _) _) b3)
    have h2 := h2.keep (bel_trans (bel_alloc (Below.refl _ _) _) b3)
    have B3 : Hid (Below w.heap.size w w3) := bel_trans (bel_alloc B2.out _) b3
    clear b3 c3 B2 q2
    go_wp2_with fail
    refine (read_any _ za _ _ h2).mono ?_
    rintro e w4 ⟨rfl, b4⟩
    rw [rdE_ok ha hI, rdV_ok ha hI, HX.out]
    obtain ⟨c4, _⟩ := bcell b4
    have s4 := b4.size
    have q4 : w4.cell? ⟨w.heap.size, 0, none⟩ = some (.slice a0 zs.length c0) := by rw [c4 _ _ (by omega)]; exact q3
    have r4 : w4.cell? ⟨w2.heap.size, 0, none⟩ = some (.slice a2 za.length cc2) := by rw [c4 _ _ (by omega)]; exact r3
    have h0 := h0.keep b4
    have h2 := h2.keep b4
    have B4 : Hid (Below w.heap.size w w4) := bel_trans B3.out b4
    clear b4 c4 B3 q3 r3
    go_wp2_with fail
    refine (read_any _ za _ _ h2).mono ?_
    rintro e w5 ⟨rfl, b5⟩
    rw [rdE_ok ha hJ, rdV_ok ha hJ]
    obtain ⟨c5, _⟩ := bcell b5
    have s5 := b5.size
    have q5 : w5.cell? ⟨w.heap.size, 0, none⟩ = some (.slice a0 zs.length c0) := by rw [c5 _ _ (by omega)]; exact q4
    have r5 : w5.cell? ⟨w2.heap.size, 0, none⟩ = some (.slice a2 za.length cc2) := by rw [c5 _ _ (by omega)]; exact r4
    have h0 := h0.keep b5
    have h2 := h2.keep b5
    have B5 : Hid (Below w.heap.size w w5) := bel_trans B4.out b5
    clear b5 c5 B4 q4 r4
    go_wp2_with fail
    refine (read_any _ zs _ _ h0).mono ?_
    rintro e w6 ⟨rfl, b6⟩
    rw [rdE_ok hk hJ, rdV_ok hk hJ]
    obtain ⟨c6, _⟩ := bcell b6
    have s6 := b6.size
    have q6 : w6.cell? ⟨w.heap.size, 0, none⟩ = some (.slice a0 zs.length c0) := by rw [c6 _ _ (by omega)]; exact q5
    have r6 : w6.cell? ⟨w2.heap.size, 0, none⟩ = some (.slice a2 za.length cc2) := by rw [c6 _ _ (by omega)]; exact r5
    have h0 := h0.keep b6
    have h2 := h2.keep b6
    have B6 : Hid (Below w.heap.size w w6) := bel_trans B5.out b6
    have t6 : w2.heap.size < w6.heap.size := by omega
    clear b6 c6 B5 q5 r5 s4 s5 s6 s3
    by_cases hij : I = J
    · subst hij
      have hbb : (I != I) = false := by simp
      go_wp2_with fail
      refine (write_any _ za _ _ _ h2).mono ?_
      rintro e w7 ⟨v7, rfl, h7, b7⟩
      obtain ⟨a7, cc7, rfl⟩ := h7.shape
      have B7 : Hid (Below w.heap.size w w7) := bel_trans B6.out b7
      clear b7
      have heq : (I == I) = true := by simp
      cases hy : wordB y
      · have e7 : wrE za I y = 2 := by simp [wrE, ha, hI, hy]
        rw [e7]
        go_wp2
        go_ret
        exact ⟨rfl, bel_alloc B7.out _⟩
      · have e7 : wrE za I y = 0 := by simp [wrE, ha, hI, hy]
        rw [e7]
        go_wp2
        go_ret
        exact ⟨rfl, bel_alloc B7.out _⟩
    · have hbb : (I != J) = true := by simpa using hij
      have heq : (I == J) = false := by simpa using hij
      have hyz := HY.out hij
      have hz := HZ.out hij
      have Hz : Hid (za.set J.toNat y = (zs.set J.toNat y).set I.toNat x) := hz
      clear hz hij HX HY HZ
      rw [hyz]
      clear hyz
      go_wp2_with fail
      refine (write_any _ za _ _ _ h2).mono ?_
      rintro e w7 ⟨v7, rfl, h7, b7⟩
      obtain ⟨a7, cc7, rfl⟩ := h7.shape
      obtain ⟨c7, _⟩ := bcell b7
      have s7 := b7.size
      have t7 : w.heap.size < w7.heap.size := by omega
      have q7 : w7.cell? ⟨w.heap.size, 0, none⟩ = some (.slice a0 zs.length c0) := by rw [c7 _ _ (by omega)]; exact q6
      have h0 := h0.keep b7
      have B7 : Hid (Below w.heap.size w w7) := bel_trans B6.out b7
      clear b7 c7
      cases hy : wordB y
      · have e7 : wrE za J y = 2 := by simp [wrE, ha, hJ, hy]
        rw [e7]
        go_wp2
        go_ret
        exact ⟨rfl, bel_alloc B7.out _⟩
      · rw [wrE_ok ha hJ hy]
        rw [wrM_ok ha hJ hy] at h7 ⊢
        rw [Hz.out] at h7 ⊢
        have hc := chk_set (k := J.toNat) hk hy
        have hm := wrM_ok hc hI hx
        generalize (zs.set J.toNat y).set I.toNat x = zb at *
        go_wp2_with fail
        refine (write_any _ zs _ _ _ (h0.keep (bel_alloc (Below.refl _ _) _))).mono ?_
        rintro e w8 ⟨v8, rfl, h8, b8⟩
        obtain ⟨a8, cc8, rfl⟩ := h8.shape
        obtain ⟨c8, _⟩ := bcell b8
        have s8 : w7.heap.size < w8.heap.size := by have := b8.size; simp at this; omega
        rw [wrE_ok hk hJ hy]
        rw [wrM_ok hk hJ hy] at h8 ⊢
        have r8 : w8.cell? ⟨w7.heap.size, 0, none⟩ = some (.slice a7 zb.length cc7) := by rw [c8 _ _ (by simp)]; simp [go_sem]
        have h7 := h7.keep (bel_trans (bel_alloc (Below.refl _ _) _) b8)
        have B8 : Hid (Below w.heap.size w w8) := bel_trans (bel_alloc B7.out _) b8
        clear b8 c8 q7
        have hc' := hc
        generalize zs.set J.toNat y = zc at *
        go_wp2_with fail
        refine (write_any _ zc _ _ _ (h8.keep (bel_alloc (Below.refl _ _) _))).mono ?_
        rintro e w9 ⟨v9, rfl, h9, b9⟩
        obtain ⟨a9, cc9, rfl⟩ := h9.shape
        obtain ⟨c9, f9⟩ := bcell b9
        have s9 : w8.heap.size < w9.heap.size := by have := b9.size; simp at this; omega
        rw [wrE_ok hc hI hx]
        rw [hm] at h9 ⊢
        have t9 : w7.heap.size < w9.heap.size := by omega
        have r9 : w9.cell? ⟨w7.heap.size, 0, none⟩ = some (.slice a7 zb.length cc7) := by rw [c9 _ _ (by simp; omega), World.cell?_alloc_past _ _ _ s8]; exact r8
        have u9 : w9.cell? ⟨w8.heap.size, 0, none⟩ = some (.slice a8 zc.length cc8) := by rw [c9 _ _ (by simp)]; simp [go_sem]
        have x9 : w9.frozen? ⟨w8.heap.size, 0, none⟩ = false := by rw [f9 _ _ (by simp)]; simp [go_sem]
        have h7 := h7.keep (bel_trans (bel_alloc (Below.refl _ _) _) b9)
        have B9 : Hid (Below w.heap.size w w9) := bel_trans (bel_alloc B8.out _) b9
        clear b9 c9 f9 r8 B8 B7 B6
        go_wp2_with fail
        refine (same_any _ _ zb zb _ (h7.setSlice u9 _) (h9.setSlice u9 _)).mono ?_
        rintro e w10 ⟨rfl, b10⟩
        rw [show decide (zb = zb) = true by simp]
        go_wp2
        go_ret
        exact ⟨rfl, bel_trans (B9.out.setCell (p := ⟨w8.heap.size, 0, none⟩) (by show w.heap.size ≤ w8.heap.size; omega) _) b10⟩
  · have hne : (wrE zs I x != 0) = true := by
      simp only [bne_iff_ne, ne_eq]
      intro e
      apply hw
      unfold wrE at e
      by_cases hk : chk zs = 0
      · simp only [hk, if_true, hI] at e
        cases hx : wordB x
        · simp [hx] at e
        · exact ⟨hk, rfl⟩
      · simp [hk] at e
    clear hw
    go_wp2_with fail
    refine (stored_true _).mono ?_
    rintro e w3 ⟨rfl, b3⟩
    have B3 : Hid (Below w.heap.size w w3) := bel_trans (bel_alloc B2.out _) b3
    clear b3
    go_wp2_with fail
    refine (stored_true _).mono ?_
    rintro e w4 ⟨rfl, b4⟩
    have B4 : Hid (Below w.heap.size w w4) := bel_trans B3.out b4
    clear b4
    go_wp2
    go_ret
    exact ⟨rfl, B4.out⟩
end Go.Proofs.Ytbnjckadgoofjaa
