/-
  The walk of drawbridgelaw.WalkTwo: it answers true, whatever memory, pages, right, place and word it is given; nothing that was there turns.
-/
import Derived.Test.YtnpgldcambbnhaaRightWalk
namespace Go.Proofs.Ytnpgldcambbnhaa
open Go.RowKit

theorem wkd_valid {zs : List Int} {root page : Int} (wr : Bool) (hk : chk zs = 0) (hd : pageB root = true ∧ pageB page = true) :
    ∃ b r x l p f, wkd zs root page wr = ((b, r, x, l, p), f, 0) ∧ (f == 0) = b := by
  rcases wkd_ways hk hd with ⟨f, hf, h⟩ | ⟨p, h⟩ | ⟨p, h, h'⟩
  · exact ⟨_, _, _, _, _, _, h wr, by simpa using hf⟩
  · exact ⟨_, _, _, _, _, _, h wr, rfl⟩
  · cases wr
    · exact ⟨_, _, _, _, _, _, h, rfl⟩
    · exact ⟨_, _, _, _, _, _, h', rfl⟩

set_option maxHeartbeats 2000000 in
theorem two_walk (v : Value) (zs : List Int) (root page : Int) (wr : Bool) (k x : Int) (w : World) (h : Sl w v zs) :
    Calls Try.prog 9 #[.agg #[v], .int .i64 root, .int .i64 page, .bool wr, .int .i64 k, .int .i64 x] w fun e w' => e = .returned (.bool true) ∧ Below w.heap.size w w' := by
  obtain ⟨a0, c0, rfl⟩ := h.shape
  go_enter Try.func9, Try.ntmps9
  go_wp2_with fail
  refine (at64_in _ _).mono ?_
  rintro e w1 ⟨R, rfl, hR, rfl⟩
  go_wp2_with fail
  refine (at64_in _ _).mono ?_
  rintro e w1 ⟨P, rfl, hP, rfl⟩
  go_wp2_with fail
  refine (at_in _ _).mono ?_
  rintro e w1 ⟨K, rfl, hK, rfl⟩
  go_wp2_with fail
  refine (at65536_in _ _).mono ?_
  rintro e w1 ⟨X, rfl, hX, rfl⟩
  by_cases h0 : chk zs = 0
  rotate_left
  focus
    have hq : (chk zs != 0) = true := by simpa using h0
    go_wp2_with fail
    refine (walk_at (wkd_bad wr h0) (h.keep (bel_alloc (Below.refl _ _) _))).mono ?_
    rintro e w1 ⟨rfl, b1⟩
    have B1 : Hid (Below w.heap.size w w1) := bel_trans (bel_alloc (Below.refl _ _) _) b1
    clear b1
    go_wp2_with fail
    refine (walked_true _).mono ?_
    rintro e w3 ⟨rfl, b3⟩
    have B3 : Hid (Below w.heap.size w w3) := bel_trans (bel_alloc B1.out _) b3
    clear b3 B1
    go_wp2_with fail
    refine (walked_true _).mono ?_
    rintro e w4 ⟨rfl, b4⟩
    have B4 : Hid (Below w.heap.size w w4) := bel_trans B3.out b4
    clear b4 B3
    go_wp2
    go_ret
    exact ⟨rfl, B4.out⟩
  obtain ⟨b, r, xx, l, p, f, hk, hfb⟩ := wkd_valid wr h0 ⟨hR, hP⟩
  have HA : Hid (wkd zs R P wr = ((b, r, xx, l, p), f, 0)) := hk
  have HFB : Hid ((f == 0) = b) := hfb
  have HR : Hid (pageB R = true) := hR
  have HP : Hid (pageB P = true) := hP
  have HX : Hid (wordB X = true) := hX
  have HKK : Hid (placeB K = true) := hK
  have H0 : Hid (chk zs = 0) := h0
  obtain ⟨r0, r1⟩ : 0 ≤ R ∧ R < 64 := by simpa [pageB] using hR
  obtain ⟨g0, g1⟩ : 0 ≤ P ∧ P < 64 := by simpa [pageB] using hP
  obtain ⟨k0, k1⟩ : 0 ≤ K ∧ K < 512 := by simpa [placeB] using hK
  clear hk hfb hR hP hX hK h0
  go_wp2_with fail
  refine (walk_at HA.out (h.keep (bel_alloc (Below.refl _ _) _))).mono ?_
  rintro e w1 ⟨rfl, b1⟩
  have J1 := (Blk.new w _ _ _).keep b1
  have B1 : Hid (Below w.heap.size w w1) := bel_trans (bel_alloc (Below.refl _ _) _) b1
  clear b1
  go_wp2_with fail
  refine (walked_true _).mono ?_
  rintro e w2 ⟨rfl, b2⟩
  have K2 := (Blk.new w1 _ _ _).keep b2
  have J2 := (J1.past _).keep b2
  have B2 : Hid (Below w.heap.size w w2) := bel_trans (bel_alloc B1.out _) b2
  have l2 := J2.lt
  have d2 := J2.cell 0
  clear b2 B1 J1
  go_wp2_with fail
  refine (read_any _ zs _ _ (h.keep B2.out)).mono ?_
  rintro e w3 ⟨rfl, b3⟩
  have hfirst : placeB (R * 8 + P / 8) = true := by simp [placeB]; omega
  have hv1 : rdV zs (R * 8 + P / 8) = one zs R P := by rw [rdV_ok H0.out hfirst, one, Int.mul_comm]
  rw [rdE_ok H0.out hfirst, hv1]
  clear hfirst hv1
  have K3 := K2.keep b3
  have J3 := J2.keep b3
  have B3 : Hid (Below w.heap.size w w3) := bel_trans B2.out b3
  clear b3 B2 J2 K2 l2 d2
  have l3 := J3.lt
  have d3 := J3.cell 0
  go_wp2_with fail
  refine (write_any _ zs _ _ _ (h.keep B3.out)).mono ?_
  rintro e w4 ⟨v4, rfl, h4, b4⟩
  rw [wrE_ok H0.out HKK.out HX.out]
  rw [wrM_ok H0.out HKK.out HX.out] at h4
  obtain ⟨zn, hzn⟩ : ∃ zn, zn = zs.set K.toNat X := ⟨_, rfl⟩
  rw [← hzn] at h4
  have HZ : Hid (zn = zs.set K.toNat X) := hzn
  clear hzn
  obtain ⟨a4, c4, rfl⟩ := h4.shape
  have K4 := K3.keep b4
  have B4 : Hid (Below w.heap.size w w4) := bel_trans B3.out b4
  clear b4 B3 J3 K3 l3 d3
  go_wp2_with fail
  refine (eRead_any _ _).mono ?_
  rintro e w5 ⟨rfl, b5⟩
  have K5 := (K4.past _).keep b5
  have M5 := (Blk.new w4 _ _ _).keep b5
  have h5 := h4.keep (bel_trans (bel_alloc (Below.refl _ _) _) b5)
  have B5 : Hid (Below w.heap.size w w5) := bel_trans (bel_alloc B4.out _) b5
  clear b5 B4 K4 h4
  have z1 : (K == -1) = false := by simp; omega
  cases ho : okE (one zs R P)
  · have H2 : vE (one zs R P) = true → lE (one zs R P) = false → ¬ K.toNat = (8 * pE (one zs R P) + P % 8).toNat := fun hv _ => by simp [vE, ho] at hv
    have HH : Hid _ := H2
    clear H2 ho
    by_cases hKf : K = R * 8 + P / 8
    focus
      have hq : (K == R * 8 + P / 8) = true := by simpa using hKf
      go_wp2
      go_ret
      exact ⟨rfl, bel_alloc B5.out _⟩
    have HS : Hid (wkd zn R P wr = ((b, r, xx, l, p), f, 0)) := HZ.out ▸ (wkd_set wr H0.out HX.out (fnd_set (by omega) HH.out)).trans HA.out
    have hq : (K == R * 8 + P / 8) = false := by simpa using hKf
    have l5 := M5.lt
    have e5 := M5.cell 0
    go_wp2_with fail
    refine (walk_at HS.out (h5.keep (bel_alloc (Below.refl _ _) _))).mono ?_
    rintro e w6 ⟨rfl, b6⟩
    have K6 := (K5.past _).keep b6
    have B6 : Hid (Below w.heap.size w w6) := bel_trans (bel_alloc B5.out _) b6
    have hfb := HFB.out
    obtain ⟨n0, n1, n2, n3, n4⟩ := K6.five
    have l6 := K6.lt
    clear b6 B5 K5 M5 K6 e5 l5 h5
    go_wp2
    go_ret
    exact ⟨rfl, bel_alloc B6.out _⟩
  cases hv : vE (one zs R P)
  · have H2 : vE (one zs R P) = true → lE (one zs R P) = false → ¬ K.toNat = (8 * pE (one zs R P) + P % 8).toNat := fun hv' _ => by simp [hv] at hv'
    have HH : Hid _ := H2
    clear H2 ho hv
    by_cases hKf : K = R * 8 + P / 8
    focus
      have hq : (K == R * 8 + P / 8) = true := by simpa using hKf
      go_wp2
      go_ret
      exact ⟨rfl, bel_alloc B5.out _⟩
    have HS : Hid (wkd zn R P wr = ((b, r, xx, l, p), f, 0)) := HZ.out ▸ (wkd_set wr H0.out HX.out (fnd_set (by omega) HH.out)).trans HA.out
    have hq : (K == R * 8 + P / 8) = false := by simpa using hKf
    have l5 := M5.lt
    have e5 := M5.cell 0
    go_wp2_with fail
    refine (walk_at HS.out (h5.keep (bel_alloc (Below.refl _ _) _))).mono ?_
    rintro e w6 ⟨rfl, b6⟩
    have K6 := (K5.past _).keep b6
    have B6 : Hid (Below w.heap.size w w6) := bel_trans (bel_alloc B5.out _) b6
    have hfb := HFB.out
    obtain ⟨n0, n1, n2, n3, n4⟩ := K6.five
    have l6 := K6.lt
    clear b6 B5 K5 M5 K6 e5 l5 h5
    go_wp2
    go_ret
    exact ⟨rfl, bel_alloc B6.out _⟩
  cases hl : lE (one zs R P)
  rotate_left
  · have H2 : vE (one zs R P) = true → lE (one zs R P) = false → ¬ K.toNat = (8 * pE (one zs R P) + P % 8).toNat := fun _ hl' => by simp [hl] at hl'
    have HH : Hid _ := H2
    clear H2 ho hv hl
    by_cases hKf : K = R * 8 + P / 8
    focus
      have hq : (K == R * 8 + P / 8) = true := by simpa using hKf
      go_wp2
      go_ret
      exact ⟨rfl, bel_alloc B5.out _⟩
    have HS : Hid (wkd zn R P wr = ((b, r, xx, l, p), f, 0)) := HZ.out ▸ (wkd_set wr H0.out HX.out (fnd_set (by omega) HH.out)).trans HA.out
    have hq : (K == R * 8 + P / 8) = false := by simpa using hKf
    have l5 := M5.lt
    have e5 := M5.cell 0
    go_wp2_with fail
    refine (walk_at HS.out (h5.keep (bel_alloc (Below.refl _ _) _))).mono ?_
    rintro e w6 ⟨rfl, b6⟩
    have K6 := (K5.past _).keep b6
    have B6 : Hid (Below w.heap.size w w6) := bel_trans (bel_alloc B5.out _) b6
    have hfb := HFB.out
    obtain ⟨n0, n1, n2, n3, n4⟩ := K6.five
    have l6 := K6.lt
    clear b6 B5 K5 M5 K6 e5 l5 h5
    go_wp2
    go_ret
    exact ⟨rfl, bel_alloc B6.out _⟩
  obtain ⟨p0, p1⟩ := pE_in (one zs R P)
  clear ho hv hl z1
  by_cases hKf : K = R * 8 + P / 8
  focus
    have hq : (K == R * 8 + P / 8) = true := by simpa using hKf
    go_wp2
    go_ret
    exact ⟨rfl, bel_alloc B5.out _⟩
  by_cases hKs : K = pE (one zs R P) * 8 + P % 8
  focus
    have hq : (K == R * 8 + P / 8) = false := by simpa using hKf
    have hq2 : (K == pE (one zs R P) * 8 + P % 8) = true := by simpa using hKs
    clear hKs hKf
    go_wp2
    go_ret
    exact ⟨rfl, bel_alloc B5.out _⟩
  have hq2 : (K == pE (one zs R P) * 8 + P % 8) = false := by simpa using hKs
  have H2 : vE (one zs R P) = true → lE (one zs R P) = false → ¬ K.toNat = (8 * pE (one zs R P) + P % 8).toNat := fun _ _ => by omega
  have HH : Hid _ := H2
  clear H2
  have HS : Hid (wkd zn R P wr = ((b, r, xx, l, p), f, 0)) := HZ.out ▸ (wkd_set wr H0.out HX.out (fnd_set (by omega) HH.out)).trans HA.out
  have hq : (K == R * 8 + P / 8) = false := by simpa using hKf
  have l5 := M5.lt
  have e5 := M5.cell 0
  go_wp2_with fail
  refine (walk_at HS.out (h5.keep (bel_alloc (Below.refl _ _) _))).mono ?_
  rintro e w6 ⟨rfl, b6⟩
  have K6 := (K5.past _).keep b6
  have B6 : Hid (Below w.heap.size w w6) := bel_trans (bel_alloc B5.out _) b6
  have hfb := HFB.out
  obtain ⟨n0, n1, n2, n3, n4⟩ := K6.five
  have l6 := K6.lt
  clear b6 B5 K5 M5 K6 e5 l5 h5
  go_wp2
  go_ret
  exact ⟨rfl, bel_alloc B6.out _⟩
end Go.Proofs.Ytnpgldcambbnhaa
