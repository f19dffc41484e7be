/-
  Entries and contexts as numbers: what is put is read, what is read and valid is put as it was.
-/
import Derived.Test.YtemnklppplgcoabEntry3
namespace Go.Proofs.Ytemnklppplgcoab
open Go.RowKit

theorem hi_six (z : Int) (h0 : 0 ≤ z) (h1 : z ≤ 65535) : anyB z [10, 11, 12, 13, 14, 15] = decide (1024 ≤ z) := by
  rw [Bool.eq_iff_iff]
  simp [anyB, bitB]
  omega
theorem hi_eight (z : Int) (h0 : 0 ≤ z) (h1 : z ≤ 65535) : anyB z [2, 3, 10, 11, 12, 13, 14, 15] = (bitB z 2 || bitB z 3 || decide (1024 ≤ z)) := by
  rw [Bool.eq_iff_iff]
  simp [anyB, bitB]
  omega

theorem put_back {v r x l : Bool} {p : Int} (h : putE v r x l p = 0) :
    okE (putW v r x l p) = true ∧ vE (putW v r x l p) = v ∧ rE (putW v r x l p) = r ∧ xE (putW v r x l p) = x ∧ lE (putW v r x l p) = l ∧ pE (putW v r x l p) = p := by
  have hw : putW v r x l p = accB p [v, r, x, l] 4 := by rw [putW, if_pos h]
  rw [hw]
  have hp : pageB p = true := by
    cases hh : pageB p
    · simp [putE, hh] at h
    · rfl
  have hf : formE v r x l p = true := by
    cases hh : formE v r x l p
    · simp [putE, hp, hh] at h
    · rfl
  obtain ⟨p0, p1⟩ : 0 ≤ p ∧ p < 64 := by simpa [pageB] using hp
  obtain ⟨m, e, m0, m1⟩ := accB_in p [v, r, x, l] 4 (by omega)
  have hz0 : 0 ≤ accB p [v, r, x, l] 4 := by omega
  have hz1 : accB p [v, r, x, l] 4 < 1024 := by omega
  have hwd : wordB (accB p [v, r, x, l] 4) = true := by simp [wordB]; omega
  have hh := hi_six _ hz0 (by omega : accB p [v, r, x, l] 4 ≤ 65535)
  rw [show decide (1024 ≤ accB p [v, r, x, l] 4) = false by simp; omega] at hh
  have hpg : accB p [v, r, x, l] 4 / 16 % 64 = p := by omega
  have hbits : bitB (accB p [v, r, x, l] 4) 0 = v ∧ bitB (accB p [v, r, x, l] 4) 1 = r ∧ bitB (accB p [v, r, x, l] 4) 2 = x ∧ bitB (accB p [v, r, x, l] 4) 3 = l := by
    clear hh hwd hz0 hz1 e m0 m1 hpg h hw hf
    cases v <;> cases r <;> cases x <;> cases l <;> simp [accB, bth, bitB] <;> omega
  obtain ⟨b0, b1, b2, b3⟩ := hbits
  have ho : okE (accB p [v, r, x, l] 4) = true := by
    rw [okE, hwd, b0, b1, b2, b3, hh, hpg]
    cases v
    · rfl
    · rw [hf]; rfl
  have hv : vE (accB p [v, r, x, l] 4) = v := by rw [vE, ho, b0]; rfl
  refine ⟨ho, hv, ?_, ?_, ?_, ?_⟩
  · rw [rE, hv, b1]; cases v
    · simp [formE] at hf; simp [hf]
    · rfl
  · rw [xE, hv, b2]; cases v
    · simp [formE] at hf; simp [hf]
    · rfl
  · rw [lE, hv, b3]; cases v
    · simp [formE] at hf; simp [hf]
    · rfl
  · rw [pE, hv, hpg]; cases v
    · simp [formE] at hf; simp [hf]
    · rfl

theorem ptc_back {v a : Bool} {p : Int} (h : ptcE v a p = 0) :
    okC (ptcW v a p) = true ∧ vC (ptcW v a p) = v ∧ aC (ptcW v a p) = a ∧ pC (ptcW v a p) = p := by
  have hw : ptcW v a p = accB p [v, a] 2 := by rw [ptcW, if_pos h]
  rw [hw]
  have hp : pageB p = true := by
    cases hh : pageB p
    · simp [ptcE, hh] at h
    · rfl
  have hf : formC v a p = true := by
    cases hh : formC v a p
    · simp [ptcE, hp, hh] at h
    · rfl
  obtain ⟨p0, p1⟩ : 0 ≤ p ∧ p < 64 := by simpa [pageB] using hp
  obtain ⟨m, e, m0, m1⟩ := accB_in p [v, a] 2 (by omega)
  have hz0 : 0 ≤ accB p [v, a] 2 := by omega
  have hz1 : accB p [v, a] 2 < 1024 := by omega
  have hwd : wordB (accB p [v, a] 2) = true := by simp [wordB]; omega
  have hh := hi_eight _ hz0 (by omega : accB p [v, a] 2 ≤ 65535)
  rw [show decide (1024 ≤ accB p [v, a] 2) = false by simp; omega] at hh
  have hpg : accB p [v, a] 2 / 16 % 64 = p := by omega
  have hbits : bitB (accB p [v, a] 2) 0 = v ∧ bitB (accB p [v, a] 2) 1 = a ∧ bitB (accB p [v, a] 2) 2 = false ∧ bitB (accB p [v, a] 2) 3 = false := by
    clear hh hwd hz0 hz1 e m0 m1 hpg h hw hf
    cases v <;> cases a <;> simp [accB, bth, bitB] <;> omega
  obtain ⟨b0, b1, b2, b3⟩ := hbits
  have ho : okC (accB p [v, a] 2) = true := by
    rw [okC, hwd, hh, b0, b1, b2, b3, hpg]
    cases v
    · rfl
    · rw [hf]; rfl
  have hv : vC (accB p [v, a] 2) = v := by rw [vC, ho, b0]; rfl
  refine ⟨ho, hv, ?_, ?_⟩
  · rw [aC, hv, b1]; cases v
    · simp [formC] at hf; simp [hf]
    · rfl
  · rw [pC, hv, hpg]; cases v
    · simp [formC] at hf; simp [hf]
    · rfl

theorem read_back {z : Int} (h : vE z = true) : putE (vE z) (rE z) (xE z) (lE z) (pE z) = 0 ∧ putW (vE z) (rE z) (xE z) (lE z) (pE z) = z ∧ 0 ≤ z ∧ z < 1024 := by
  have hr : rE z = bitB z 1 := by rw [rE, h]; rfl
  have hx : xE z = bitB z 2 := by rw [xE, h]; rfl
  have hl : lE z = bitB z 3 := by rw [lE, h]; rfl
  have hp : pE z = z / 16 % 64 := by rw [pE, h]; rfl
  have hb : bitB z 0 = true := by
    cases hh : bitB z 0
    · simp [vE, hh] at h
    · rfl
  have ho : okE z = true := by
    cases hh : okE z
    · simp [vE, hh] at h
    · rfl
  have hw : wordB z = true := by
    cases hh : wordB z
    · simp [okE, hh] at ho
    · rfl
  obtain ⟨h0, h1⟩ : 0 ≤ z ∧ z ≤ 65535 := by simpa [wordB] using hw
  rw [okE, hw, hb, hi_six z h0 h1] at ho
  simp only [Bool.not_true, Bool.false_or, Bool.true_and, Bool.and_eq_true, Bool.not_eq_true', decide_eq_false_iff_not, Int.not_le] at ho
  obtain ⟨hz, hf⟩ := ho
  have hpb : pageB (z / 16 % 64) = true := by simp [pageB]; omega
  have he : putE (vE z) (rE z) (xE z) (lE z) (pE z) = 0 := by rw [h, hr, hx, hl, hp, putE, hpb, hf]; rfl
  refine ⟨he, ?_, h0, hz⟩
  rw [putW, if_pos he, h, hr, hx, hl, hp]
  simp only [bitB, decide_eq_true_eq] at hb
  simp only [accB, bth, List.getD_cons_zero, List.getD_cons_succ, if_true, bitB, decide_eq_true_eq]
  split <;> split <;> split <;> omega

theorem readctx_back {z : Int} (h : vC z = true) : ptcE (vC z) (aC z) (pC z) = 0 ∧ ptcW (vC z) (aC z) (pC z) = z := by
  have ha : aC z = bitB z 1 := by rw [aC, h]; rfl
  have hp : pC z = z / 16 % 64 := by rw [pC, h]; rfl
  have hb : bitB z 0 = true := by
    cases hh : bitB z 0
    · simp [vC, hh] at h
    · rfl
  have ho : okC z = true := by
    cases hh : okC z
    · simp [vC, hh] at h
    · rfl
  have hw : wordB z = true := by
    cases hh : wordB z
    · simp [okC, hh] at ho
    · rfl
  obtain ⟨h0, h1⟩ : 0 ≤ z ∧ z ≤ 65535 := by simpa [wordB] using hw
  rw [okC, hw, hb, hi_eight z h0 h1] at ho
  simp only [Bool.not_true, Bool.false_or, Bool.true_and, Bool.and_eq_true, Bool.not_eq_true', Bool.or_eq_false_iff, decide_eq_false_iff_not, Int.not_le] at ho
  obtain ⟨⟨⟨b2, b3⟩, hz⟩, hf⟩ := ho
  have hpb : pageB (z / 16 % 64) = true := by simp [pageB]; omega
  have he : ptcE (vC z) (aC z) (pC z) = 0 := by rw [h, ha, hp, ptcE, hpb, hf]; rfl
  refine ⟨he, ?_⟩
  rw [ptcW, if_pos he, h, ha, hp]
  simp only [bitB, decide_eq_true_eq, decide_eq_false_iff_not] at hb b2 b3
  simp only [accB, bth, List.getD_cons_zero, List.getD_cons_succ, if_true, bitB, decide_eq_true_eq]
  split <;> omega
end Go.Proofs.Ytemnklppplgcoab
