/-
  The closed fact 'stored' of the statements answers true; nothing that was there turns.
-/
import Derived.Test.YtemnklppplgcoabPut
namespace Go.Proofs.Ytemnklppplgcoab
open Go.RowKit

theorem nth_set_same {zs : List Int} {i : Nat} (h : i < zs.length) (x : Int) : nth (zs.set i x) i = x := by simp [nth, h]
theorem nth_set_other {zs : List Int} {i j : Nat} (h : i ≠ j) (x : Int) : nth (zs.set i x) j = nth zs j := by simp [nth, h]
theorem nth_zeros {i : Nat} (h : i < 512) : nth zeros i = 0 := by
  unfold nth zeros
  rw [List.getD_eq_getElem?_getD, List.getElem?_replicate, if_pos h]; rfl
theorem chk_zeros : chk zeros = 0 := chk_all zeros_length fun j hj => by rw [nth_zeros hj]; rfl
theorem chk_set {zs : List Int} {k : Nat} {x : Int} (h : chk zs = 0) (hx : wordB x = true) : chk (zs.set k x) = 0 := by
  obtain ⟨hl, ha⟩ := chk_ok h
  refine chk_all (by rw [List.length_set]; exact hl) fun j hj => ?_
  by_cases e : k = j
  · subst e; rw [nth_set_same (by omega)]; exact hx
  · rw [nth_set_other e]; exact ha j hj
theorem rdV_ok {zs : List Int} {k : Int} (h : chk zs = 0) (hp : placeB k = true) : rdV zs k = nth zs k.toNat := by simp [rdV, h, hp]
theorem rdE_ok {zs : List Int} {k : Int} (h : chk zs = 0) (hp : placeB k = true) : rdE zs k = 0 := by simp [rdE, h, hp]
theorem wrE_ok {zs : List Int} {k x : Int} (h : chk zs = 0) (hp : placeB k = true) (hx : wordB x = true) : wrE zs k x = 0 := by simp [wrE, h, hp, hx]
theorem wrM_ok {zs : List Int} {k x : Int} (h : chk zs = 0) (hp : placeB k = true) (hx : wordB x = true) : wrM zs k x = zs.set k.toNat x := by rw [wrM, if_pos ⟨h, hp, hx⟩]

/-- New's memory: where it lies, and what it reads as. -/
theorem new_both (w : World) :
    Calls Try.prog 87 #[] w fun e w' => ∃ g, e = .returned (.agg #[.slice (some ⟨g, 0, none⟩) 512 512]) ∧ Sl w' (.slice (some ⟨g, 0, none⟩) 512 512) zeros ∧ Below w.heap.size w w' :=
  (new_own w).mono fun e w' ⟨g, he, hg, _, hb⟩ => ⟨_, he, sl_block hg zeroCells_list zeros_length.symm (by rw [zeros_length]; simp [maxLen]), hb⟩

/-- New memory with one word. -/
def oneWord : List Int := zeros.set 9 7
theorem oneWord_len : oneWord.length = 512 := by unfold oneWord; rw [List.length_set, zeros_length]
theorem chk_oneWord : chk oneWord = 0 := chk_set chk_zeros rfl
theorem wrM_oneWord : wrM zeros 9 7 = oneWord := wrM_ok chk_zeros rfl rfl
theorem wrE_oneWord : wrE zeros 9 7 = 0 := wrE_ok chk_zeros rfl rfl
theorem rdV_oneWord : rdV oneWord 9 = 7 := by rw [rdV_ok chk_oneWord rfl]; exact nth_set_same (by rw [zeros_length]; decide) 7
theorem rdE_oneWord : rdE oneWord 9 = 0 := rdE_ok chk_oneWord rfl
theorem rdE_past : rdE oneWord 512 = 4 := by unfold rdE; rw [if_pos chk_oneWord]; rfl

/-- The one field of a memory that is a value. -/
theorem field0 (v : Value) (w : World) : (Instr.field 39 (.agg #[v]) 0).run Try.prog w = .ok v w := by kernel_rfl

end Go.Proofs.Ytemnklppplgcoab
