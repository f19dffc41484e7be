/-
  What waits in a ring, as a list: numbers alone.
-/
import Derived.Test.YtemnklppplgcoabRing3
namespace Go.Proofs.Ytemnklppplgcoab
open Go.RowKit

/-- The place of a ring's step, so many steps behind its head. -/
def stp (p h : Int) (i : Nat) : Nat := (p * 8 + (h + (i : Int)) % 8).toNat
/-- The first so many words from the head on. -/
def wl (zs : List Int) (p h : Int) (n : Nat) : List Int := (List.range n).map (fun i => nth zs (stp p h i))
/-- These words lie in the ring, from the head on. -/
def Lies (zs : List Int) (p h : Int) (ws : List Int) : Prop := ∀ i, i < ws.length → nth zs (stp p h i) = nth ws i

theorem wl_len (zs : List Int) (p h : Int) (n : Nat) : (wl zs p h n).length = n := by simp [wl]
theorem wl_zero (zs : List Int) (p h : Int) : wl zs p h 0 = [] := rfl
theorem wl_succ (zs : List Int) (p h : Int) (n : Nat) : wl zs p h (n + 1) = wl zs p h n ++ [nth zs (stp p h n)] := by simp [wl, List.range_succ]
theorem wl_lies (zs : List Int) (p h : Int) (n : Nat) : Lies zs p h (wl zs p h n) := by
  intro i hi
  rw [wl_len] at hi
  simp [wl, nth, hi]
theorem stp_lt {p h : Int} (hp : 0 ≤ p ∧ p < 64) (i : Nat) : stp p h i < 512 := by unfold stp; omega
theorem stp_ne {p h : Int} (hp : 0 ≤ p ∧ p < 64) {i j : Nat} (hij : i < j) (hj : j < 8) : stp p h j ≠ stp p h i := by unfold stp; omega
theorem lies_push {zs ws : List Int} {p h x : Int} (hl : zs.length = 512) (hp : 0 ≤ p ∧ p < 64) (h7 : ws.length < 8) (hw : Lies zs p h ws) : Lies (zs.set (stp p h ws.length) x) p h (ws ++ [x]) := by
  intro i hi
  simp at hi
  by_cases e : i < ws.length
  · rw [nth_set_other (stp_ne hp e h7), hw i e]
    simp [nth, List.getElem?_append_left e]
  · obtain rfl : i = ws.length := by omega
    rw [nth_set_same (by rw [hl]; exact stp_lt hp _)]
    simp [nth]

/-- A ring's tail and length behind so many steps. -/
theorem len_steps {h : Int} {n : Nat} (hn : n < 8) : lenR h ((h + (n : Int)) % 8) = n := by unfold lenR; omega
theorem step_in (h : Int) (n : Nat) : stepR ((h + (n : Int)) % 8) = true := by simp [stepR]; omega
theorem step_next (h : Int) (n : Nat) : ((h + (n : Int)) % 8 + 1) % 8 = (h + ((n + 1 : Nat) : Int)) % 8 := by omega
theorem step_zero {h : Int} (hh : 0 ≤ h ∧ h < 8) : (h + ((0 : Nat) : Int)) % 8 = h := by omega
theorem step_tail {h t : Int} (ht : 0 ≤ t ∧ t < 8) : (h + ((lenR h t).toNat : Int)) % 8 = t := by unfold lenR; omega
theorem step_ne {h : Int} {i j : Nat} (hij : i < j) (hj : j < 8) : ¬ (h + (i : Int)) % 8 = (h + (j : Int)) % 8 := by omega
theorem stp_place (p h : Int) (n : Nat) : (p * 8 + (h + (n : Int)) % 8).toNat = stp p h n := rfl
end Go.Proofs.Ytemnklppplgcoab
