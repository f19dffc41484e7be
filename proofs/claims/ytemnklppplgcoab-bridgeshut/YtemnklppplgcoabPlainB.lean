/-
  Package bridge: Plain; and the forms of Through and Plain where what they answer is known.
-/
import Derived.Test.YtemnklppplgcoabThrough
namespace Go.Proofs.Ytemnklppplgcoab
open Go.RowKit

theorem through_at {v : Value} {zs : List Int} {mo ba op oh ot fe fp fh ft : Int} {st lo : Bool} {vc : Value} {l : List Ln} {d p : Int} {wr : Bool} {w : World} {mo1 ba1 op1 oh1 ot1 fe1 fp1 fh1 ft1 : Int} {st1 lo1 : Bool} {l1 : List Ln} {k f e0 : Int} (hs : Sl w v zs) (h : Ls w vc l) (hE : thE zs ⟨mo, ba, l, op, oh, ot, st, fe, fp, fh, ft, lo⟩ d p = e0) (hR : thR zs ⟨mo, ba, l, op, oh, ot, st, fe, fp, fh, ft, lo⟩ d p wr = (⟨mo1, ba1, l1, op1, oh1, ot1, st1, fe1, fp1, fh1, ft1, lo1⟩, k, f)) :
    Calls Try.prog 20 #[.agg #[v], .agg #[.int .i64 mo, .int .i64 ba, vc, .int .i64 op, .int .i64 oh, .int .i64 ot, .bool st, .int .i64 fe, .int .i64 fp, .int .i64 fh, .int .i64 ft, .bool lo], .int .i64 d, .int .i64 p, .bool wr] w fun e w' =>
      ∃ va1 vk1, e = .returned (.tuple #[.agg #[.int .i64 mo1, .int .i64 ba1, .slice va1 l1.length vk1, .int .i64 op1, .int .i64 oh1, .int .i64 ot1, .bool st1, .int .i64 fe1, .int .i64 fp1, .int .i64 fh1, .int .i64 ft1, .bool lo1], .int .i64 k, .int .i64 f, .int .i64 e0]) ∧ Ls w' (.slice va1 l1.length vk1) l1 ∧ Below w.heap.size w w' := by
  refine (through_any v zs mo ba op oh ot fe fp fh ft st lo vc l d p wr w hs h).mono ?_
  rintro e w' ⟨mo2, ba2, op2, oh2, ot2, fe2, fp2, fh2, ft2, st2, lo2, va2, vk2, l2, k2, f2, rfl, hR2, hl, hb⟩
  rw [hR] at hR2
  simp only [Prod.mk.injEq, Br.mk.injEq] at hR2
  obtain ⟨⟨rfl, rfl, rfl, rfl, rfl, rfl, rfl, rfl, rfl, rfl, rfl, rfl⟩, rfl, rfl⟩ := hR2
  rw [hE]
  exact ⟨va2, vk2, rfl, hl, hb⟩

set_option maxHeartbeats 4000000 in
theorem plain_at {v : Value} {zs : List Int} {mo ba op oh ot fe fp fh ft : Int} {st lo : Bool} {vc : Value} {l : List Ln} {d p : Int} {wr : Bool} {w : World} {c : Br} {k f e0 : Int} (hs : Sl w v zs) (h : Ls w vc l) (hE : thE zs ⟨mo, ba, [], op, oh, ot, st, fe, fp, fh, ft, lo⟩ d p = e0) (hR : thR zs ⟨mo, ba, [], op, oh, ot, st, fe, fp, fh, ft, lo⟩ d p wr = (c, k, f)) :
    Calls Try.prog 21 #[.agg #[v], .agg #[.int .i64 mo, .int .i64 ba, vc, .int .i64 op, .int .i64 oh, .int .i64 ot, .bool st, .int .i64 fe, .int .i64 fp, .int .i64 fh, .int .i64 ft, .bool lo], .int .i64 d, .int .i64 p, .bool wr] w fun e w' =>
      e = .returned (.tuple #[.int .i64 k, .int .i64 f, .int .i64 e0]) ∧ Below w.heap.size w w' := by
  obtain ⟨va, vk, rfl, -⟩ := h.shape
  have HM : Hid (Sl w v zs) := hs
  obtain ⟨ma, mc, rfl⟩ := hs.shape
  obtain ⟨mo1, ba1, l1, op1, oh1, ot1, st1, fe1, fp1, fh1, ft1, lo1⟩ := c
  have HE : Hid (_ = _) := hE
  have HR : Hid (_ = _) := hR
  clear h hs hE hR
  go_enter Try.func21, Try.ntmps21
  go_wp2_with fail
  have B1 : Hid (Below w.heap.size w _) := bel_alloc (bel_alloc (Below.refl w.heap.size w) (.cells #[.slice ma zs.length mc] 39)) (.cells #[.int .i64 mo, .int .i64 ba, .slice none 0 0, .int .i64 op, .int .i64 oh, .int .i64 ot, .bool st, .int .i64 fe, .int .i64 fp, .int .i64 fh, .int .i64 ft, .bool lo] 44)
  refine (through_at (HM.out.keep B1.out) (Ls.nothing _) HE.out HR.out).mono ?_
  rintro e w2 ⟨va1, vk1, rfl, hl, hb⟩
  have B2 : Hid (Below w.heap.size w w2) := bel_trans B1.out hb
  clear hb hl
  go_wp2
  refine bodyPost_ret (v := .tuple #[.int .i64 k, .int .i64 f, .int .i64 e0]) (by simp [results, Try.results21, go_sem, *]) rfl ⟨rfl, ?_⟩
  (repeat (first | with_reducible exact B2.out | with_reducible refine bel_alloc ?_ _ | (with_reducible refine bel_set12 ?_ ?_ _ _ _ _ _ _ _ _ _ _ _ _; (focus omega))))
end Go.Proofs.Ytemnklppplgcoab
