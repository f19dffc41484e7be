/-
  Laid together: HState, Upto.
-/
import Derived.Test.YthlhocneggcekaaGreatB1
import Derived.Test.YthlhocneggcekaaGreatB2
import Derived.Test.YthlhocneggcekaaGreatB3
import Derived.Test.YthlhocneggcekaaGreatB4
import Derived.Test.YthlhocneggcekaaGreatB5
import Derived.Test.YthlhocneggcekaaGreatB6
import Derived.Test.YthlhocneggcekaaGreatB7
import Derived.Test.YthlhocneggcekaaGreatB9
import Derived.Test.YthlhocneggcekaaGreatB10
import Derived.Test.YthlhocneggcekaaGreatB11
import Derived.Test.YthlhocneggcekaaGreatB13
import Derived.Maps.OwnOps
import Derived.Maps.OwnSet
import Derived.Test.YthlhocneggcekaaGreatRows
import Derived.WalkKit
import Derived.WalkSpells
import Derived.WalkLawsBesides
import Derived.Below
import Derived.WalkSmall
import Derived.Deep.QuietTactic
import Derived.BigQuiet
import Derived.Deep.Draws
import Derived.Deep.AppendLies
import Derived.Deep.RegionWith
import Derived.LoopN
import Derived.Deep.CutRange
import Derived.Deep.RegionHeld3
import Derived.Deep.DrawnRows
import Derived.Laws.CopyOwn
import Derived.Deep.RegionHeld
namespace Go.Proofs.YthlhocneggcekaaGreat
open Go.RowKit
theorem Box.marksAll {w : World} {n : Nat} {t : TypeId} {cs : Array Value} (h : Box w n t cs) : ∀ i, w.frozen? ⟨n, i, none⟩ = false := fun i => h.frozen i
theorem Box.state {w : World} {n : Nat} {t : TypeId} {vm vc : Value} {pc : Int} {rs : List Int} {mo ba op oh ot fe fp fh ft : Int} {st lo : Bool} (h : Box w n t #[vm, J pc, J (nth rs 0), J (nth rs 1), J (nth rs 2), J (nth rs 3), J (nth rs 4), J (nth rs 5), J (nth rs 6), J (nth rs 7), J mo, J ba, vc, J op, J oh, J ot, .bool st, J fe, J fp, J fh, J ft, .bool lo]) :
    (w.cell? ⟨n, 0, none⟩ = some vm ∧ w.cell? ⟨n, 1, none⟩ = some (J pc) ∧ w.cell? ⟨n, 2, none⟩ = some (J (nth rs 0)) ∧ w.cell? ⟨n, 3, none⟩ = some (J (nth rs 1)) ∧ w.cell? ⟨n, 4, none⟩ = some (J (nth rs 2)) ∧ w.cell? ⟨n, 5, none⟩ = some (J (nth rs 3)) ∧ w.cell? ⟨n, 6, none⟩ = some (J (nth rs 4)) ∧ w.cell? ⟨n, 7, none⟩ = some (J (nth rs 5)) ∧ w.cell? ⟨n, 8, none⟩ = some (J (nth rs 6)) ∧ w.cell? ⟨n, 9, none⟩ = some (J (nth rs 7))) ∧
    (w.cell? ⟨n, 10, none⟩ = some (J mo) ∧ w.cell? ⟨n, 11, none⟩ = some (J ba) ∧ w.cell? ⟨n, 12, none⟩ = some vc ∧ w.cell? ⟨n, 13, none⟩ = some (J op) ∧ w.cell? ⟨n, 14, none⟩ = some (J oh) ∧ w.cell? ⟨n, 15, none⟩ = some (J ot) ∧ w.cell? ⟨n, 16, none⟩ = some (.bool st) ∧ w.cell? ⟨n, 17, none⟩ = some (J fe) ∧ w.cell? ⟨n, 18, none⟩ = some (J fp) ∧ w.cell? ⟨n, 19, none⟩ = some (J fh) ∧ w.cell? ⟨n, 20, none⟩ = some (J ft) ∧ w.cell? ⟨n, 21, none⟩ = some (.bool lo)) ∧ n < w.heap.size :=
  ⟨⟨h.cell 0, h.cell 1, h.cell 2, h.cell 3, h.cell 4, h.cell 5, h.cell 6, h.cell 7, h.cell 8, h.cell 9⟩, ⟨h.cell 10, h.cell 11, h.cell 12, h.cell 13, h.cell 14, h.cell 15, h.cell 16, h.cell 17, h.cell 18, h.cell 19, h.cell 20, h.cell 21⟩, h.lt⟩
theorem Box.state0 {w : World} {n : Nat} {t : TypeId} {a0 a1 a2 a3 a4 a5 a6 a7 a8 a9 a10 a11 a12 a13 a14 a15 a16 a17 a18 a19 a20 a21 : Value} (h : Box w n t #[a0, a1, a2, a3, a4, a5, a6, a7, a8, a9, a10, a11, a12, a13, a14, a15, a16, a17, a18, a19, a20, a21]) :
    (w.cell? ⟨n, 0, none⟩ = some a0 ∧ w.cell? ⟨n, 1, none⟩ = some a1 ∧ w.cell? ⟨n, 2, none⟩ = some a2 ∧ w.cell? ⟨n, 3, none⟩ = some a3 ∧ w.cell? ⟨n, 4, none⟩ = some a4 ∧ w.cell? ⟨n, 5, none⟩ = some a5 ∧ w.cell? ⟨n, 6, none⟩ = some a6 ∧ w.cell? ⟨n, 7, none⟩ = some a7 ∧ w.cell? ⟨n, 8, none⟩ = some a8 ∧ w.cell? ⟨n, 9, none⟩ = some a9) ∧
    (w.cell? ⟨n, 10, none⟩ = some a10 ∧ w.cell? ⟨n, 11, none⟩ = some a11 ∧ w.cell? ⟨n, 12, none⟩ = some a12 ∧ w.cell? ⟨n, 13, none⟩ = some a13 ∧ w.cell? ⟨n, 14, none⟩ = some a14 ∧ w.cell? ⟨n, 15, none⟩ = some a15 ∧ w.cell? ⟨n, 16, none⟩ = some a16 ∧ w.cell? ⟨n, 17, none⟩ = some a17 ∧ w.cell? ⟨n, 18, none⟩ = some a18 ∧ w.cell? ⟨n, 19, none⟩ = some a19 ∧ w.cell? ⟨n, 20, none⟩ = some a20 ∧ w.cell? ⟨n, 21, none⟩ = some a21) ∧ n < w.heap.size :=
  ⟨⟨h.cell 0, h.cell 1, h.cell 2, h.cell 3, h.cell 4, h.cell 5, h.cell 6, h.cell 7, h.cell 8, h.cell 9⟩, ⟨h.cell 10, h.cell 11, h.cell 12, h.cell 13, h.cell 14, h.cell 15, h.cell 16, h.cell 17, h.cell 18, h.cell 19, h.cell 20, h.cell 21⟩, h.lt⟩
theorem Box.reg {w : World} {n : Nat} {t : TypeId} {vm vc : Value} {pc : Int} {rs : List Int} {mo ba op oh ot fe fp fh ft : Int} {st lo : Bool} (h : Box w n t #[vm, J pc, J (nth rs 0), J (nth rs 1), J (nth rs 2), J (nth rs 3), J (nth rs 4), J (nth rs 5), J (nth rs 6), J (nth rs 7), J mo, J ba, vc, J op, J oh, J ot, .bool st, J fe, J fp, J fh, J ft, .bool lo]) {i : Nat} (hi : i < 8) : w.cell? ⟨n, 2 + i, none⟩ = some (J (nth rs i)) := by
  have := h.cell (2 + i)
  rw [this]
  have e : i = 0 ∨ i = 1 ∨ i = 2 ∨ i = 3 ∨ i = 4 ∨ i = 5 ∨ i = 6 ∨ i = 7 := by omega
  rcases e with rfl | rfl | rfl | rfl | rfl | rfl | rfl | rfl <;> rfl
theorem nth_ne {l : List Int} {i j : Nat} (h : ¬ i = j) (z : Int) : nth l j = nth (l.set i z) j := (nth_set_ne h z).symm
theorem Box.setReg {w : World} {n : Nat} {t : TypeId} {vm vc : Value} {pc : Int} {rs : List Int} {mo ba op oh ot fe fp fh ft : Int} {st lo : Bool} (h : Box w n t #[vm, J pc, J (nth rs 0), J (nth rs 1), J (nth rs 2), J (nth rs 3), J (nth rs 4), J (nth rs 5), J (nth rs 6), J (nth rs 7), J mo, J ba, vc, J op, J oh, J ot, .bool st, J fe, J fp, J fh, J ft, .bool lo]) {i : Nat} (hi : i < 8) (h8 : rs.length = 8) (z : Int) :
    Box (w.setCell ⟨n, 2 + i, none⟩ (J z)) n t #[vm, J pc, J (nth (rs.set i z) 0), J (nth (rs.set i z) 1), J (nth (rs.set i z) 2), J (nth (rs.set i z) 3), J (nth (rs.set i z) 4), J (nth (rs.set i z) 5), J (nth (rs.set i z) 6), J (nth (rs.set i z) 7), J mo, J ba, vc, J op, J oh, J ot, .bool st, J fe, J fp, J fh, J ft, .bool lo] := by
  have := h.set (2 + i) (J z)
  have e : i = 0 ∨ i = 1 ∨ i = 2 ∨ i = 3 ∨ i = 4 ∨ i = 5 ∨ i = 6 ∨ i = 7 := by omega
  have hz := nth_set_eq (l := rs) (i := i) (by omega) z
  rcases e with rfl | rfl | rfl | rfl | rfl | rfl | rfl | rfl
  · rw [nth_ne (show ¬ 0 = 1 by decide) z, nth_ne (show ¬ 0 = 2 by decide) z, nth_ne (show ¬ 0 = 3 by decide) z, nth_ne (show ¬ 0 = 4 by decide) z, nth_ne (show ¬ 0 = 5 by decide) z, nth_ne (show ¬ 0 = 6 by decide) z, nth_ne (show ¬ 0 = 7 by decide) z] at this
    rw [hz]; exact this
  · rw [nth_ne (show ¬ 1 = 0 by decide) z, nth_ne (show ¬ 1 = 2 by decide) z, nth_ne (show ¬ 1 = 3 by decide) z, nth_ne (show ¬ 1 = 4 by decide) z, nth_ne (show ¬ 1 = 5 by decide) z, nth_ne (show ¬ 1 = 6 by decide) z, nth_ne (show ¬ 1 = 7 by decide) z] at this
    rw [hz]; exact this
  · rw [nth_ne (show ¬ 2 = 0 by decide) z, nth_ne (show ¬ 2 = 1 by decide) z, nth_ne (show ¬ 2 = 3 by decide) z, nth_ne (show ¬ 2 = 4 by decide) z, nth_ne (show ¬ 2 = 5 by decide) z, nth_ne (show ¬ 2 = 6 by decide) z, nth_ne (show ¬ 2 = 7 by decide) z] at this
    rw [hz]; exact this
  · rw [nth_ne (show ¬ 3 = 0 by decide) z, nth_ne (show ¬ 3 = 1 by decide) z, nth_ne (show ¬ 3 = 2 by decide) z, nth_ne (show ¬ 3 = 4 by decide) z, nth_ne (show ¬ 3 = 5 by decide) z, nth_ne (show ¬ 3 = 6 by decide) z, nth_ne (show ¬ 3 = 7 by decide) z] at this
    rw [hz]; exact this
  · rw [nth_ne (show ¬ 4 = 0 by decide) z, nth_ne (show ¬ 4 = 1 by decide) z, nth_ne (show ¬ 4 = 2 by decide) z, nth_ne (show ¬ 4 = 3 by decide) z, nth_ne (show ¬ 4 = 5 by decide) z, nth_ne (show ¬ 4 = 6 by decide) z, nth_ne (show ¬ 4 = 7 by decide) z] at this
    rw [hz]; exact this
  · rw [nth_ne (show ¬ 5 = 0 by decide) z, nth_ne (show ¬ 5 = 1 by decide) z, nth_ne (show ¬ 5 = 2 by decide) z, nth_ne (show ¬ 5 = 3 by decide) z, nth_ne (show ¬ 5 = 4 by decide) z, nth_ne (show ¬ 5 = 6 by decide) z, nth_ne (show ¬ 5 = 7 by decide) z] at this
    rw [hz]; exact this
  · rw [nth_ne (show ¬ 6 = 0 by decide) z, nth_ne (show ¬ 6 = 1 by decide) z, nth_ne (show ¬ 6 = 2 by decide) z, nth_ne (show ¬ 6 = 3 by decide) z, nth_ne (show ¬ 6 = 4 by decide) z, nth_ne (show ¬ 6 = 5 by decide) z, nth_ne (show ¬ 6 = 7 by decide) z] at this
    rw [hz]; exact this
  · rw [nth_ne (show ¬ 7 = 0 by decide) z, nth_ne (show ¬ 7 = 1 by decide) z, nth_ne (show ¬ 7 = 2 by decide) z, nth_ne (show ¬ 7 = 3 by decide) z, nth_ne (show ¬ 7 = 4 by decide) z, nth_ne (show ¬ 7 = 5 by decide) z, nth_ne (show ¬ 7 = 6 by decide) z] at this
    rw [hz]; exact this
theorem infoState : (Tryz.prog.info? 154).map (·.size) = some 22 := by kernel_rfl
theorem Box.setRow {w : World} {n : Nat} {t : TypeId} {cs : Array Value} (h : Box w n t cs) (new : Array Value) : Box (w.setRow n new) n t new := setRow_heap w n cs new t _ h
theorem Box.otherRow {w : World} {n m : Nat} {t : TypeId} {cs : Array Value} (h : Box w n t cs) (hp : n ≠ m) (new : Array Value) : Box (w.setRow m new) n t cs := (setRow_other w m n new hp).trans h
theorem bel_setRow {a w : World} {n : Nat} (hp : a.heap.size ≤ n) (h : Below a.heap.size a w) (new : Array Value) : Below a.heap.size a (w.setRow n new) :=
  ⟨h.os, h.tape, h.output, by simpa [World.setRow] using h.size, fun k hk => (setRow_other w n k new (by omega)).trans (h.block k hk)⟩
theorem Box.loadState {w : World} {n : Nat} {t : TypeId} {cs : Array Value} (h : Box w n t cs) (hs : cs.size = 22) : (loadVar 154 ⟨n, 0, none⟩).run Tryz.prog w = .ok (.agg cs) w :=
  run_loadVar_row w n t 154 cs (0, 0) _ h Tryz.underlying154 rfl (by rw [infoState, hs])
theorem stateOne (am : Option Addr) (nm cm : Nat) (pc r0 r1 r2 r3 r4 r5 r6 r7 mo ba op oh ot fe fp fh ft : Int) (st lo : Bool) (ca : Option Addr) (ck cc : Nat) : Array.all (α := Value) #[.slice am nm cm, J pc, J r0, J r1, J r2, J r3, J r4, J r5, J r6, J r7, J mo, J ba, .slice ca ck cc, J op, J oh, J ot, .bool st, J fe, J fp, J fh, J ft, .bool lo] (·.oneCell') = true := by simp [Value.oneCell']
theorem Sl.otherRow {w : World} {v : Value} {zs : List Int} (h : Sl w v zs) {m : Nat} (hp : v.ownBlock ≠ some m) (new : Array Value) : Sl (w.setRow m new) v zs := by
  obtain ⟨a, cap, rfl, hl, h⟩ := h
  refine ⟨a, cap, rfl, hl, ?_⟩
  rcases h with h | ⟨b, o, rfl, hlt, hc⟩
  · exact .inl h
  · refine .inr ⟨b, o, rfl, by simpa [World.setRow] using hlt, fun i hi => ?_⟩
    have hb : b ≠ m := fun e => hp (by simp [Value.ownBlock, e])
    rw [World.cell?_of_block (a := ⟨b, o + i, none⟩) (setRow_other w m b new hb)]
    exact hc i hi
theorem inWord_any (z : Int) (w : World) (h0 : 0 ≤ z) :
    Calls Tryz.prog 154 #[J z] w fun e w' => e = .returned (J (z % 65536)) ∧ w' = w := by
  go_enter Tryz.func154, Tryz.ntmps154
  go_wp2
  go_ret
  exact ⟨rfl, rfl⟩
set_option maxHeartbeats 1000000 in
theorem shifted_any (v i : Int) (w : World) (hv : 0 ≤ v ∧ v ≤ 65535) (hi : 0 ≤ i ∧ i ≤ 63) :
    Calls Tryz.prog 155 #[J v, J i] w fun e w' => e = .returned (J (v * 2 ^ i.toNat % 65536)) ∧ w' = w := by
  have HV : Hid (0 ≤ v ∧ v ≤ 65535) := hv
  obtain ⟨hi0, hi1⟩ := hi
  clear hv
  go_enter Tryz.func155, Tryz.ntmps155
  go_wp2
  go_loop [0, 6] (fun s c => ∃ k : Nat, (k : Int) ≤ i ∧ c = J k ∧ s = J (shl v k)) (fun _ c => 64 - (intOf c).toNat)
  case atStart => exact ⟨0, by omega, rfl, rfl⟩
  case round =>
    obtain ⟨k, hk, rfl, rfl⟩ := hrel
    by_cases hlt : (k : Int) < i
    · obtain ⟨s, hs⟩ : ∃ s, shl v k = s := ⟨_, rfl⟩
      have hsb := shl_in HV.out k
      have HS : Hid (shl v (k + 1) = s * 2 % 65536) := by show _ = _; rw [shl, hs]
      rw [hs] at hsb ⊢
      obtain ⟨s0, s1⟩ := hsb
      clear hs
      go_wp2_with (go_at_call 154; refine (inWord_any _ _ (by omega)).mono ?_; rintro e w' ⟨rfl, rfl⟩)
      refine ⟨⟨k + 1, by omega, by go_num, by rw [HS.out]⟩, by simp [intOf]; omega⟩
    · have hn : k = i.toNat := by omega
      have HS : Hid (shl v k = v * 2 ^ i.toNat % 65536) := by show _ = _; rw [shl_pow HV.out, hn]
      clear hn
      go_wp2
      go_ret
      exact ⟨ret_int HS.out, rfl⟩
theorem trouble_any (mo ba op oh ot fe fp fh ft : Int) (st lo : Bool) (vc : Value) (l : List Ln) (w : World) (hc : ∃ a k c, vc = .slice a k c) :
    Calls Tryz.prog 174 #[.agg #[J mo, J ba, vc, J op, J oh, J ot, .bool st, J fe, J fp, J fh, J ft, .bool lo]] w fun e w' => e = .returned (J (stB ⟨mo, ba, l, op, oh, ot, st, fe, fp, fh, ft, lo⟩)) ∧ ∃ o, w' = w.alloc o := by
  obtain ⟨ca, ck, cc, rfl⟩ := hc
  cases st <;> cases lo
  all_goals
    go_enter Tryz.func174, Tryz.ntmps174
    go_wp2
    go_ret
    exact ⟨rfl, _, rfl⟩
end Go.Proofs.YthlhocneggcekaaGreat
namespace Go.Proofs.YthlhocneggcekaaGreat
open Go Go.RowKit
section
variable {P : Program} {ops : Array Oper} {Q : Exit → Act → World → Prop} {md : Region.Mode} {S : World → Prop} {z : Nat}
def wpUpto (P : Program) (md : Region.Mode) (ops : Array Oper) (Q : Exit → Act → World → Prop) (S : World → Prop) (z : Nat) : Nat → Array Bool → Act → World → Prop
  | 0, listed, a, w => Region.ready md ops listed = [] ∧ Q .normal a w
  | n + 1, listed, a, w => (Region.ready md ops listed = [] → Q .normal a w) ∧
      ∀ i ∈ Region.ready md ops listed, wpOp P ops Q i (fun a' w' => (i ≠ z → S w') ∧ wpUpto P md ops Q S z n (listed.setIfInBounds i true) a' w') a w
theorem wpAny_of_upto : ∀ (n : Nat) (listed : Array Bool) (a : Act) (w : World), wpUpto P md ops Q S z n listed a w → wpAny P md ops Q n listed a w
  | 0, _, _, _, h => h
  | n + 1, _, _, _, h => ⟨h.1, fun i hi => wpOp_mono (fun a' w' h' => wpAny_of_upto n _ a' w' h'.2) (h.2 i hi)⟩
def waits (md : Region.Mode) (ops : Array Oper) (z i : Nat) : Bool := match ops[z]? with
  | some o => o.after.any (fun e => Region.binds md e && e.on == i)
  | none => true
theorem waits_spec {i : Nat} (h : waits md ops z i = true) {listed : Array Bool} (hz : z ∈ Region.ready md ops listed) : listed.getD i false = true := by
  obtain ⟨_, o, ho, hall⟩ := mem_ready.1 hz
  unfold waits at h
  rw [ho] at h
  simp only [Array.any_eq_true] at h
  obtain ⟨j, hj, he⟩ := h
  rw [Bool.and_eq_true, beq_iff_eq] at he
  have := hall _ (Array.getElem_mem hj) he.1
  rw [he.2] at this
  exact this
theorem wpUpto_first {i : Nat} {oi : Oper} {v : Value} (hi : ops[i]? = some oi) (hsel : ∀ (j : Nat) (o : Oper) cs b, ops[j]? = some o → o.op ≠ .select cs b) (hwt : waits md ops z i = true)
    (hQ : ∀ c a w, Q (.panic c) (a.put oi.dst v) w → Q (.panic c) a w) :
    ∀ (n : Nat) (listed : Array Bool) (a : Act) (w : World),
      (∀ j oj, ops[j]? = some oj → j ≠ i → listed.getD j true = false → (∀ e ∈ oj.after, Region.binds md e = true → e.on ≠ i) → oi.apart ops oj = true) →
      i ∈ Region.ready md ops listed → YieldsIf P ops S oi v a → S w →
      wpUpto P md ops Q S z n (listed.setIfInBounds i true) (a.put oi.dst v) w → wpUpto P md ops Q S z (n + 1) listed a w := by
  intro n
  induction n with
  | zero =>
    intro listed a w _ hr hy hS H
    refine ⟨fun h => (by rw [h] at hr; cases hr), fun j hj => ?_⟩
    by_cases e : j = i
    · subst e; exact hy.wpOp hi hS ⟨fun _ => hS, H⟩
    · have := ready_mono hj e
      rw [H.1] at this
      cases this
  | succ n ih =>
    intro listed a w hfree hr hy hS H
    refine ⟨fun h => (by rw [h] at hr; cases hr), fun j hj => ?_⟩
    by_cases e : j = i
    · subst e; exact hy.wpOp hi hS ⟨fun _ => hS, H⟩
    · have hun : listed.getD i true = false := (mem_ready.1 hr).1
      have hjz : j ≠ z := by
        rintro rfl
        have h1 := waits_spec hwt hj
        rcases Nat.lt_or_ge i listed.size with h' | h'
        · simp [h'] at hun h1; rw [hun] at h1; cases h1
        · simp [Array.getElem?_eq_none h'] at h1
      obtain ⟨hjun, oj, hoj, hall⟩ := mem_ready.1 hj
      have hnot : ∀ e ∈ oj.after, Region.binds md e = true → e.on ≠ i := fun e he hb heq => by
        have h1 := hall e he hb
        rw [heq] at h1
        rcases Nat.lt_or_ge i listed.size with h' | h'
        · simp [h'] at hun h1; rw [hun] at h1; cases h1
        · simp [Array.getElem?_eq_none h'] at h1
      have h2 := wpOp_putIf hoj (hfree j oj hoj e hjun hnot) (fun cs b => hsel i oi cs b hi) (fun cs b => hsel j oj cs b hoj) hQ hy (H.2 j (ready_mono hj e))
      refine wpOp_mono (fun a' w' h3 => ⟨fun _ => h3.2.1 hjz, ih (listed.setIfInBounds j true) a' w' (fun q oq hq hqi hqu hno => ?_) (ready_mono hr (Ne.symm e)) h3.1 (h3.2.1 hjz) ?_⟩) h2
      · refine hfree q oq hq hqi ?_ hno
        by_cases hjq : j = q
        · subst hjq; exact hjun
        · rw [getD_set_ne true hjq] at hqu; exact hqu
      · rw [Array.setIfInBounds_comm _ _ e]
        exact h3.2.2
theorem wpUpto_take {i : Nat} {oi : Oper} {v : Value} {n : Nat} {listed : Array Bool} {a : Act} {w : World} (hi : ops[i]? = some oi)
    (hs : Region.noSelect ops = true) (hf : Region.free md ops listed i = true) (hr : (Region.ready md ops listed).contains i = true) (hwt : waits md ops z i = true)
    (hQ : ∀ c a w, Q (.panic c) (a.put oi.dst v) w → Q (.panic c) a w) (hy : YieldsIf P ops S oi v a) (hS : S w)
    (h : wpUpto P md ops Q S z n (listed.setIfInBounds i true) (a.put oi.dst v) w) : wpUpto P md ops Q S z (n + 1) listed a w :=
  wpUpto_first hi (Region.noSelect_spec hs) hwt hQ n listed a w (Region.free_spec hi hf) (by simpa using hr) hy hS h
theorem wpUpto_one {i : Nat} {o : Oper} {n : Nat} {listed : Array Bool} {a : Act} {w : World} (hr : Region.ready md ops listed = [i]) (ho : ops[i]? = some o)
    (h : ∀ K' : Act → World → Prop, Shut (∀ a w, (i ≠ z → S w) → wpUpto P md ops Q S z n (listed.setIfInBounds i true) a w → K' a w) → if Region.wanted o (yielded ops a.tmps) = true then Oper.wp P o a w K' Q else K' (a.put o.dst undef) w) :
    wpUpto P md ops Q S z (n + 1) listed a w := by
  refine ⟨fun h0 => absurd (hr ▸ h0) (by simp), fun j hj => ?_⟩
  rw [hr, List.mem_singleton] at hj
  subst hj
  exact wpOp_step ho (fun K' hK => h K' (fun a w h1 h2 => hK a w ⟨h1, h2⟩))
theorem wpUpto_done {listed : Array Bool} {a : Act} {w : World} (hr : Region.ready md ops listed = []) (h : Q .normal a w) : ∀ n, wpUpto P md ops Q S z n listed a w
  | 0 => ⟨hr, h⟩
  | _ + 1 => ⟨fun _ => h, fun i hi => by rw [hr] at hi; cases hi⟩
theorem wp_region_upto {id : Nat} {a : Act} {w : World} (hm : P.follows .mixedOrders = true) (z : Nat) (S : World → Prop) (hS : S w.drew)
    (h : S w.drew → wpUpto P .any ops Q S z ops.size (Array.replicate ops.size false) a w.drew) : (Code.region id ops true).wp P Q a w :=
  wp_region_any hm (wpAny_of_upto _ _ _ _ (h hS))
def opL : List Oper → Nat → Option Oper
  | [], _ => none
  | o :: _, 0 => some o
  | _ :: l, n + 1 => opL l n
theorem opL_at : ∀ (l : List Oper) (i : Nat), opL l i = l[i]?
  | [], _ => rfl
  | _ :: _, 0 => rfl
  | _ :: l, n + 1 => by rw [opL, opL_at l n, List.getElem?_cons_succ]
theorem opL_spec {i : Nat} {o : Oper} (h : opL ops.toList i = some o) : ops[i]? = some o := by rw [← Array.getElem?_toList, ← opL_at]; exact h
theorem wpUpto_takeL {i : Nat} {oi : Oper} {v : Value} {n : Nat} {listed : Array Bool} {a : Act} {w : World} (hi : opL ops.toList i = some oi)
    (hs : Region.noSelect ops = true) (hf : Region.free md ops listed i = true) (hr : (Region.ready md ops listed).contains i = true) (hwt : waits md ops z i = true)
    (hQ : ∀ c a w, Q (.panic c) (a.put oi.dst v) w → Q (.panic c) a w) (hy : YieldsIf P ops S oi v a) (hS : S w)
    (h : wpUpto P md ops Q S z n (listed.setIfInBounds i true) (a.put oi.dst v) w) : wpUpto P md ops Q S z (n + 1) listed a w := wpUpto_take (opL_spec hi) hs hf hr hwt hQ hy hS h
theorem wpUpto_oneL {i : Nat} {o : Oper} {n : Nat} {listed : Array Bool} {a : Act} {w : World} (hr : Region.ready md ops listed = [i]) (ho : opL ops.toList i = some o)
    (h : ∀ K' : Act → World → Prop, Shut (∀ a w, (i ≠ z → S w) → wpUpto P md ops Q S z n (listed.setIfInBounds i true) a w → K' a w) → if Region.wanted o (yielded ops a.tmps) = true then Oper.wp P o a w K' Q else K' (a.put o.dst undef) w) :
    wpUpto P md ops Q S z (n + 1) listed a w := wpUpto_one hr (opL_spec ho) h
theorem wpHeld_takeL {i : Nat} {oi : Oper} {v : Value} {n : Nat} {listed : Array Bool} {a : Act} {w : World} (hi : opL ops.toList i = some oi)
    (hs : Region.noSelect ops = true) (hf : Region.free md ops listed i = true) (hr : (Region.ready md ops listed).contains i = true)
    (hQ : ∀ c a w, Q (.panic c) (a.put oi.dst v) w → Q (.panic c) a w) (hy : YieldsIf P ops S oi v a) (hS : S w)
    (h : wpAnyH P md ops Q S n (listed.setIfInBounds i true) (a.put oi.dst v) w) : wpAnyH P md ops Q S (n + 1) listed a w := wpAnyH_take (opL_spec hi) hs hf hr hQ hy hS h
theorem wpHeld_oneL {i : Nat} {o : Oper} {n : Nat} {listed : Array Bool} {a : Act} {w : World} (hr : Region.ready md ops listed = [i]) (ho : opL ops.toList i = some o)
    (h : ∀ K' : Act → World → Prop, Shut (∀ a w, S w → (S w → wpAnyH P md ops Q S n (listed.setIfInBounds i true) a w) → K' a w) → if Region.wanted o (yielded ops a.tmps) = true then Oper.wp P o a w K' Q else K' (a.put o.dst undef) w) :
    wpAnyH P md ops Q S (n + 1) listed a w := wpAnyH_ready hr (by simp) (AllReadyH.cons (opL_spec ho) h AllReadyH.nil)
theorem nmz : (∀ (a : Act) (d : Tmp) (v : Value), a.put (some d) v = ⟨a.tmps.setIfInBounds d v, a.defers⟩) ∧ (∀ (a : Act) (v : Value), a.put none v = a) ∧ (∀ (l : List Value) (i : Nat) (a : Value), l.toArray.setIfInBounds i a = (l.set i a).toArray) ∧ (∀ (x : Value) (l : List Value) (a : Value), (x :: l).set 0 a = a :: l) ∧ (∀ (x : Value) (l : List Value) (i : Nat) (a : Value), (x :: l).set (i + 1) a = x :: l.set i a) :=
  ⟨fun _ _ _ => rfl, fun _ _ => rfl, fun _ _ _ => List.setIfInBounds_toArray _ _ _, fun _ _ _ => rfl, fun _ _ _ _ => rfl⟩
def goB (md : Region.Mode) (ops : Array Oper) (listed : Array Bool) (i : Nat) : Bool := Region.noSelect ops && Region.free md ops listed i && (Region.ready md ops listed).contains i
theorem tkH (i : Nat) {oi : Oper} {v : Value} {n : Nat} {listed : Array Bool} {a : Act} {w : World} (hi : opL ops.toList i = some oi) (hk : (goB md ops listed i && Region.wanted oi (yielded ops a.tmps)) = true)
    (hQ : ∀ c a w, Q (.panic c) (a.put oi.dst v) w → Q (.panic c) a w) (hS : S w) (hy : ∀ w, S w → (execOp a.eval oi).run P w = .ok (.value v) w)
    (h : wpAnyH P md ops Q S n (listed.setIfInBounds i true) (a.put oi.dst v) w) : wpAnyH P md ops Q S (n + 1) listed a w := by
  simp only [goB, Bool.and_eq_true] at hk
  exact wpHeld_takeL hi hk.1.1.1 hk.1.1.2 hk.1.2 hQ (.inl ⟨hk.2, hy⟩) hS h
theorem tkN (i : Nat) {oi : Oper} {n : Nat} {listed : Array Bool} {a : Act} {w : World} (hi : opL ops.toList i = some oi) (hk : (goB md ops listed i && !Region.wanted oi (yielded ops a.tmps)) = true)
    (hQ : ∀ c a w, Q (.panic c) (a.put oi.dst undef) w → Q (.panic c) a w) (hS : S w)
    (h : wpAnyH P md ops Q S n (listed.setIfInBounds i true) (a.put oi.dst undef) w) : wpAnyH P md ops Q S (n + 1) listed a w := by
  simp only [goB, Bool.and_eq_true, Bool.not_eq_true'] at hk
  exact wpHeld_takeL hi hk.1.1.1 hk.1.1.2 hk.1.2 hQ (.inr ⟨hk.2, rfl⟩) hS h
theorem tkU (i : Nat) {oi : Oper} {v : Value} {n : Nat} {listed : Array Bool} {a : Act} {w : World} (hi : opL ops.toList i = some oi) (hk : (goB md ops listed i && waits md ops z i && Region.wanted oi (yielded ops a.tmps)) = true)
    (hQ : ∀ c a w, Q (.panic c) (a.put oi.dst v) w → Q (.panic c) a w) (hS : S w) (hy : ∀ w, S w → (execOp a.eval oi).run P w = .ok (.value v) w)
    (h : wpUpto P md ops Q S z n (listed.setIfInBounds i true) (a.put oi.dst v) w) : wpUpto P md ops Q S z (n + 1) listed a w := by
  simp only [goB, Bool.and_eq_true] at hk
  exact wpUpto_takeL hi hk.1.1.1.1 hk.1.1.1.2 hk.1.1.2 hk.1.2 hQ (.inl ⟨hk.2, hy⟩) hS h
theorem tkM (i : Nat) {oi : Oper} {n : Nat} {listed : Array Bool} {a : Act} {w : World} (hi : opL ops.toList i = some oi) (hk : (goB md ops listed i && waits md ops z i && !Region.wanted oi (yielded ops a.tmps)) = true)
    (hQ : ∀ c a w, Q (.panic c) (a.put oi.dst undef) w → Q (.panic c) a w) (hS : S w)
    (h : wpUpto P md ops Q S z n (listed.setIfInBounds i true) (a.put oi.dst undef) w) : wpUpto P md ops Q S z (n + 1) listed a w := by
  simp only [goB, Bool.and_eq_true, Bool.not_eq_true'] at hk
  exact wpUpto_takeL hi hk.1.1.1.1 hk.1.1.1.2 hk.1.1.2 hk.1.2 hQ (.inr ⟨hk.2, rfl⟩) hS h
end
end Go.Proofs.YthlhocneggcekaaGreat
