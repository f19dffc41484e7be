/-
  Laid together: HeldWalk, Open0, Open, OpenO, OpenL, OpenR, OpenB, OpenI, OpenA.
-/
import Derived.Test.YtefcdcneenjbgabT12
import Derived.ProofKit
import Derived.OpenShut
import Derived.ShutString
import Derived.ChangeOld
import Derived.Deep.Slices
/-
  The walk of DmaHeld.
-/
namespace Go.Proofs.Ytefcdcneenjbgab
open Go.RowKit

theorem Ts.at {w : World} {v : Value} {l : List Tc} (h : Ts w v l) {k : Nat} (hk : k < l.length) : ∃ b o cap, v = .slice (some ⟨b, o, none⟩) l.length cap ∧ b < w.heap.size ∧ AtT w b (o + k * 5) (tth l k) := by
  obtain ⟨a, cap, rfl, _, _, h⟩ := h
  rcases h with rfl | ⟨b, o, rfl, hb, hc⟩
  · exact absurd hk (Nat.not_lt_zero _)
  · exact ⟨b, o, cap, rfl, hb, hc k hk⟩
theorem Ts.block {w : World} {a : Option Addr} {n c : Nat} {l : List Tc} (h : Ts w (.slice a n c) l) : l = [] ∨ ∀ q, (Value.slice a n c).ownBlock = some q → q < w.heap.size := by
  obtain ⟨a', c', e, _, _, h⟩ := h
  simp only [Value.slice.injEq] at e
  obtain ⟨rfl, -, -⟩ := e
  rcases h with h | ⟨b, o, rfl, hb, _⟩
  · exact .inl h
  · exact .inr fun q hq => by simp [Value.ownBlock] at hq; omega
theorem Ts.keptO {may : Nat → Prop} {a w : World} {v : Value} {l : List Tc} (hs : Ts a v l) (h : KeptB may a w) (hm : l = [] ∨ ∀ q, v.ownBlock = some q → ¬ may q) : Ts w v l := by
  rcases hm with rfl | hm
  · obtain ⟨ad, cap, rfl, hl, hc, _⟩ := hs
    exact ⟨ad, cap, rfl, hl, hc, .inl rfl⟩
  · exact hs.kept h hm
theorem Ls.keptB {B : Nat} {a w : World} {v : Value} {l : List Ln} (hs : Ls a v l) (h : KeptB (fun q => q = B) a w) (hB : a.heap.size ≤ B) : Ls w v l := by
  obtain ⟨ad, cap, rfl, hl, hc, hs⟩ := hs
  rcases hs with hs | ⟨b, o, rfl, hlt, hc'⟩
  · exact ⟨ad, cap, rfl, hl, hc, .inl hs⟩
  · exact Ls.kept ⟨_, cap, rfl, hl, hc, .inr ⟨b, o, rfl, hlt, hc'⟩⟩ h (fun q hq => by simp [Value.ownBlock] at hq; omega)

theorem KeptB.drewN {may : Nat → Prop} {a w : World} (h : KeptB may a w) (n : Nat) : KeptB may a (w.drewN n) := ⟨h.os, h.tape, h.output, h.size, h.block⟩
theorem OwnI.drewN {w : World} {base : Nat} {v : Value} {l : List Int} (h : OwnI w base v l) (n : Nat) : OwnI (w.drewN n) base v l := h
theorem Ls.keptG {a0 a w : World} {v : Value} {l : List Ln} {g : Nat} (hs : Ls a v l) (h0 : Ls a0 v l) (h : KeptB (fun q => q = g) a w) (hg : a0.heap.size ≤ g) : Ls w v l := by
  obtain ⟨ad, cap, rfl, hl, hc, hs⟩ := hs
  rcases hs with hs | ⟨b, o, rfl, hlt, hc'⟩
  · exact ⟨ad, cap, rfl, hl, hc, .inl hs⟩
  · by_cases hn : l = []
    · exact ⟨_, cap, rfl, hl, hc, .inl hn⟩
    · refine Ls.kept ⟨_, cap, rfl, hl, hc, .inr ⟨b, o, rfl, hlt, hc'⟩⟩ h (fun q hq e => ?_)
      simp [Value.ownBlock] at hq
      obtain ⟨a', c', e', _, _, h0⟩ := h0
      simp only [Value.slice.injEq] at e'
      obtain ⟨rfl, -, -⟩ := e'
      rcases h0 with h0 | ⟨b2, o2, e2, h2, _⟩
      · exact hn h0
      · simp only [Option.some.injEq, Addr.mk.injEq] at e2
        omega
theorem rep_step {zs ds : List Int} {T : List Tc} {k : Nat} {d s p z : Int} {x : Bool} (h : tth T k = (d, s, p, x, z)) : rep zs ds T (k + 1) = if x = true then (rep zs ds T k).set p.toNat (nth ds k) else rep zs ds T k := by
  simp only [rep, h]

set_option maxRecDepth 10000 in
set_option maxHeartbeats 8000000 in
theorem dmaHeld_walk (v : Value) (zs : List Int) (mo ba op oh ot fe fp fh ft : Int) (st lo : Bool) (vc : Value) (l : List Ln) (d a n : Int) (fw : Bool) (u : Value) (ds : List Int) (w : World) (hs : Sl w v zs) (h : Ls w vc l) (hd : Sl w u ds) :
    Calls Try.prog 12 #[.agg #[v], .agg #[.int .i64 mo, .int .i64 ba, vc, .int .i64 op, .int .i64 oh, .int .i64 ot, .bool st, .int .i64 fe, .int .i64 fp, .int .i64 fh, .int .i64 ft, .bool lo], .agg #[.int .i64 d, .int .i64 a, .int .i64 n, .bool fw, u]] w fun e w' => e = .returned (.bool true) ∧ Below w.heap.size w w' := by
  have HS : Hid (Ls w vc l) := h
  obtain ⟨va, vk, rfl, -⟩ := h.shape
  have HM : Hid (Sl w v zs) := hs
  obtain ⟨ma, mc, rfl⟩ := hs.shape
  have HD : Hid (Sl w u ds) := hd
  obtain ⟨da, dc, rfl⟩ := hd.shape
  clear h hs hd
  obtain ⟨E, hE⟩ : ∃ E, doE zs ⟨mo, ba, l, op, oh, ot, st, fe, fp, fh, ft, lo⟩ d a n fw ds = E := ⟨_, rfl⟩
  obtain ⟨⟨⟨ms, ⟨mo1, ba1, l1, op1, oh1, ot1, st1, fe1, fp1, fh1, ft1, lo1⟩, dat, tch⟩, f⟩, hR⟩ : ∃ R, doR zs ⟨mo, ba, l, op, oh, ot, st, fe, fp, fh, ft, lo⟩ d a n fw ds = R := ⟨_, rfl⟩
  obtain ⟨dn, hdn⟩ : ∃ dn, (decide (E = 0) && decide (f = 0)) = dn := ⟨_, rfl⟩
  have HE : Hid (_ = E) := hE
  have HR : Hid (_ = _) := hR
  have HDN : Hid (_ = dn) := hdn
  clear hE hR hdn
  have B0 : Hid (Below w.heap.size w _) := bel_alloc (bel_alloc (bel_alloc (Below.refl w.heap.size w) (.cells #[.slice ma zs.length mc] 39)) (.cells #[.int .i64 mo, .int .i64 ba, .slice va l.length vk, .int .i64 op, .int .i64 oh, .int .i64 ot, .bool st, .int .i64 fe, .int .i64 fp, .int .i64 fh, .int .i64 ft, .bool lo] 44)) (.cells #[.int .i64 d, .int .i64 a, .int .i64 n, .bool fw, .slice da ds.length dc] 79)
  go_enter Try.func12, Try.ntmps12
  go_wp2_with fail
  refine (do_at (HM.out.keep B0.out) (HS.out.keep B0.out) (HD.out.keep B0.out) HE.out HR.out HDN.out).mono ?_
  rintro e w2 ⟨ma1, mc1, va1, vk1, da1, dc1, ta1, tc1, rfl, hS2, hL2, hD2, hT2, b2, -, -, -, -⟩
  have X0 := (((Box.newAt (n := w.heap.size) rfl 39 #[.slice ma zs.length mc]).past _).past _).keep b2
  have X1 := ((Box.newAt (n := w.heap.size + 1) (by simp) 44 #[.int .i64 mo, .int .i64 ba, .slice va l.length vk, .int .i64 op, .int .i64 oh, .int .i64 ot, .bool st, .int .i64 fe, .int .i64 fp, .int .i64 fh, .int .i64 ft, .bool lo]).past _).keep b2
  have X2 := (Box.newAt (n := w.heap.size + 1 + 1) (by simp) 79 #[.int .i64 d, .int .i64 a, .int .i64 n, .bool fw, .slice da ds.length dc]).keep b2
  have B2 : Hid (Below w.heap.size w w2) := bel_trans B0.out b2
  have BA : Hid (Below w2.heap.size w2 (((w2.alloc (.cells #[.slice ma1 ms.length mc1] 39)).alloc (.cells #[.int .i64 mo1, .int .i64 ba1, .slice va1 l1.length vk1, .int .i64 op1, .int .i64 oh1, .int .i64 ot1, .bool st1, .int .i64 fe1, .int .i64 fp1, .int .i64 fh1, .int .i64 ft1, .bool lo1] 44)).alloc (.cells #[.bool dn, .slice da1 dat.length dc1, .int .i64 f, .slice ta1 tch.length tc1] 82))) := bel_alloc (bel_alloc (bel_alloc (Below.refl _ _) _) _) _
  have P0 := ((Box.newAt (w := w2) rfl 39 #[.slice ma1 ms.length mc1]).past (.cells #[.int .i64 mo1, .int .i64 ba1, .slice va1 l1.length vk1, .int .i64 op1, .int .i64 oh1, .int .i64 ot1, .bool st1, .int .i64 fe1, .int .i64 fp1, .int .i64 fh1, .int .i64 ft1, .bool lo1] 44)).past (.cells #[.bool dn, .slice da1 dat.length dc1, .int .i64 f, .slice ta1 tch.length tc1] 82)
  have P1 := (Box.newAt (w := w2.alloc (.cells #[.slice ma1 ms.length mc1] 39)) (n := w2.heap.size + 1) (by simp) 44 #[.int .i64 mo1, .int .i64 ba1, .slice va1 l1.length vk1, .int .i64 op1, .int .i64 oh1, .int .i64 ot1, .bool st1, .int .i64 fe1, .int .i64 fp1, .int .i64 fh1, .int .i64 ft1, .bool lo1]).past (.cells #[.bool dn, .slice da1 dat.length dc1, .int .i64 f, .slice ta1 tch.length tc1] 82)
  have P2 := Box.newAt (w := (w2.alloc (.cells #[.slice ma1 ms.length mc1] 39)).alloc (.cells #[.int .i64 mo1, .int .i64 ba1, .slice va1 l1.length vk1, .int .i64 op1, .int .i64 oh1, .int .i64 ot1, .bool st1, .int .i64 fe1, .int .i64 fp1, .int .i64 fh1, .int .i64 ft1, .bool lo1] 44)) (n := w2.heap.size + 1 + 1) (by simp) 82 #[.bool dn, .slice da1 dat.length dc1, .int .i64 f, .slice ta1 tch.length tc1]
  have HSn : Hid (Sl (((w2.alloc (.cells #[.slice ma1 ms.length mc1] 39)).alloc (.cells #[.int .i64 mo1, .int .i64 ba1, .slice va1 l1.length vk1, .int .i64 op1, .int .i64 oh1, .int .i64 ot1, .bool st1, .int .i64 fe1, .int .i64 fp1, .int .i64 fh1, .int .i64 ft1, .bool lo1] 44)).alloc (.cells #[.bool dn, .slice da1 dat.length dc1, .int .i64 f, .slice ta1 tch.length tc1] 82)) _ ms) := hS2.keep BA.out
  have HLn : Hid (Ls (((w2.alloc (.cells #[.slice ma1 ms.length mc1] 39)).alloc (.cells #[.int .i64 mo1, .int .i64 ba1, .slice va1 l1.length vk1, .int .i64 op1, .int .i64 oh1, .int .i64 ot1, .bool st1, .int .i64 fe1, .int .i64 fp1, .int .i64 fh1, .int .i64 ft1, .bool lo1] 44)).alloc (.cells #[.bool dn, .slice da1 dat.length dc1, .int .i64 f, .slice ta1 tch.length tc1] 82)) _ l1) := hL2.keep BA.out
  have HDn : Hid (Sl (((w2.alloc (.cells #[.slice ma1 ms.length mc1] 39)).alloc (.cells #[.int .i64 mo1, .int .i64 ba1, .slice va1 l1.length vk1, .int .i64 op1, .int .i64 oh1, .int .i64 ot1, .bool st1, .int .i64 fe1, .int .i64 fp1, .int .i64 fh1, .int .i64 ft1, .bool lo1] 44)).alloc (.cells #[.bool dn, .slice da1 dat.length dc1, .int .i64 f, .slice ta1 tch.length tc1] 82)) _ dat) := hD2.keep BA.out
  have HTn : Hid (Ts (((w2.alloc (.cells #[.slice ma1 ms.length mc1] 39)).alloc (.cells #[.int .i64 mo1, .int .i64 ba1, .slice va1 l1.length vk1, .int .i64 op1, .int .i64 oh1, .int .i64 ot1, .bool st1, .int .i64 fe1, .int .i64 fp1, .int .i64 fh1, .int .i64 ft1, .bool lo1] 44)).alloc (.cells #[.bool dn, .slice da1 dat.length dc1, .int .i64 f, .slice ta1 tch.length tc1] 82)) _ tch) := hT2.keep BA.out
  have BB : Hid (Below w.heap.size w (((w2.alloc (.cells #[.slice ma1 ms.length mc1] 39)).alloc (.cells #[.int .i64 mo1, .int .i64 ba1, .slice va1 l1.length vk1, .int .i64 op1, .int .i64 oh1, .int .i64 ot1, .bool st1, .int .i64 fe1, .int .i64 fp1, .int .i64 fh1, .int .i64 ft1, .bool lo1] 44)).alloc (.cells #[.bool dn, .slice da1 dat.length dc1, .int .i64 f, .slice ta1 tch.length tc1] 82))) := bel_trans B2.out BA.out
  replace X0 := X0.keep BA.out
  replace X1 := X1.keep BA.out
  replace X2 := X2.keep BA.out
  have zN : w.heap.size + 1 + 1 < w2.heap.size := by have := b2.size; simp at this; omega
  clear hS2 hL2 hD2 hT2 b2 B0 B2 BA
  go_wp2_with fail
  generalize (((w2.alloc (.cells #[.slice ma1 ms.length mc1] 39)).alloc (.cells #[.int .i64 mo1, .int .i64 ba1, .slice va1 l1.length vk1, .int .i64 op1, .int .i64 oh1, .int .i64 ot1, .bool st1, .int .i64 fe1, .int .i64 fp1, .int .i64 fh1, .int .i64 ft1, .bool lo1] 44)).alloc (.cells #[.bool dn, .slice da1 dat.length dc1, .int .i64 f, .slice ta1 tch.length tc1] 82)) = W at *
  generalize w2.heap.size = P at *
  refine (carried_true _).mono ?_
  rintro e w3 ⟨rfl, b3⟩
  by_cases hE0 : E = 0
  rotate_left
  · have hq : (E != 0) = true := by simpa using hE0
    have B3 : Hid (Below w.heap.size w w3) := bel_trans BB.out b3
    clear b3 X0 X1 X2 P0 P1 P2
    go_wp2_with fail
    refine (carried_true _).mono ?_
    rintro e w4 ⟨rfl, b4⟩
    have B4 : Hid (Below w.heap.size w w4) := bel_trans B3.out b4
    clear b4
    go_wp2
    go_ret
    exact ⟨rfl, B4.out⟩
  subst hE0
  have HH := do_held HE.out HR.out
  obtain ⟨hk1, hk2, hk3, hk4, hk5, hk6, hk7, hk8, hk9, hk10, hk11⟩ := HH
  obtain ⟨hz0, hb0, hc0⟩ := doE_ok HE.out
  have HZ0 : Hid (zs.length = 512) := (chk_ok hz0).1
  have HZM : Hid (ms.length = 512) := (chk_ok hk1).1
  have HCB : Hid (chkB ⟨mo1, ba1, l1, op1, oh1, ot1, st1, fe1, fp1, fh1, ft1, lo1⟩ = 0) := hk2
  have HT20 : Hid (tch.length ≤ 20) := hk3
  have HDEC : Hid (decide (f = 0) = decide ((tch.length : Int) = n)) := hk5
  have HFP : fp1 = fp := hk6
  have HFH : fh1 = fh := hk7
  subst HFP HFH
  have HEA : Hid (∀ j, j < tch.length → ∃ p : Int, (0 ≤ p ∧ p < 512) ∧ tth tch j = (d, a + (j : Int), p, fw, nth (rep zs ds tch (j + 1)) p.toNat)) := hk8
  have HWL : Hid (fw = true → tch.length ≤ ds.length) := hk9
  have HRL : Hid (fw = false → dat.length = tch.length ∧ ∀ j, j < tch.length → nth dat j = (tth tch j).2.2.2.2) := hk10
  have HWY : Hid _ := hk11
  have HA : Hid (0 ≤ a ∧ a ≤ 512 ∧ 0 ≤ n ∧ n ≤ 20) := by
    obtain ⟨q1, _, q3, _, _⟩ := ckA_ok hc0
    show _ ∧ _ ∧ _ ∧ _
    omega
  have hdn0 : dn = decide (f = 0) := by rw [← HDN.out]; simp
  subst hdn0
  clear hk1 hk2 hk3 hk4 hk5 hk6 hk7 hk8 hk9 hk10 hk11 hz0 hb0 hc0
  replace X0 := X0.keep b3
  replace X1 := X1.keep b3
  replace X2 := X2.keep b3
  replace P0 := P0.keep b3
  rw [HZM.out] at P0
  replace P1 := P1.keep b3
  replace P2 := P2.keep b3
  have HM3 : Hid (Sl w3 _ zs) := HM.out.keep (bel_trans BB.out b3)
  have HS3 : Hid (Sl w3 (.slice ma1 512 mc1) ms) := by
    have h0 := HSn.out.keep b3
    rw [HZM.out] at h0
    exact h0
  have HL3 : Hid (Ls w3 _ l1) := HLn.out.keep b3
  have HD3 : Hid (Sl w3 _ dat) := HDn.out.keep b3
  have HT3 : Hid (Ts w3 _ tch) := HTn.out.keep b3
  have HDD : Hid (Sl w3 _ ds) := HD.out.keep (bel_trans BB.out b3)
  have B3 : Hid (Below w.heap.size w w3) := bel_trans BB.out b3
  clear b3 HSn HLn HDn HTn BB HM HS HD
  obtain ⟨m0, -, s0⟩ := X0.one
  go_wp2_with fail
  refine (clone_own _ zs _ HM3.out HZ0.out).mono ?_
  rintro e w4 ⟨g, cap, rfl, hO4, b4⟩
  have hg3 : w3.heap.size ≤ g := hO4.base g rfl
  have hg4 : g < w4.heap.size := hO4.lt g rfl
  have hPW : P + 1 + 1 < w3.heap.size := P2.lt
  have bA := bel_alloc b4 (.cells #[.slice (some ⟨g, 0, none⟩) 512 cap] 39)
  have XQ := Box.newAt (w := w4) rfl 39 #[.slice (some ⟨g, 0, none⟩) 512 cap]
  have HO5 : Hid (OwnI (w4.alloc (.cells #[.slice (some ⟨g, 0, none⟩) 512 cap] 39)) w3.heap.size (.slice (some ⟨g, 0, none⟩) 512 cap) zs) := hO4.alloc _
  replace X1 := X1.keep bA
  replace X2 := X2.keep bA
  replace P0 := P0.keep bA
  replace P1 := P1.keep bA
  replace P2 := P2.keep bA
  have HS5 : Hid (Sl (w4.alloc (.cells #[.slice (some ⟨g, 0, none⟩) 512 cap] 39)) _ ms) := HS3.out.keep bA
  have HL5 : Hid (Ls (w4.alloc (.cells #[.slice (some ⟨g, 0, none⟩) 512 cap] 39)) _ l1) := HL3.out.keep bA
  have HD5 : Hid (Sl (w4.alloc (.cells #[.slice (some ⟨g, 0, none⟩) 512 cap] 39)) _ dat) := HD3.out.keep bA
  have HT5 : Hid (Ts (w4.alloc (.cells #[.slice (some ⟨g, 0, none⟩) 512 cap] 39)) _ tch) := HT3.out.keep bA
  have HDD5 : Hid (Sl (w4.alloc (.cells #[.slice (some ⟨g, 0, none⟩) 512 cap] 39)) _ ds) := HDD.out.keep bA
  have HSB : Hid (ms = [] ∨ ∀ q, (Value.slice ma1 512 mc1).ownBlock = some q → ¬ q = g) := HS3.out.block.imp id fun h q hq e => by have := h q hq; omega
  have HDBk : Hid (dat = [] ∨ ∀ q, (Value.slice da1 dat.length dc1).ownBlock = some q → ¬ q = g) := HD3.out.block.imp id fun h q hq e => by have := h q hq; omega
  have HTBk : Hid (tch = [] ∨ ∀ q, (Value.slice ta1 tch.length tc1).ownBlock = some q → ¬ q = g) := HT3.out.block.imp id fun h q hq e => by have := h q hq; omega
  have HDDB : Hid (ds = [] ∨ ∀ q, (Value.slice da ds.length dc).ownBlock = some q → ¬ q = g) := HDD.out.block.imp id fun h q hq e => by have := h q hq; omega
  have HLBk : Hid (Ls w3 _ l1) := HL3.out
  have B5 : Hid (Below w.heap.size w (w4.alloc (.cells #[.slice (some ⟨g, 0, none⟩) 512 cap] 39))) := bel_trans B3.out bA
  have hz3 : w.heap.size ≤ w3.heap.size := B3.out.size
  obtain ⟨t0, t1, t2, t3, -, -, -, -, sT⟩ := P2.four
  have hQg : g < w4.heap.size := hg4
  have z5 : P + 1 + 1 < w4.heap.size + 1 := by have := b4.size; omega
  clear m0 s0 X0 HM3 HS3 HL3 HD3 HT3 HDD B3 hO4 b4 bA
  go_wp2
  generalize (w4.alloc (.cells #[.slice (some ⟨g, 0, none⟩) 512 cap] 39)) = V at *
  generalize w4.heap.size = Q at *
  have hQV : Q < V.heap.size := XQ.lt
  clear t0 t1 t2 t3 sT z5
  have HR0 : Hid (OwnI V w3.heap.size (.slice (some ⟨g, 0, none⟩) 512 cap) (rep zs ds tch 0) ∧ KeptB (fun q => q = g) V V) := ⟨HO5.out, KeptB.refl _ _⟩
  clear HO5
  go_loopw [12, 13, 37] (fun _ _ s37 wx => ∃ k : Nat, k ≤ tch.length ∧ s37 = .int .i64 k ∧ OwnI wx w3.heap.size (.slice (some ⟨g, 0, none⟩) 512 cap) (rep zs ds tch k) ∧ KeptB (fun q => q = g) V wx) (fun _ _ s37 _ => tch.length - (intOf s37).toNat)
  case atStart => exact ⟨0, Nat.zero_le _, rfl, HR0.out.1, HR0.out.2⟩
  case round =>
    clear HR0
    obtain ⟨k, hk, rfl, hO, hKB⟩ := hrel
    have HO : Hid (OwnI wr _ _ (rep zs ds tch k)) := hO
    have HKB : Hid (KeptB (fun q => q = g) V wr) := hKB
    have Y1 := X1.kept hKB (by omega)
    have Y2 := X2.kept hKB (by omega)
    have R0 := P0.kept hKB (by omega)
    have R1 := P1.kept hKB (by omega)
    have R2 := P2.kept hKB (by omega)
    have YQ := XQ.kept hKB (by omega)
    have hVr : V.heap.size ≤ wr.heap.size := hKB.size
    have ht20 : tch.length ≤ 20 := HT20.out
    clear hO hKB
    by_cases hlt : k < tch.length
    · obtain ⟨p, ⟨p0, p1⟩, hx⟩ := HEA.out k hlt
      obtain ⟨pn, rfl⟩ : ∃ pn : Nat, p = pn := ⟨p.toNat, by omega⟩
      obtain ⟨zk, hzk⟩ : ∃ zk, rep zs ds tch k = zk := ⟨_, rfl⟩
      obtain ⟨zk1, hzk1⟩ : ∃ zk1, rep zs ds tch (k + 1) = zk1 := ⟨_, rfl⟩
      rw [hzk1, Int.toNat_natCast] at hx
      obtain ⟨Z, hZ⟩ : ∃ Z, nth zk1 pn = Z := ⟨_, rfl⟩
      rw [hZ] at hx
      have HX : Hid (_ = _) := hx
      have HZK : Hid (rep zs ds tch k = zk) := hzk
      have HZ1 : Hid (rep zs ds tch (k + 1) = zk1) := hzk1
      have HZV : Hid (nth zk1 pn = Z) := hZ
      have HLK : Hid (zk.length = 512) := by show _ = _; rw [← hzk, rep_len]; exact HZ0.out
      obtain ⟨tb, tf, tcap, he, htb, hat⟩ := (HT5.out.keptO HKB.out HTBk.out).at hlt
      simp only [Value.slice.injEq, true_and] at he
      obtain ⟨rfl, rfl⟩ := he
      rw [hx] at hat
      obtain ⟨g0, g1, g2, g3, g4⟩ := hat
      simp only at g0 g1 g2 g3 g4
      have hlt1 : (k : Int) < (tch.length : Int) := by omega
      obtain ⟨a0, a1, n0, n1'⟩ := HA.out
      have hpp0 : ¬ (pn : Int) < 0 := by omega
      have hpp1 : (pn : Int) < 512 := by omega
      have hpp2 : (0 : Int) ≤ (pn : Int) := by omega
      have hk0 : (0 : Int) ≤ (k : Int) := by omega
      have hk20 : (k : Int) ≤ 20 := by omega
      rw [hzk] at HO
      have htb1 : tb < wr.heap.size + 1 := by omega
      clear hx hzk hzk1 hZ p0 p1
      cases fw
      · skip
        obtain ⟨hdl, hdv⟩ := HRL.out rfl
        have hdk : nth dat k = Z := by rw [hdv k hlt, HX.out]
        obtain ⟨bd, od, rfl, hbd, gd⟩ := (HD5.out.keptO HKB.out HDBk.out).open (i := k) (by omega)
        rw [hdk] at gd
        have hkd1 : (k : Int) < (dat.length : Int) := by omega
        have HZZ : Hid (zk1 = zk) := by
          show _ = _
          rw [← HZ1.out, rep_step HX.out, if_neg (by decide), HZK.out]
        have gp : wr.cell? ⟨g, pn, none⟩ = some (.int .i64 Z) := by rw [HO.out.cellAt (by have := HLK.out; omega), ← HZV.out, HZZ.out]
        clear hdl hdv hdk
        have XX := Box.newAt (w := wr) rfl 92 #[.int .i64 d, .int .i64 (a + (k : Int)), .int .i64 pn, .bool false, .int .i64 Z]
        have K11 : KeptB (fun q => q = g) V (wr.alloc (.cells #[.int .i64 d, .int .i64 (a + (k : Int)), .int .i64 pn, .bool false, .int .i64 Z] 92)) := HKB.out.alloc (.cells #[.int .i64 d, .int .i64 (a + (k : Int)), .int .i64 pn, .bool false, .int .i64 Z] 92)
        have HO11 : Hid (OwnI (wr.alloc (.cells #[.int .i64 d, .int .i64 (a + (k : Int)), .int .i64 pn, .bool false, .int .i64 Z] 92)) w3.heap.size (.slice (some ⟨g, 0, none⟩) 512 cap) zk1) := by
          show OwnI _ _ _ _
          rw [HZZ.out]
          exact HO.out.alloc (.cells #[.int .i64 d, .int .i64 (a + (k : Int)), .int .i64 pn, .bool false, .int .i64 Z] 92)
        have YQ11 := YQ.past (.cells #[.int .i64 d, .int .i64 (a + (k : Int)), .int .i64 pn, .bool false, .int .i64 Z] 92)
        have R11 := R2.past (.cells #[.int .i64 d, .int .i64 (a + (k : Int)), .int .i64 pn, .bool false, .int .i64 Z] 92)
        obtain ⟨c0, c1, c2, c3, c4⟩ := Y2.blk.five
        have sA := Y2.lt
        go_upto_region 12 with fail
        have gp' := (cell_past (o := (.cells #[.int .i64 d, .int .i64 (a + (k : Int)), .int .i64 pn, .bool false, .int .i64 Z] 92)) gp)
        have gd' := (cell_past (o := (.cells #[.int .i64 d, .int .i64 (a + (k : Int)), .int .i64 pn, .bool false, .int .i64 Z] 92)) gd)
        have hb1 : bd < (wr.alloc (.cells #[.int .i64 d, .int .i64 (a + (k : Int)), .int .i64 pn, .bool false, .int .i64 Z] 92)).heap.size := by simp; omega
        have hb2 : g < (wr.alloc (.cells #[.int .i64 d, .int .i64 (a + (k : Int)), .int .i64 pn, .bool false, .int .i64 Z] 92)).heap.size := by simp; omega
        clear c0 c1 c2 c3 c4 sA gp gd g0 g1 g2 g3 g4
        generalize (wr.alloc (.cells #[.int .i64 d, .int .i64 (a + (k : Int)), .int .i64 pn, .bool false, .int .i64 Z] 92)) = wY at *
        generalize wr.heap.size = X at *
        obtain ⟨w0, -, sW⟩ := YQ11.one
        obtain ⟨x0, x1, x2, x3, x4⟩ := XX.blk.five
        have sX := XX.lt
        obtain ⟨t0, t1, t2, t3, -, -, -, -, sT⟩ := R11.four
        go_quiet (fail)
        go_wp2
        exact ⟨⟨k + 1, by omega, by go_num, by rw [HZ1.out]; exact OwnI.drewN HO11.out _, KeptB.drewN K11 _⟩, by simp [intOf]; omega⟩
      · skip
        have hkd : k < ds.length := by have := HWL.out rfl; omega
        obtain ⟨bd, od, rfl, hbd, gd⟩ := (HDD5.out.keptO HKB.out HDDB.out).open (i := k) hkd
        have hgD : ¬ g = bd := fun e => by
          rcases HDDB.out with h0 | h0
          · rw [h0] at hkd; simp at hkd
          · exact h0 bd (by simp [Value.ownBlock]) e.symm
        have hkd1 : (k : Int) < (ds.length : Int) := by omega
        have HZZ : Hid (zk1 = zk.set pn (nth ds k)) := by
          show _ = _
          rw [← HZ1.out, rep_step HX.out, if_pos rfl, HZK.out, Int.toNat_natCast]
        have gp : wr.cell? ⟨g, pn, none⟩ = some (.int .i64 (nth zk pn)) := HO.out.cellAt (by have := HLK.out; omega)
        have gf : wr.frozen? ⟨g, pn, none⟩ = false := HO.out.frozenAt pn
        have XX := Box.newAt (w := wr) rfl 92 #[.int .i64 d, .int .i64 (a + (k : Int)), .int .i64 pn, .bool true, .int .i64 Z]
        have K11 : KeptB (fun q => q = g) V (((wr.alloc (.cells #[.int .i64 d, .int .i64 (a + (k : Int)), .int .i64 pn, .bool true, .int .i64 Z] 92)).setCell ⟨g, pn, none⟩ (.int .i64 (nth ds k))).drew) := ((HKB.out.alloc (.cells #[.int .i64 d, .int .i64 (a + (k : Int)), .int .i64 pn, .bool true, .int .i64 Z] 92)).setCell (p := ⟨g, pn, none⟩) (.inl rfl) _).drew
        have HO11 : Hid (OwnI (((wr.alloc (.cells #[.int .i64 d, .int .i64 (a + (k : Int)), .int .i64 pn, .bool true, .int .i64 Z] 92)).setCell ⟨g, pn, none⟩ (.int .i64 (nth ds k))).drew) w3.heap.size (.slice (some ⟨g, 0, none⟩) 512 cap) zk1) := by
          show OwnI _ _ _ _
          rw [HZZ.out]
          exact OwnI.drew (OwnI.setAt (HO.out.alloc (.cells #[.int .i64 d, .int .i64 (a + (k : Int)), .int .i64 pn, .bool true, .int .i64 Z] 92)) pn _)
        have YQ11 := Box.drew ((YQ.past (.cells #[.int .i64 d, .int .i64 (a + (k : Int)), .int .i64 pn, .bool true, .int .i64 Z] 92)).other (p := ⟨g, pn, none⟩) (by dsimp only; omega) (.int .i64 (nth ds k)))
        have XX11 := Box.drew (XX.other (p := ⟨g, pn, none⟩) (by dsimp only; omega) (.int .i64 (nth ds k)))
        obtain ⟨c0, c1, c2, c3, c4⟩ := Y2.blk.five
        have sA := Y2.lt
        obtain ⟨w0, -, sW⟩ := YQ.one
        have hr1 : g < wr.heap.size + 1 := by omega
        have hr2 : Q < wr.heap.size + 1 := by omega
        have hr3 : bd < wr.heap.size + 1 := by omega
        have hr4 : w.heap.size + 1 + 1 < wr.heap.size + 1 := by omega
        go_upto_region 11 with fail
        have c1' := (cell_past (o := (.cells #[.int .i64 d, .int .i64 (a + (k : Int)), .int .i64 pn, .bool true, .int .i64 Z] 92)) c4)
        have w0' := (cell_past (o := (.cells #[.int .i64 d, .int .i64 (a + (k : Int)), .int .i64 pn, .bool true, .int .i64 Z] 92)) w0)
        have gd' := (cell_past (o := (.cells #[.int .i64 d, .int .i64 (a + (k : Int)), .int .i64 pn, .bool true, .int .i64 Z] 92)) gd)
        have gp' := (cell_past (o := (.cells #[.int .i64 d, .int .i64 (a + (k : Int)), .int .i64 pn, .bool true, .int .i64 Z] 92)) gp)
        have gf' : (wr.alloc (.cells #[.int .i64 d, .int .i64 (a + (k : Int)), .int .i64 pn, .bool true, .int .i64 Z] 92)).frozen? ⟨g, pn, none⟩ = false := (HO.out.alloc (.cells #[.int .i64 d, .int .i64 (a + (k : Int)), .int .i64 pn, .bool true, .int .i64 Z] 92)).frozenAt pn
        have x2' : (wr.alloc (.cells #[.int .i64 d, .int .i64 (a + (k : Int)), .int .i64 pn, .bool true, .int .i64 Z] 92)).cell? ⟨wr.heap.size, 2, none⟩ = some (.int .i64 pn) := XX.cell 2
        have sX := XX.lt
        clear c0 c1 c2 c3 c4 sA w0 sW gd gp gf XX g0 g1 g2 g3 g4
        generalize (wr.alloc (.cells #[.int .i64 d, .int .i64 (a + (k : Int)), .int .i64 pn, .bool true, .int .i64 Z] 92)) = wX at *
        have n1 : ¬ g = Q := by omega
        have n2 : ¬ g = wr.heap.size := by omega
        have n3 : ¬ g = w.heap.size + 1 + 1 := by omega
        generalize wr.heap.size = X at *
        go_region_held3 (fun w' => w'.cell? ⟨Q, 0, none⟩ = some (.slice (some ⟨g, 0, none⟩) 512 cap) ∧ w'.cell? ⟨X, 2, none⟩ = some (.int .i64 pn) ∧ w'.cell? ⟨w.heap.size + 1 + 1, 4, none⟩ = some (.slice (some ⟨bd, od, none⟩) ds.length dc) ∧ w'.cell? ⟨bd, od + k, none⟩ = some (.int .i64 (nth ds k))) (go_keep) (fail)
        clear c1' w0' gd' gp' gf' x2' sX
        go_upto_region 12 with fail
        generalize (wX.setCell ⟨g, pn, none⟩ (.int .i64 (nth ds k))).drew = wY at *
        obtain ⟨w0, -, sW⟩ := YQ11.one
        obtain ⟨x0, x1, x2, x3, x4⟩ := XX11.blk.five
        have sX := XX11.lt
        have gz : wY.cell? ⟨g, pn, none⟩ = some (.int .i64 Z) := by rw [HO11.out.cellAt (by rw [HZZ.out, List.length_set, HLK.out]; omega), HZV.out]
        have sg : g < wY.heap.size := HO11.out.lt g rfl
        go_quiet (fail)
        go_wp2
        exact ⟨⟨k + 1, by omega, by go_num, by rw [HZ1.out]; exact OwnI.drewN HO11.out _, KeptB.drewN K11 _⟩, by simp [intOf]; omega⟩
    · obtain rfl : k = tch.length := by omega
      have nlt : ¬ (tch.length : Int) < (tch.length : Int) := by omega
      obtain ⟨zq, hzq⟩ : ∃ zq, rep zs ds tch tch.length = zq := ⟨_, rfl⟩
      rw [hzq] at HO
      have hlq : zq.length = 512 := by rw [← hzq, rep_len]; exact HZ0.out
      have hwy := HWY.out
      rw [hzq] at hwy
      have HLQ : Hid (zq.length = 512) := hlq
      clear hzq hlq HWY
      obtain ⟨⟨q0, q1, q2, q3, q4, q5, q6, q7, q8, q9, q10, q11⟩, sB⟩ := R1.twelve
      obtain ⟨⟨u0, u1, u2, u3, u4, u5, u6, u7, u8, u9, u10, u11⟩, sU⟩ := Y1.twelve
      obtain ⟨t0, t1, t2, t3, -, -, -, -, sT⟩ := R2.four
      rcases hwy with ⟨rfl, hm, hft⟩ | ⟨hf, hm, hft⟩ | ⟨hf, hft, hi, z, hm⟩
      · have hft : ft1 = ft := hft
        subst hft
        have HOF : Hid (OwnI wr w3.heap.size (.slice (some ⟨g, 0, none⟩) 512 cap) ms) := by show OwnI _ _ _ _; rw [hm]; exact HO.out
        have KF : KeptB (fun q => q = g) V wr := HKB.out
        have hnl : n = (tch.length : Int) := by have h0 := HDEC.out; rw [decide_eq_true rfl] at h0; exact (of_decide_eq_true h0.symm).symm
        subst hnl
        obtain ⟨wF, rfl⟩ : ∃ wF, wF = wr := ⟨wr, rfl⟩
        go_upto_region 17 with fail
        clear q0 q1 q2 q3 q4 q5 q6 q7 q8 q9 q10 q11 sB u0 u1 u2 u3 u4 u5 u6 u7 u8 u9 u10 u11 sU t0 t1 t2 t3 sT hm HO HKB Y1 Y2 R0 R1 R2 YQ
        have R0' := P0.kept KF (by omega)
        have R1' := P1.kept KF (by omega)
        have R2' := P2.kept KF (by omega)
        have Y1' := X1.kept KF (by omega)
        have Y2' := X2.kept KF (by omega)
        have YQ' := XQ.kept KF (by omega)
        have SF : Hid (Sl wF _ ms) := HS5.out.keptO KF HSB.out
        have LF : Hid (Ls wF _ l1) := HL5.out.keptG HLBk.out KF hg3
        have BF : Hid (Below w.heap.size w wF) := B5.out.trans (KF.low (by omega) (fun q hq e => by omega))
        clear KF
        obtain ⟨m0, -, sM⟩ := R0'.one
        obtain ⟨w0, -, sW⟩ := YQ'.one
        go_wp2_with fail
        refine (same_any _ _ ms ms _ SF.out (HOF.out.sl (by have := HZM.out; unfold maxLen; omega))).mono ?_
        rintro e w7 ⟨rfl, b7⟩
        rw [decide_eq_true (rfl : ms = ms)]
        clear m0 sM w0 sW
        replace R1' := R1'.keep b7
        replace R2' := R2'.keep b7
        replace Y1' := Y1'.keep b7
        replace Y2' := Y2'.keep b7
        have L7 : Hid (Ls w7 _ l1) := LF.out.keep b7
        have B7 : Hid (Below w.heap.size w w7) := bel_trans BF.out b7
        clear b7 R0' YQ' SF LF BF HOF
        obtain ⟨t0, t1, t2, t3, -, -, -, -, sT⟩ := R2'.four
        obtain ⟨⟨q0, q1, q2, q3, q4, q5, q6, q7, q8, q9, q10, q11⟩, sB⟩ := R1'.twelve
        obtain ⟨⟨u0, u1, u2, u3, u4, u5, u6, u7, u8, u9, u10, u11⟩, sU⟩ := Y1'.twelve
        obtain ⟨c0, c1, c2, c3, c4⟩ := Y2'.blk.five
        have sA := Y2'.lt
        go_wp2_with fail
        refine (bCheck_any _ _ _ _ _ _ _ _ _ _ _ _ l1 _ L7.out).mono ?_
        rintro e w8 ⟨rfl, b8⟩
        rw [HCB.out]
        have B8 : Hid (Below w.heap.size w w8) := bel_trans B7.out b8
        clear b8 t0 t1 t2 t3 sT q0 q1 q2 q3 q4 q5 q6 q7 q8 q9 q10 q11 sB u0 u1 u2 u3 u4 u5 u6 u7 u8 u9 u10 u11 sU c0 c1 c2 c3 c4 sA
        go_wp2
        go_ret
        exact ⟨rfl, B8.out⟩
      · have hft : ft1 = ft := hft
        subst hft
        have HOF : Hid (OwnI wr w3.heap.size (.slice (some ⟨g, 0, none⟩) 512 cap) ms) := by show OwnI _ _ _ _; rw [hm]; exact HO.out
        have KF : KeptB (fun q => q = g) V wr := HKB.out
        have hfd : decide (f = 0) = false := decide_eq_false hf
        have hnb : ((tch.length : Int) == n) = false := by have h0 := HDEC.out; rw [hfd] at h0; simpa using h0.symm
        have hfe : (f == 0) = false := by simpa using hf
        have hfn : (f != 0) = true := by simpa using hf
        rw [hfd] at P2 R2
        obtain ⟨wF, rfl⟩ : ∃ wF, wF = wr := ⟨wr, rfl⟩
        go_upto_region 17 with fail
        clear q0 q1 q2 q3 q4 q5 q6 q7 q8 q9 q10 q11 sB u0 u1 u2 u3 u4 u5 u6 u7 u8 u9 u10 u11 sU t0 t1 t2 t3 sT hm HO HKB Y1 Y2 R0 R1 R2 YQ
        have R0' := P0.kept KF (by omega)
        have R1' := P1.kept KF (by omega)
        have R2' := P2.kept KF (by omega)
        have Y1' := X1.kept KF (by omega)
        have Y2' := X2.kept KF (by omega)
        have YQ' := XQ.kept KF (by omega)
        have SF : Hid (Sl wF _ ms) := HS5.out.keptO KF HSB.out
        have LF : Hid (Ls wF _ l1) := HL5.out.keptG HLBk.out KF hg3
        have BF : Hid (Below w.heap.size w wF) := B5.out.trans (KF.low (by omega) (fun q hq e => by omega))
        clear KF
        obtain ⟨m0, -, sM⟩ := R0'.one
        obtain ⟨w0, -, sW⟩ := YQ'.one
        go_wp2_with fail
        refine (same_any _ _ ms ms _ SF.out (HOF.out.sl (by have := HZM.out; unfold maxLen; omega))).mono ?_
        rintro e w7 ⟨rfl, b7⟩
        rw [decide_eq_true (rfl : ms = ms)]
        clear m0 sM w0 sW
        replace R1' := R1'.keep b7
        replace R2' := R2'.keep b7
        replace Y1' := Y1'.keep b7
        replace Y2' := Y2'.keep b7
        have L7 : Hid (Ls w7 _ l1) := LF.out.keep b7
        have B7 : Hid (Below w.heap.size w w7) := bel_trans BF.out b7
        clear b7 R0' YQ' SF LF BF HOF
        obtain ⟨t0, t1, t2, t3, -, -, -, -, sT⟩ := R2'.four
        obtain ⟨⟨q0, q1, q2, q3, q4, q5, q6, q7, q8, q9, q10, q11⟩, sB⟩ := R1'.twelve
        obtain ⟨⟨u0, u1, u2, u3, u4, u5, u6, u7, u8, u9, u10, u11⟩, sU⟩ := Y1'.twelve
        obtain ⟨c0, c1, c2, c3, c4⟩ := Y2'.blk.five
        have sA := Y2'.lt
        go_wp2_with fail
        refine (bCheck_any _ _ _ _ _ _ _ _ _ _ _ _ l1 _ L7.out).mono ?_
        rintro e w8 ⟨rfl, b8⟩
        rw [HCB.out]
        have B8 : Hid (Below w.heap.size w w8) := bel_trans B7.out b8
        clear b8 t0 t1 t2 t3 sT q0 q1 q2 q3 q4 q5 q6 q7 q8 q9 q10 q11 sB u0 u1 u2 u3 u4 u5 u6 u7 u8 u9 u10 u11 sU c0 c1 c2 c3 c4 sA
        go_wp2
        go_ret
        exact ⟨rfl, B8.out⟩
      · have hft : ¬ ft1 = ft := hft
        obtain ⟨i, hii⟩ : ∃ i : Nat, fp1 * 8 + ft = i := ⟨(fp1 * 8 + ft).toNat, by have : 0 ≤ fp1 * 8 + ft := hi.1; omega⟩
        have hi5 : i < 512 := by have : fp1 * 8 + ft < 512 := hi.2; omega
        replace hm : ms = zq.set i z := by rw [hm]; show zq.set (fp1 * 8 + ft).toNat z = _; rw [hii, Int.toNat_natCast]
        obtain ⟨mb, mo', rfl, hmb, gm⟩ := (HS5.out.keptO HKB.out HSB.out).open (i := i) (by rw [HZM.out]; omega)
        have hgm : ¬ g = mb := fun e => by
          rcases HSB.out with h0 | h0
          · have := HZM.out; rw [h0] at this; simp at this
          · exact h0 mb (by simp [Value.ownBlock]) e.symm
        have HOF : Hid (OwnI ((wr.setCell ⟨g, i, none⟩ (.int .i64 (nth ms i))).drew) w3.heap.size (.slice (some ⟨g, 0, none⟩) 512 cap) ms) := by
          have h0 := OwnI.drew (OwnI.setAt HO.out i (nth ms i))
          rw [show zq.set i (nth ms i) = ms by rw [hm]; exact nth_set_self (by rw [HLQ.out]; omega)] at h0
          exact h0
        have KF : KeptB (fun q => q = g) V ((wr.setCell ⟨g, i, none⟩ (.int .i64 (nth ms i))).drew) := (HKB.out.setCell (p := ⟨g, i, none⟩) (.inl rfl) _).drew
        have hfd : decide (f = 0) = false := decide_eq_false hf
        have hnb : ((tch.length : Int) == n) = false := by have h0 := HDEC.out; rw [hfd] at h0; simpa using h0.symm
        have hfe : (f == 0) = false := by simpa using hf
        have hfn : (f != 0) = true := by simpa using hf
        rw [hfd] at P2 R2
        clear hm
        have gp : wr.cell? ⟨g, i, none⟩ = some (.int .i64 (nth zq i)) := HO.out.cellAt (by rw [HLQ.out]; omega)
        have gf : wr.frozen? ⟨g, i, none⟩ = false := HO.out.frozenAt i
        have sg : g < wr.heap.size := HO.out.lt g rfl
        obtain ⟨m0, -, sM⟩ := R0.one
        obtain ⟨w0, -, sW⟩ := YQ.one
        obtain ⟨hra, hrb⟩ : 0 ≤ fp1 * 8 ∧ fp1 * 8 < 1000 := by
          have r1 := pageR_in (chkR_ok (chkB_ok HCB.out).2.2.2.2.2).1
          dsimp only at r1
          omega
        have qp' : IntKind.i64.wrap (fp1 * 8) = fp1 * 8 := wrapT _ hra (by omega)
        have qw' : IntKind.i64.wrap (fp1 * 8 + ft) = (i : Int) := by rw [hii]; exact wrapT _ (by omega) (by omega)
        have hi1n : i < 512 := hi5
        have qp2 : IntKind.i64.wrap (IntKind.i64.wrap (fp1 * 8) + ft) = (i : Int) := by rw [qp']; exact qw'
        have qp : IntKind.i64.wrap (fp1 * 8) = fp1 * 8 := qp'
        have qw : IntKind.i64.wrap (fp1 * 8 + ft) = (i : Int) := qw'
        have qi : IntKind.i64.wrap (i : Int) = (i : Int) := wrapT _ (by omega) (by omega)
        have hi0 : (0 : Int) ≤ (i : Int) := by omega
        have hi1 : (i : Int) < 512 := by omega
        clear qp' qw'
        have hft2 : ¬ ft = ft1 := fun e => hft e.symm
        go_upto_region 16 with fail
        have n1 : ¬ g = Q := by omega
        have n2 : ¬ g = P := by omega
        have n3 : ¬ g = w.heap.size + 1 := by omega
        clear q0 q1 q2 q3 q4 q5 q6 q7 q8 q9 q10 q11 sB u0 u1 u2 u3 u4 u5 u6 u7 u9 u11 t0 t1 t2 t3 sT HO HKB Y1 Y2 R0 R1 R2 YQ hra hrb hi
        go_region_held3 (fun w' => w'.cell? ⟨Q, 0, none⟩ = some (.slice (some ⟨g, 0, none⟩) 512 cap) ∧ w'.cell? ⟨w.heap.size + 1, 8, none⟩ = some (.int .i64 fp1) ∧ w'.cell? ⟨w.heap.size + 1, 10, none⟩ = some (.int .i64 ft) ∧ w'.cell? ⟨P, 0, none⟩ = some (.slice (some ⟨mb, mo', none⟩) 512 mc1) ∧ w'.cell? ⟨mb, mo' + i, none⟩ = some (.int .i64 (nth ms i))) (go_keep) (fail)
        go_upto_region 17 with fail
        clear gp gf sg m0 sM w0 sW gm qp qw qp2 qi u8 u10 sU
        generalize ((wr.setCell ⟨g, i, none⟩ (.int .i64 (nth ms i))).drew) = wF at *
        have R0' := P0.kept KF (by omega)
        have R1' := P1.kept KF (by omega)
        have R2' := P2.kept KF (by omega)
        have Y1' := X1.kept KF (by omega)
        have Y2' := X2.kept KF (by omega)
        have YQ' := XQ.kept KF (by omega)
        have SF : Hid (Sl wF _ ms) := HS5.out.keptO KF HSB.out
        have LF : Hid (Ls wF _ l1) := HL5.out.keptG HLBk.out KF hg3
        have BF : Hid (Below w.heap.size w wF) := B5.out.trans (KF.low (by omega) (fun q hq e => by omega))
        clear KF
        obtain ⟨m0, -, sM⟩ := R0'.one
        obtain ⟨w0, -, sW⟩ := YQ'.one
        go_wp2_with fail
        refine (same_any _ _ ms ms _ SF.out (HOF.out.sl (by have := HZM.out; unfold maxLen; omega))).mono ?_
        rintro e w7 ⟨rfl, b7⟩
        rw [decide_eq_true (rfl : ms = ms)]
        clear m0 sM w0 sW
        replace R1' := R1'.keep b7
        replace R2' := R2'.keep b7
        replace Y1' := Y1'.keep b7
        replace Y2' := Y2'.keep b7
        have L7 : Hid (Ls w7 _ l1) := LF.out.keep b7
        have B7 : Hid (Below w.heap.size w w7) := bel_trans BF.out b7
        clear b7 R0' YQ' SF LF BF HOF
        obtain ⟨t0, t1, t2, t3, -, -, -, -, sT⟩ := R2'.four
        obtain ⟨⟨q0, q1, q2, q3, q4, q5, q6, q7, q8, q9, q10, q11⟩, sB⟩ := R1'.twelve
        obtain ⟨⟨u0, u1, u2, u3, u4, u5, u6, u7, u8, u9, u10, u11⟩, sU⟩ := Y1'.twelve
        obtain ⟨c0, c1, c2, c3, c4⟩ := Y2'.blk.five
        have sA := Y2'.lt
        go_wp2_with fail
        refine (bCheck_any _ _ _ _ _ _ _ _ _ _ _ _ l1 _ L7.out).mono ?_
        rintro e w8 ⟨rfl, b8⟩
        rw [HCB.out]
        have B8 : Hid (Below w.heap.size w w8) := bel_trans B7.out b8
        clear b8 t0 t1 t2 t3 sT q0 q1 q2 q3 q4 q5 q6 q7 q8 q9 q10 q11 sB u0 u1 u2 u3 u4 u5 u6 u7 u8 u9 u10 u11 sU c0 c1 c2 c3 c4 sA
        go_wp2
        go_ret
        exact ⟨rfl, B8.out⟩
end Go.Proofs.Ytefcdcneenjbgab
/-
  What the openers share.
-/
namespace Go.Proofs.Ytefcdcneenjbgab
open Go.ChangeShapes Go.WideShapes Go.ChangeAt Go.RowKit

theorem law_own : ownKnob Try.prog.godebug = none := by kernel_rfl
theorem law_laidOut : laidOutB Try.prog = true := by kernel_rfl
theorem int_cells : Try.prog.cellsOf 3 = 1 := by kernel_rfl
theorem bool_cells : Try.prog.cellsOf 4 = 1 := by kernel_rfl

theorem array5 {cs : List Value} (h : cs.length = 5) : ∃ c0 c1 c2 c3 c4, cs = [c0, c1, c2, c3, c4] := by
  match cs, h with
  | [c0, c1, c2, c3, c4], _ => exact ⟨c0, c1, c2, c3, c4, rfl⟩
theorem array3 {cs : List Value} (h : cs.length = 3) : ∃ c0 c1 c2, cs = [c0, c1, c2] := by
  match cs, h with
  | [c0, c1, c2], _ => exact ⟨c0, c1, c2, rfl⟩
theorem array4 {cs : List Value} (h : cs.length = 4) : ∃ c0 c1 c2 c3, cs = [c0, c1, c2, c3] := by
  match cs, h with
  | [c0, c1, c2, c3], _ => exact ⟨c0, c1, c2, c3, rfl⟩

section
variable {H : Type} {enc : TypeId × Value → H} {W : World}

theorem cell_int {n : Nat} {c : Value} {y : Option (DataW H × List MemPlace)} (h : DataW.trod enc Try.prog W 0 (fun _ => true) true n 3 [c] = y) (hy : y ≠ none) : ∃ a, c = .int .i64 a := by
  cases y with
  | none => exact absurd rfl hy
  | some y =>
    obtain ⟨a, e, _⟩ := DataW.trod_int Try.underlying3 h
    exact ⟨a, by simpa using e⟩
theorem cell_bool {n : Nat} {c : Value} {y : Option (DataW H × List MemPlace)} (h : DataW.trod enc Try.prog W 0 (fun _ => true) true n 4 [c] = y) (hy : y ≠ none) : ∃ a, c = .bool a := by
  cases y with
  | none => exact absurd rfl hy
  | some y =>
    obtain ⟨a, e, _⟩ := DataW.trod_bool Try.underlying4 h
    exact ⟨a, by simpa using e⟩

set_option maxRecDepth 100000 in
theorem cell_intw {n : Nat} {c : Value} {y : Option (DataW H × List MemPlace)} (h : DataW.trod enc Try.prog W 0 (fun _ => true) true n 3 [c] = y) (hy : y ≠ none) : ∃ a, c = .int .i64 a ∧ -9223372036854775808 ≤ a ∧ a ≤ 9223372036854775807 := by
  cases y with
  | none => exact absurd rfl hy
  | some y =>
    obtain ⟨a, e, _, hw⟩ := DataW.trod_int Try.underlying3 h
    refine ⟨a, by simpa using e, ?_⟩
    simp only [Lit.wf, Bool.and_eq_true, decide_eq_true_eq] at hw
    exact hw

end
end Go.Proofs.Ytefcdcneenjbgab
/-
  A memory that comes in as an argument reads as a list of numbers (Sl).
-/
namespace Go.Proofs.Ytefcdcneenjbgab
open Go.ChangeShapes Go.WideShapes Go.ChangeAt Go.RowKit

theorem mem_cells : Try.prog.cellsOf 39 = 1 := by kernel_rfl
theorem slice_cells : Try.prog.cellsOf 37 = 1 := by kernel_rfl

/-- A cell that reads as a slice of numbers. -/
theorem open_row {H : Type} {enc : TypeId × Value → H} {W : World} {fuel : Nat} {c0 : Value} {x : DataW H × List MemPlace}
    (h : DataW.trod enc Try.prog W 0 (fun _ => true) true fuel 37 [c0] = some x) : ∃ zs, Sl W c0 zs := by
  rcases open_ints Try.underlying37 Try.underlying3 int_cells h with ⟨hcs, _⟩ | ⟨a, len, cap, zs, hcs, _, hl, hm, hz, _, hcell, _⟩
  · simp only [List.cons.injEq, and_true] at hcs
    subst hcs
    exact ⟨[], Sl.nil _ _ _⟩
  · simp only [List.cons.injEq, and_true] at hcs
    subst hcs
    simp only [if_true] at hz
    by_cases h0 : len = 0
    · subst h0
      exact ⟨[], Sl.nil _ _ _⟩
    · obtain ⟨b, off, spot⟩ := a
      have hc := hcell 0 (by omega)
      have hspot : spot = none := by simpa [Addr.add] using World.cell?_spot hc
      subst hspot
      have hlen : (zs.take len).length = len := by simp; omega
      refine ⟨zs.take len, _, cap, by rw [hlen], by omega, .inr ⟨b, off, rfl, ?_, fun i hi => ?_⟩⟩
      · have := World.block_lt_of_cell? W _ hc
        simpa [Addr.add] using this
      · have ha : Addr.add ⟨b, off, none⟩ i = ⟨b, off + i, none⟩ := by unfold Addr.add; split <;> simp_all
        have := hcell i (by omega)
        rw [ha] at this
        rw [this]
        have hi' : i < len := by omega
        simp [nth, hi']

set_option maxRecDepth 100000 in
theorem open_mem {H : Type} {enc : TypeId × Value → H} {W : World} {b0 : Nat} {v : Value} {d : DataW H} {p : List MemPlace} (hv : Value.okWide Try.prog W .any b0 39 v)
    (h : DataW.Trod enc Try.prog W 0 (fun _ => true) true 39 v d p) : ∃ v0 zs, v = .agg #[v0] ∧ Sl W v0 zs := by
  obtain ⟨cs, rfl, hsz⟩ := okWide_struct Try.underlying39 hv
  rw [mem_cells] at hsz
  obtain ⟨l⟩ := cs
  match l, hsz with
  | [c0], _ =>
    obtain ⟨fuel, hf⟩ := h
    obtain ⟨y0, n, _, _, h0⟩ := trod_struct1 Try.underlying39 hf
    obtain ⟨zs, hs⟩ := open_row (c0 := c0) (by simpa [Value.cells, slice_cells] using h0)
    exact ⟨c0, zs, rfl, hs⟩
end Go.Proofs.Ytefcdcneenjbgab
/-
  An order that comes in as an argument is written out.
-/
namespace Go.Proofs.Ytefcdcneenjbgab
open Go.ChangeShapes Go.WideShapes Go.ChangeAt Go.RowKit

theorem ord_cells : Try.prog.cellsOf 23 = 3 := by kernel_rfl

section
variable {H : Type} {enc : TypeId × Value → H} {W : World}

set_option maxRecDepth 100000 in
theorem open_ord {b0 : Nat} {v : Value} {d : DataW H} {p : List MemPlace} (hv : Value.okWide Try.prog W .any b0 23 v) (h : DataW.Trod enc Try.prog W 0 (fun _ => true) true 23 v d p) :
    ∃ a b n, v = .agg #[.int .i64 a, .int .i64 b, .int .i64 n] ∧ (-9223372036854775808 ≤ a ∧ a ≤ 9223372036854775807) := by
  obtain ⟨cs, rfl, _⟩ := okWide_struct Try.underlying23 hv
  obtain ⟨fuel, hf⟩ := h
  obtain ⟨xs, n, _, _, hl, hlen, hf⟩ := DataW.trod_struct Try.underlying23 hf
  rw [ord_cells] at hl
  obtain ⟨l⟩ := cs
  simp only [Value.cells] at hl hf
  obtain ⟨c0, c1, c2, rfl⟩ := array3 hl
  have some_at : ∀ i, i < 3 → xs[i]? ≠ none := fun i hi => by
    rw [List.getElem?_eq_getElem (by rw [hlen]; exact hi)]; simp
  obtain ⟨a, rfl, ha⟩ := cell_intw (by simpa [int_cells] using hf 0 _ rfl) (some_at 0 (by omega))
  obtain ⟨b, rfl⟩ := cell_int (by simpa [int_cells] using hf 1 _ rfl) (some_at 1 (by omega))
  obtain ⟨q, rfl⟩ := cell_int (by simpa [int_cells] using hf 2 _ rfl) (some_at 2 (by omega))
  exact ⟨a, b, q, rfl, ha⟩

set_option maxRecDepth 100000 in
theorem open_odr {b0 : Nat} {v : Value} {d : DataW H} {p : List MemPlace} (hv : Value.okWide Try.prog W .any b0 23 v) (h : DataW.Trod enc Try.prog W 0 (fun _ => true) true 23 v d p) :
    ∃ a b n, v = .agg #[.int .i64 a, .int .i64 b, .int .i64 n] := by
  obtain ⟨a, b, n, e, _⟩ := open_ord hv h
  exact ⟨a, b, n, e⟩
end
end Go.Proofs.Ytefcdcneenjbgab
/-
  Lines, a line, an order that come in as arguments are written out.
-/
namespace Go.Proofs.Ytefcdcneenjbgab
open Go.ChangeShapes Go.WideShapes Go.ChangeAt Go.RowKit

theorem line_cells : Try.prog.cellsOf 68 = 5 := by kernel_rfl

section
variable {H : Type} {enc : TypeId × Value → H} {W : World}

set_option maxRecDepth 100000 in
/-- The cells of a line. -/
theorem line_open {fuel : Nat} {cs : List Value} {x : DataW H × List MemPlace} (h : DataW.trod enc Try.prog W 0 (fun _ => true) true fuel 68 cs = some x) :
    ∃ y : Ln, cs = [.int .i64 y.1, .int .i64 y.2.1, .int .i64 y.2.2.1, .bool y.2.2.2.1, .bool y.2.2.2.2] := by
  obtain ⟨xs, n, _, _, hl, hlen, hf⟩ := DataW.trod_struct Try.underlying68 h
  rw [line_cells] at hl
  obtain ⟨c0, c1, c2, c3, c4, rfl⟩ := array5 hl
  have some_at : ∀ i, i < 5 → xs[i]? ≠ none := fun i hi => by
    rw [List.getElem?_eq_getElem (by rw [hlen]; exact hi)]; simp
  obtain ⟨a, rfl⟩ := cell_int (by simpa [int_cells] using hf 0 _ rfl) (some_at 0 (by omega))
  obtain ⟨b, rfl⟩ := cell_int (by simpa [int_cells] using hf 1 _ rfl) (some_at 1 (by omega))
  obtain ⟨c, rfl⟩ := cell_int (by simpa [int_cells] using hf 2 _ rfl) (some_at 2 (by omega))
  obtain ⟨d, rfl⟩ := cell_bool (by simpa [bool_cells] using hf 3 _ rfl) (some_at 3 (by omega))
  obtain ⟨p, rfl⟩ := cell_bool (by simpa [bool_cells] using hf 4 _ rfl) (some_at 4 (by omega))
  exact ⟨(a, b, c, d, p), rfl⟩
set_option maxRecDepth 100000 in
theorem open_line {b0 : Nat} {v : Value} {d : DataW H} {p : List MemPlace} (hv : Value.okWide Try.prog W .any b0 68 v) (h : DataW.Trod enc Try.prog W 0 (fun _ => true) true 68 v d p) :
    ∃ a b c e n, v = .agg #[.int .i64 a, .int .i64 b, .int .i64 c, .bool e, .bool n] := by
  obtain ⟨cs, rfl, _⟩ := okWide_struct Try.underlying68 hv
  obtain ⟨fuel, hf⟩ := h
  obtain ⟨y, hc⟩ := line_open hf
  obtain ⟨l⟩ := cs
  simp only [Value.cells] at hc
  exact ⟨_, _, _, _, _, by rw [hc]⟩
theorem choose_len {P : Nat → Ln → Prop} : ∀ n, (∀ i, i < n → ∃ y, P i y) → ∃ l : List Ln, l.length = n ∧ ∀ i, i < n → P i (lth l i)
  | 0, _ => ⟨[], rfl, fun i hi => absurd hi (Nat.not_lt_zero _)⟩
  | n + 1, h => by
    obtain ⟨l, hl, hp⟩ := choose_len n fun i hi => h i (by omega)
    obtain ⟨y, hy⟩ := h n (by omega)
    refine ⟨l ++ [y], by simp [hl], fun i hi => ?_⟩
    by_cases e : i = n
    · subst e
      have : lth (l ++ [y]) i = y := by simp [lth, ← hl]
      rw [this]; exact hy
    · have : lth (l ++ [y]) i = lth l i := by
        have hi' : i < l.length := by omega
        simp [lth, List.getElem?_append_left hi']
      rw [this]; exact hp i (by omega)

set_option maxRecDepth 100000 in
/-- A cell that reads as a slice of lines. -/
theorem lines_row {fuel : Nat} {c0 : Value} {x : DataW H × List MemPlace} (h : DataW.trod enc Try.prog W 0 (fun _ => true) true fuel 40 [c0] = some x) : ∃ l, Ls W c0 l := by
  rcases Deep.open_slice Try.underlying40 h with ⟨hcs, _⟩ | ⟨a, len, cap, m, n, D, Pl, hcs, hb, hl, hm, hmm, _, hx⟩
  · simp only [List.cons.injEq, and_true] at hcs
    subst hcs
    exact ⟨[], Ls.nothing _⟩
  · simp only [List.cons.injEq, and_true] at hcs
    subst hcs
    simp only [if_true] at hmm
    rw [line_cells] at hx
    by_cases h0 : len = 0
    · subst h0
      exact ⟨[], Ls.nil _ _ _ hm⟩
    · obtain ⟨b, off, spot⟩ := a
      have each : ∀ i, i < len → ∃ y : Ln, ∀ j u, (j < 5 ∧ [Value.int .i64 y.1, .int .i64 y.2.1, .int .i64 y.2.2.1, .bool y.2.2.2.1, .bool y.2.2.2.2][j]? = some u) → W.cell? ((⟨b, off, spot⟩ : Addr).add (i * 5 + j)) = some u := by
        intro i hi
        obtain ⟨cs', h1, h2⟩ := hx i (by omega)
        obtain ⟨y, rfl⟩ := line_open h2
        obtain ⟨_, _, hcell⟩ := World.cells?_some h1
        refine ⟨y, fun j u ⟨hj, hu⟩ => ?_⟩
        have := hcell j (by omega)
        rw [Deep.add_add, hu] at this
        exact this
      obtain ⟨l, hlen, hp⟩ := choose_len (P := fun i y => ∀ j u, (j < 5 ∧ [Value.int .i64 y.1, .int .i64 y.2.1, .int .i64 y.2.2.1, .bool y.2.2.2.1, .bool y.2.2.2.2][j]? = some u) → W.cell? ((⟨b, off, spot⟩ : Addr).add (i * 5 + j)) = some u) len each
      have hc := hp 0 (by omega) 0 _ ⟨by omega, rfl⟩
      have hspot : spot = none := by simpa [Addr.add] using World.cell?_spot hc
      subst hspot
      have ha : ∀ i, Addr.add ⟨b, off, none⟩ i = ⟨b, off + i, none⟩ := fun i => by unfold Addr.add; split <;> simp_all
      refine ⟨l, _, cap, by rw [hlen], by omega, hm, .inr ⟨b, off, rfl, ?_, fun i hi => ?_⟩⟩
      · have := World.block_lt_of_cell? W _ hc
        simpa [Addr.add] using this
      · rw [hlen] at hi
        have hq := hp i hi
        refine ⟨?_, ?_, ?_, ?_, ?_⟩
        · have := hq 0 _ ⟨by omega, rfl⟩; rw [ha] at this; exact this
        · have := hq 1 _ ⟨by omega, rfl⟩; rw [ha, ← Nat.add_assoc] at this; exact this
        · have := hq 2 _ ⟨by omega, rfl⟩; rw [ha, ← Nat.add_assoc] at this; exact this
        · have := hq 3 _ ⟨by omega, rfl⟩; rw [ha, ← Nat.add_assoc] at this; exact this
        · have := hq 4 _ ⟨by omega, rfl⟩; rw [ha, ← Nat.add_assoc] at this; exact this
set_option maxRecDepth 100000 in
theorem open_lines {b0 : Nat} {v : Value} {d : DataW H} {p : List MemPlace} (hv : Value.okWide Try.prog W .any b0 40 v) (h : DataW.Trod enc Try.prog W 0 (fun _ => true) true 40 v d p) :
    ∃ l, Ls W v l := by
  obtain ⟨fuel, hf⟩ := h
  have hone : v.cells.toList = [v] := by
    simp only [Value.okWide, Try.underlying40, Cell.okWide] at hv
    cases v <;> simp_all [Value.cells, Cell.ok]
  rw [hone] at hf
  exact lines_row hf
end
end Go.Proofs.Ytefcdcneenjbgab
/-
  A ring that comes in as an argument is written out.
-/
namespace Go.Proofs.Ytefcdcneenjbgab
open Go.ChangeShapes Go.WideShapes Go.ChangeAt Go.RowKit

theorem ring_cells : Try.prog.cellsOf 42 = 3 := by kernel_rfl
section
variable {H : Type} {enc : TypeId × Value → H} {W : World}
set_option maxRecDepth 100000 in
/-- The cells of a ring. -/
theorem ring_open {fuel : Nat} {cs : List Value} {x : DataW H × List MemPlace} (h : DataW.trod enc Try.prog W 0 (fun _ => true) true fuel 42 cs = some x) :
    ∃ a b p, cs = [.int .i64 a, .int .i64 b, .int .i64 p] := by
  obtain ⟨xs, n, _, _, hl, hlen, hf⟩ := DataW.trod_struct Try.underlying42 h
  rw [ring_cells] at hl
  obtain ⟨c0, c1, c2, rfl⟩ := array3 hl
  have some_at : ∀ i, i < 3 → xs[i]? ≠ none := fun i hi => by
    rw [List.getElem?_eq_getElem (by rw [hlen]; exact hi)]; simp
  obtain ⟨a, rfl⟩ := cell_int (by simpa [int_cells] using hf 0 _ rfl) (some_at 0 (by omega))
  obtain ⟨b, rfl⟩ := cell_int (by simpa [int_cells] using hf 1 _ rfl) (some_at 1 (by omega))
  obtain ⟨p, rfl⟩ := cell_int (by simpa [int_cells] using hf 2 _ rfl) (some_at 2 (by omega))
  exact ⟨a, b, p, rfl⟩
set_option maxRecDepth 100000 in
theorem open_ring {b0 : Nat} {v : Value} {d : DataW H} {p : List MemPlace} (hv : Value.okWide Try.prog W .any b0 42 v) (h : DataW.Trod enc Try.prog W 0 (fun _ => true) true 42 v d p) :
    ∃ a b n, v = .agg #[.int .i64 a, .int .i64 b, .int .i64 n] := by
  obtain ⟨cs, rfl, _⟩ := okWide_struct Try.underlying42 hv
  obtain ⟨fuel, hf⟩ := h
  obtain ⟨a, b, n, hc⟩ := ring_open hf
  obtain ⟨l⟩ := cs
  simp only [Value.cells] at hc
  exact ⟨a, b, n, by rw [hc]⟩
end
end Go.Proofs.Ytefcdcneenjbgab
/-
  A bridge that comes in as an argument is written out.
-/
namespace Go.Proofs.Ytefcdcneenjbgab
open Go.ChangeShapes Go.WideShapes Go.ChangeAt Go.RowKit

theorem bri_cells : Try.prog.cellsOf 44 = 12 := by kernel_rfl
theorem lines_cells : Try.prog.cellsOf 40 = 1 := by kernel_rfl
theorem array12 {cs : List Value} (h : cs.length = 12) : ∃ c0 c1 c2 c3 c4 c5 c6 c7 c8 c9 c10 c11, cs = [c0, c1, c2, c3, c4, c5, c6, c7, c8, c9, c10, c11] := by
  match cs, h with
  | [c0, c1, c2, c3, c4, c5, c6, c7, c8, c9, c10, c11], _ => exact ⟨c0, c1, c2, c3, c4, c5, c6, c7, c8, c9, c10, c11, rfl⟩
section
variable {H : Type} {enc : TypeId × Value → H} {W : World}
set_option maxRecDepth 100000 in
theorem open_bri {b0 : Nat} {v : Value} {d : DataW H} {p : List MemPlace} (hv : Value.okWide Try.prog W .any b0 44 v) (h : DataW.Trod enc Try.prog W 0 (fun _ => true) true 44 v d p) :
    ∃ mo ba op oh ot fe fp fh ft st lo vc l, v = .agg #[.int .i64 mo, .int .i64 ba, vc, .int .i64 op, .int .i64 oh, .int .i64 ot, .bool st, .int .i64 fe, .int .i64 fp, .int .i64 fh, .int .i64 ft, .bool lo] ∧ Ls W vc l := by
  obtain ⟨cs, rfl, _⟩ := okWide_struct Try.underlying44 hv
  obtain ⟨fuel, hf⟩ := h
  obtain ⟨xs, n, _, _, hl, hlen, hf⟩ := DataW.trod_struct Try.underlying44 hf
  rw [bri_cells] at hl
  obtain ⟨l⟩ := cs
  simp only [Value.cells] at hl hf
  obtain ⟨c0, c1, c2, c3, c4, c5, c6, c7, c8, c9, c10, c11, rfl⟩ := array12 hl
  have some_at : ∀ i, i < 8 → ∃ y, xs[i]? = some y := fun i hi => by
    rw [List.getElem?_eq_getElem (by rw [hlen]; exact hi)]; simp
  have ne_at : ∀ i, i < 8 → xs[i]? ≠ none := fun i hi => by
    obtain ⟨y, hy⟩ := some_at i hi; rw [hy]; simp
  obtain ⟨mo, rfl⟩ := cell_int (by simpa [int_cells, bool_cells, lines_cells, ring_cells] using hf 0 _ rfl) (ne_at 0 (by omega))
  obtain ⟨ba, rfl⟩ := cell_int (by simpa [int_cells, bool_cells, lines_cells, ring_cells] using hf 1 _ rfl) (ne_at 1 (by omega))
  obtain ⟨y2, hy2⟩ := some_at 2 (by omega)
  obtain ⟨l, hL⟩ := lines_row (c0 := c2) (x := y2) (by rw [← hy2]; simpa [int_cells, bool_cells, lines_cells, ring_cells] using hf 2 _ rfl)
  obtain ⟨y3, hy3⟩ := some_at 3 (by omega)
  obtain ⟨op, oh, ot, e3⟩ := ring_open (cs := [c3, c4, c5]) (x := y3) (by rw [← hy3]; simpa [int_cells, bool_cells, lines_cells, ring_cells] using hf 3 _ rfl)
  obtain ⟨st, rfl⟩ := cell_bool (by simpa [int_cells, bool_cells, lines_cells, ring_cells] using hf 4 _ rfl) (ne_at 4 (by omega))
  obtain ⟨fe, rfl⟩ := cell_int (by simpa [int_cells, bool_cells, lines_cells, ring_cells] using hf 5 _ rfl) (ne_at 5 (by omega))
  obtain ⟨y6, hy6⟩ := some_at 6 (by omega)
  obtain ⟨fp, fh, ft, e6⟩ := ring_open (cs := [c8, c9, c10]) (x := y6) (by rw [← hy6]; simpa [int_cells, bool_cells, lines_cells, ring_cells] using hf 6 _ rfl)
  obtain ⟨lo, rfl⟩ := cell_bool (by simpa [int_cells, bool_cells, lines_cells, ring_cells] using hf 7 _ rfl) (ne_at 7 (by omega))
  simp only [List.cons.injEq, and_true] at e3 e6
  obtain ⟨rfl, rfl, rfl⟩ := e3
  obtain ⟨rfl, rfl, rfl⟩ := e6
  exact ⟨mo, ba, op, oh, ot, fe, fp, fh, ft, st, lo, c2, l, rfl, hL⟩
end
end Go.Proofs.Ytefcdcneenjbgab
/-
  A slice of numbers that comes in as an argument reads as a list, with its room (Slc).
-/
namespace Go.Proofs.Ytefcdcneenjbgab
open Go.ChangeShapes Go.WideShapes Go.ChangeAt Go.RowKit

section
variable {H : Type} {enc : TypeId × Value → H} {W : World}
set_option maxRecDepth 100000 in
theorem lst_row {fuel : Nat} {c0 : Value} {x : DataW H × List MemPlace} (h : DataW.trod enc Try.prog W 0 (fun _ => true) true fuel 37 [c0] = some x) : ∃ zs, Slc W c0 zs := by
  rcases open_ints Try.underlying37 Try.underlying3 int_cells h with ⟨hcs, _⟩ | ⟨a, len, cap, zs, hcs, _, hl, hm, hz, _, hcell, _⟩
  · simp only [List.cons.injEq, and_true] at hcs
    subst hcs
    exact ⟨[], Sl.nil _ _ _, _, _, rfl, by simp, by simp [maxLen]⟩
  · simp only [List.cons.injEq, and_true] at hcs
    subst hcs
    simp only [if_true] at hz
    by_cases h0 : len = 0
    · subst h0
      exact ⟨[], Sl.nil _ _ _, _, _, rfl, by simp, by omega⟩
    · obtain ⟨b, off, spot⟩ := a
      have hc := hcell 0 (by omega)
      have hspot : spot = none := by simpa [Addr.add] using World.cell?_spot hc
      subst hspot
      have hlen : (zs.take len).length = len := by simp; omega
      refine ⟨zs.take len, ⟨_, cap, by rw [hlen], by omega, .inr ⟨b, off, rfl, ?_, fun i hi => ?_⟩⟩, _, cap, by rw [hlen], by omega, by omega⟩
      · have := World.block_lt_of_cell? W _ hc
        simpa [Addr.add] using this
      · have ha : Addr.add ⟨b, off, none⟩ i = ⟨b, off + i, none⟩ := by unfold Addr.add; split <;> simp_all
        have := hcell i (by omega)
        rw [ha] at this
        rw [this]
        have hi' : i < len := by omega
        simp [nth, hi']
set_option maxRecDepth 100000 in
theorem open_lst {b0 : Nat} {v : Value} {d : DataW H} {p : List MemPlace} (hv : Value.okWide Try.prog W .any b0 37 v) (h : DataW.Trod enc Try.prog W 0 (fun _ => true) true 37 v d p) :
    ∃ l, Slc W v l := by
  obtain ⟨fuel, hf⟩ := h
  have hone : v.cells.toList = [v] := by
    simp only [Value.okWide, Try.underlying37, Cell.okWide] at hv
    cases v <;> simp_all [Value.cells, Cell.ok]
  rw [hone] at hf
  exact lst_row hf
end
end Go.Proofs.Ytefcdcneenjbgab
/-
  An ask that comes in as an argument is written out.
-/
namespace Go.Proofs.Ytefcdcneenjbgab
open Go.ChangeShapes Go.WideShapes Go.ChangeAt Go.RowKit

theorem ask_cells : Try.prog.cellsOf 79 = 5 := by kernel_rfl
theorem ints_cells : Try.prog.cellsOf 37 = 1 := by kernel_rfl
section
variable {H : Type} {enc : TypeId × Value → H} {W : World}
set_option maxRecDepth 100000 in
theorem open_asc {b0 : Nat} {v : Value} {d : DataW H} {p : List MemPlace} (hv : Value.okWide Try.prog W .any b0 79 v) (h : DataW.Trod enc Try.prog W 0 (fun _ => true) true 79 v d p) :
    ∃ a b c d u l, v = .agg #[.int .i64 a, .int .i64 b, .int .i64 c, .bool d, u] ∧ Slc W u l := by
  obtain ⟨cs, rfl, _⟩ := okWide_struct Try.underlying79 hv
  obtain ⟨fuel, hf⟩ := h
  obtain ⟨xs, n, _, _, hl, hlen, hf⟩ := DataW.trod_struct Try.underlying79 hf
  rw [ask_cells] at hl
  obtain ⟨l⟩ := cs
  simp only [Value.cells] at hl hf
  obtain ⟨c0, c1, c2, c3, c4, rfl⟩ := array5 hl
  have some_at : ∀ i, i < 5 → ∃ y, xs[i]? = some y := fun i hi => by
    rw [List.getElem?_eq_getElem (by rw [hlen]; exact hi)]; simp
  have ne_at : ∀ i, i < 5 → xs[i]? ≠ none := fun i hi => by
    obtain ⟨y, hy⟩ := some_at i hi; rw [hy]; simp
  obtain ⟨a, rfl⟩ := cell_int (by simpa [int_cells, bool_cells, ints_cells] using hf 0 _ rfl) (ne_at 0 (by omega))
  obtain ⟨b, rfl⟩ := cell_int (by simpa [int_cells, bool_cells, ints_cells] using hf 1 _ rfl) (ne_at 1 (by omega))
  obtain ⟨c, rfl⟩ := cell_int (by simpa [int_cells, bool_cells, ints_cells] using hf 2 _ rfl) (ne_at 2 (by omega))
  obtain ⟨e, rfl⟩ := cell_bool (by simpa [int_cells, bool_cells, ints_cells] using hf 3 _ rfl) (ne_at 3 (by omega))
  obtain ⟨y4, hy4⟩ := some_at 4 (by omega)
  obtain ⟨l, hL⟩ := lst_row (c0 := c4) (x := y4) (by rw [← hy4]; simpa [int_cells, bool_cells, ints_cells] using hf 4 _ rfl)
  exact ⟨a, b, c, e, c4, l, rfl, hL⟩
set_option maxRecDepth 100000 in
theorem open_ask {b0 : Nat} {v : Value} {d : DataW H} {p : List MemPlace} (hv : Value.okWide Try.prog W .any b0 79 v) (h : DataW.Trod enc Try.prog W 0 (fun _ => true) true 79 v d p) :
    ∃ a b c d u l, v = .agg #[.int .i64 a, .int .i64 b, .int .i64 c, .bool d, u] ∧ Sl W u l := by
  obtain ⟨a, b, c, e, u, l, h1, h2⟩ := open_asc hv h
  exact ⟨a, b, c, e, u, l, h1, h2.1⟩
end
end Go.Proofs.Ytefcdcneenjbgab
