/-
  Laid together: HeldWalk, BackMath, BackRead.
-/
import Derived.Test.YtefcdcneenjbgabT12
/-
  The walk of DmaHeld.
-/
namespace Go.Proofs.Ytefcdcneenjbgab
open Go.RowKit

theorem Ts.at {w : World} {v : Value} {l : List Tc} (h : Ts w v l) {k : Nat} (hk : k < l.length) : ∃ b o cap, v = .slice (some ⟨b, o, none⟩) l.length cap ∧ b < w.heap.size ∧ AtT w b (o + k * 5) (tth l k) := by
  obtain ⟨a, cap, rfl, _, _, h⟩ := h
  rcases h with rfl | ⟨b, o, rfl, hb, hc⟩
  · exact absurd hk (Nat.not_lt_zero _)
  · exact ⟨b, o, cap, rfl, hb, hc k hk⟩
theorem Ts.block {w : World} {a : Option Addr} {n c : Nat} {l : List Tc} (h : Ts w (.slice a n c) l) : l = [] ∨ ∀ q, (Value.slice a n c).ownBlock = some q → q < w.heap.size := by
  obtain ⟨a', c', e, _, _, h⟩ := h
  simp only [Value.slice.injEq] at e
  obtain ⟨rfl, -, -⟩ := e
  rcases h with h | ⟨b, o, rfl, hb, _⟩
  · exact .inl h
  · exact .inr fun q hq => by simp [Value.ownBlock] at hq; omega
theorem Ts.keptO {may : Nat → Prop} {a w : World} {v : Value} {l : List Tc} (hs : Ts a v l) (h : KeptB may a w) (hm : l = [] ∨ ∀ q, v.ownBlock = some q → ¬ may q) : Ts w v l := by
  rcases hm with rfl | hm
  · obtain ⟨ad, cap, rfl, hl, hc, _⟩ := hs
    exact ⟨ad, cap, rfl, hl, hc, .inl rfl⟩
  · exact hs.kept h hm
theorem Ls.keptB {B : Nat} {a w : World} {v : Value} {l : List Ln} (hs : Ls a v l) (h : KeptB (fun q => q = B) a w) (hB : a.heap.size ≤ B) : Ls w v l := by
  obtain ⟨ad, cap, rfl, hl, hc, hs⟩ := hs
  rcases hs with hs | ⟨b, o, rfl, hlt, hc'⟩
  · exact ⟨ad, cap, rfl, hl, hc, .inl hs⟩
  · exact Ls.kept ⟨_, cap, rfl, hl, hc, .inr ⟨b, o, rfl, hlt, hc'⟩⟩ h (fun q hq => by simp [Value.ownBlock] at hq; omega)

theorem KeptB.drewN {may : Nat → Prop} {a w : World} (h : KeptB may a w) (n : Nat) : KeptB may a (w.drewN n) := ⟨h.os, h.tape, h.output, h.size, h.block⟩
theorem OwnI.drewN {w : World} {base : Nat} {v : Value} {l : List Int} (h : OwnI w base v l) (n : Nat) : OwnI (w.drewN n) base v l := h
theorem Ls.keptG {a0 a w : World} {v : Value} {l : List Ln} {g : Nat} (hs : Ls a v l) (h0 : Ls a0 v l) (h : KeptB (fun q => q = g) a w) (hg : a0.heap.size ≤ g) : Ls w v l := by
  obtain ⟨ad, cap, rfl, hl, hc, hs⟩ := hs
  rcases hs with hs | ⟨b, o, rfl, hlt, hc'⟩
  · exact ⟨ad, cap, rfl, hl, hc, .inl hs⟩
  · by_cases hn : l = []
    · exact ⟨_, cap, rfl, hl, hc, .inl hn⟩
    · refine Ls.kept ⟨_, cap, rfl, hl, hc, .inr ⟨b, o, rfl, hlt, hc'⟩⟩ h (fun q hq e => ?_)
      simp [Value.ownBlock] at hq
      obtain ⟨a', c', e', _, _, h0⟩ := h0
      simp only [Value.slice.injEq] at e'
      obtain ⟨rfl, -, -⟩ := e'
      rcases h0 with h0 | ⟨b2, o2, e2, h2, _⟩
      · exact hn h0
      · simp only [Option.some.injEq, Addr.mk.injEq] at e2
        omega
theorem rep_step {zs ds : List Int} {T : List Tc} {k : Nat} {d s p z : Int} {x : Bool} (h : tth T k = (d, s, p, x, z)) : rep zs ds T (k + 1) = if x = true then (rep zs ds T k).set p.toNat (nth ds k) else rep zs ds T k := by
  simp only [rep, h]

set_option maxRecDepth 10000 in
set_option maxHeartbeats 8000000 in
theorem dmaHeld_walk (v : Value) (zs : List Int) (mo ba op oh ot fe fp fh ft : Int) (st lo : Bool) (vc : Value) (l : List Ln) (d a n : Int) (fw : Bool) (u : Value) (ds : List Int) (w : World) (hs : Sl w v zs) (h : Ls w vc l) (hd : Sl w u ds) :
    Calls Try.prog 12 #[.agg #[v], .agg #[.int .i64 mo, .int .i64 ba, vc, .int .i64 op, .int .i64 oh, .int .i64 ot, .bool st, .int .i64 fe, .int .i64 fp, .int .i64 fh, .int .i64 ft, .bool lo], .agg #[.int .i64 d, .int .i64 a, .int .i64 n, .bool fw, u]] w fun e w' => e = .returned (.bool true) ∧ Below w.heap.size w w' := by
  have HS : Hid (Ls w vc l) := h
  obtain ⟨va, vk, rfl, -⟩ := h.shape
  have HM : Hid (Sl w v zs) := hs
  obtain ⟨ma, mc, rfl⟩ := hs.shape
  have HD : Hid (Sl w u ds) := hd
  obtain ⟨da, dc, rfl⟩ := hd.shape
  clear h hs hd
  obtain ⟨E, hE⟩ : ∃ E, doE zs ⟨mo, ba, l, op, oh, ot, st, fe, fp, fh, ft, lo⟩ d a n fw ds = E := ⟨_, rfl⟩
  obtain ⟨⟨⟨ms, ⟨mo1, ba1, l1, op1, oh1, ot1, st1, fe1, fp1, fh1, ft1, lo1⟩, dat, tch⟩, f⟩, hR⟩ : ∃ R, doR zs ⟨mo, ba, l, op, oh, ot, st, fe, fp, fh, ft, lo⟩ d a n fw ds = R := ⟨_, rfl⟩
  obtain ⟨dn, hdn⟩ : ∃ dn, (decide (E = 0) && decide (f = 0)) = dn := ⟨_, rfl⟩
  have HE : Hid (_ = E) := hE
  have HR : Hid (_ = _) := hR
  have HDN : Hid (_ = dn) := hdn
  clear hE hR hdn
  have B0 : Hid (Below w.heap.size w _) := bel_alloc (bel_alloc (bel_alloc (Below.refl w.heap.size w) (.cells #[.slice ma zs.length mc] 39)) (.cells #[.int .i64 mo, .int .i64 ba, .slice va l.length vk, .int .i64 op, .int .i64 oh, .int .i64 ot, .bool st, .int .i64 fe, .int .i64 fp, .int .i64 fh, .int .i64 ft, .bool lo] 44)) (.cells #[.int .i64 d, .int .i64 a, .int .i64 n, .bool fw, .slice da ds.length dc] 79)
  go_enter Try.func12, Try.ntmps12
  go_wp2_with fail
  refine (do_at (HM.out.keep B0.out) (HS.out.keep B0.out) (HD.out.keep B0.out) HE.out HR.out HDN.out).mono ?_
  rintro e w2 ⟨ma1, mc1, va1, vk1, da1, dc1, ta1, tc1, rfl, hS2, hL2, hD2, hT2, b2, -, -, -, -⟩
  have X0 := (((Box.newAt (n := w.heap.size) rfl 39 #[.slice ma zs.length mc]).past _).past _).keep b2
  have X1 := ((Box.newAt (n := w.heap.size + 1) (by simp) 44 #[.int .i64 mo, .int .i64 ba, .slice va l.length vk, .int .i64 op, .int .i64 oh, .int .i64 ot, .bool st, .int .i64 fe, .int .i64 fp, .int .i64 fh, .int .i64 ft, .bool lo]).past _).keep b2
  have X2 := (Box.newAt (n := w.heap.size + 1 + 1) (by simp) 79 #[.int .i64 d, .int .i64 a, .int .i64 n, .bool fw, .slice da ds.length dc]).keep b2
  have B2 : Hid (Below w.heap.size w w2) := bel_trans B0.out b2
  have BA : Hid (Below w2.heap.size w2 (((w2.alloc (.cells #[.slice ma1 ms.length mc1] 39)).alloc (.cells #[.int .i64 mo1, .int .i64 ba1, .slice va1 l1.length vk1, .int .i64 op1, .int .i64 oh1, .int .i64 ot1, .bool st1, .int .i64 fe1, .int .i64 fp1, .int .i64 fh1, .int .i64 ft1, .bool lo1] 44)).alloc (.cells #[.bool dn, .slice da1 dat.length dc1, .int .i64 f, .slice ta1 tch.length tc1] 82))) := bel_alloc (bel_alloc (bel_alloc (Below.refl _ _) _) _) _
  have P0 := ((Box.newAt (w := w2) rfl 39 #[.slice ma1 ms.length mc1]).past (.cells #[.int .i64 mo1, .int .i64 ba1, .slice va1 l1.length vk1, .int .i64 op1, .int .i64 oh1, .int .i64 ot1, .bool st1, .int .i64 fe1, .int .i64 fp1, .int .i64 fh1, .int .i64 ft1, .bool lo1] 44)).past (.cells #[.bool dn, .slice da1 dat.length dc1, .int .i64 f, .slice ta1 tch.length tc1] 82)
  have P1 := (Box.newAt (w := w2.alloc (.cells #[.slice ma1 ms.length mc1] 39)) (n := w2.heap.size + 1) (by simp) 44 #[.int .i64 mo1, .int .i64 ba1, .slice va1 l1.length vk1, .int .i64 op1, .int .i64 oh1, .int .i64 ot1, .bool st1, .int .i64 fe1, .int .i64 fp1, .int .i64 fh1, .int .i64 ft1, .bool lo1]).past (.cells #[.bool dn, .slice da1 dat.length dc1, .int .i64 f, .slice ta1 tch.length tc1] 82)
  have P2 := Box.newAt (w := (w2.alloc (.cells #[.slice ma1 ms.length mc1] 39)).alloc (.cells #[.int .i64 mo1, .int .i64 ba1, .slice va1 l1.length vk1, .int .i64 op1, .int .i64 oh1, .int .i64 ot1, .bool st1, .int .i64 fe1, .int .i64 fp1, .int .i64 fh1, .int .i64 ft1, .bool lo1] 44)) (n := w2.heap.size + 1 + 1) (by simp) 82 #[.bool dn, .slice da1 dat.length dc1, .int .i64 f, .slice ta1 tch.length tc1]
  have HSn : Hid (Sl (((w2.alloc (.cells #[.slice ma1 ms.length mc1] 39)).alloc (.cells #[.int .i64 mo1, .int .i64 ba1, .slice va1 l1.length vk1, .int .i64 op1, .int .i64 oh1, .int .i64 ot1, .bool st1, .int .i64 fe1, .int .i64 fp1, .int .i64 fh1, .int .i64 ft1, .bool lo1] 44)).alloc (.cells #[.bool dn, .slice da1 dat.length dc1, .int .i64 f, .slice ta1 tch.length tc1] 82)) _ ms) := hS2.keep BA.out
  have HLn : Hid (Ls (((w2.alloc (.cells #[.slice ma1 ms.length mc1] 39)).alloc (.cells #[.int .i64 mo1, .int .i64 ba1, .slice va1 l1.length vk1, .int .i64 op1, .int .i64 oh1, .int .i64 ot1, .bool st1, .int .i64 fe1, .int .i64 fp1, .int .i64 fh1, .int .i64 ft1, .bool lo1] 44)).alloc (.cells #[.bool dn, .slice da1 dat.length dc1, .int .i64 f, .slice ta1 tch.length tc1] 82)) _ l1) := hL2.keep BA.out
  have HDn : Hid (Sl (((w2.alloc (.cells #[.slice ma1 ms.length mc1] 39)).alloc (.cells #[.int .i64 mo1, .int .i64 ba1, .slice va1 l1.length vk1, .int .i64 op1, .int .i64 oh1, .int .i64 ot1, .bool st1, .int .i64 fe1, .int .i64 fp1, .int .i64 fh1, .int .i64 ft1, .bool lo1] 44)).alloc (.cells #[.bool dn, .slice da1 dat.length dc1, .int .i64 f, .slice ta1 tch.length tc1] 82)) _ dat) := hD2.keep BA.out
  have HTn : Hid (Ts (((w2.alloc (.cells #[.slice ma1 ms.length mc1] 39)).alloc (.cells #[.int .i64 mo1, .int .i64 ba1, .slice va1 l1.length vk1, .int .i64 op1, .int .i64 oh1, .int .i64 ot1, .bool st1, .int .i64 fe1, .int .i64 fp1, .int .i64 fh1, .int .i64 ft1, .bool lo1] 44)).alloc (.cells #[.bool dn, .slice da1 dat.length dc1, .int .i64 f, .slice ta1 tch.length tc1] 82)) _ tch) := hT2.keep BA.out
  have BB : Hid (Below w.heap.size w (((w2.alloc (.cells #[.slice ma1 ms.length mc1] 39)).alloc (.cells #[.int .i64 mo1, .int .i64 ba1, .slice va1 l1.length vk1, .int .i64 op1, .int .i64 oh1, .int .i64 ot1, .bool st1, .int .i64 fe1, .int .i64 fp1, .int .i64 fh1, .int .i64 ft1, .bool lo1] 44)).alloc (.cells #[.bool dn, .slice da1 dat.length dc1, .int .i64 f, .slice ta1 tch.length tc1] 82))) := bel_trans B2.out BA.out
  replace X0 := X0.keep BA.out
  replace X1 := X1.keep BA.out
  replace X2 := X2.keep BA.out
  have zN : w.heap.size + 1 + 1 < w2.heap.size := by have := b2.size; simp at this; omega
  clear hS2 hL2 hD2 hT2 b2 B0 B2 BA
  go_wp2_with fail
  generalize (((w2.alloc (.cells #[.slice ma1 ms.length mc1] 39)).alloc (.cells #[.int .i64 mo1, .int .i64 ba1, .slice va1 l1.length vk1, .int .i64 op1, .int .i64 oh1, .int .i64 ot1, .bool st1, .int .i64 fe1, .int .i64 fp1, .int .i64 fh1, .int .i64 ft1, .bool lo1] 44)).alloc (.cells #[.bool dn, .slice da1 dat.length dc1, .int .i64 f, .slice ta1 tch.length tc1] 82)) = W at *
  generalize w2.heap.size = P at *
  refine (carried_true _).mono ?_
  rintro e w3 ⟨rfl, b3⟩
  by_cases hE0 : E = 0
  rotate_left
  · have hq : (E != 0) = true := by simpa using hE0
    have B3 : Hid (Below w.heap.size w w3) := bel_trans BB.out b3
    clear b3 X0 X1 X2 P0 P1 P2
    go_wp2_with fail
    refine (carried_true _).mono ?_
    rintro e w4 ⟨rfl, b4⟩
    have B4 : Hid (Below w.heap.size w w4) := bel_trans B3.out b4
    clear b4
    go_wp2
    go_ret
    exact ⟨rfl, B4.out⟩
  subst hE0
  have HH := do_held HE.out HR.out
  obtain ⟨hk1, hk2, hk3, hk4, hk5, hk6, hk7, hk8, hk9, hk10, hk11⟩ := HH
  obtain ⟨hz0, hb0, hc0⟩ := doE_ok HE.out
  have HZ0 : Hid (zs.length = 512) := (chk_ok hz0).1
  have HZM : Hid (ms.length = 512) := (chk_ok hk1).1
  have HCB : Hid (chkB ⟨mo1, ba1, l1, op1, oh1, ot1, st1, fe1, fp1, fh1, ft1, lo1⟩ = 0) := hk2
  have HT20 : Hid (tch.length ≤ 20) := hk3
  have HDEC : Hid (decide (f = 0) = decide ((tch.length : Int) = n)) := hk5
  have HFP : fp1 = fp := hk6
  have HFH : fh1 = fh := hk7
  subst HFP HFH
  have HEA : Hid (∀ j, j < tch.length → ∃ p : Int, (0 ≤ p ∧ p < 512) ∧ tth tch j = (d, a + (j : Int), p, fw, nth (rep zs ds tch (j + 1)) p.toNat)) := hk8
  have HWL : Hid (fw = true → tch.length ≤ ds.length) := hk9
  have HRL : Hid (fw = false → dat.length = tch.length ∧ ∀ j, j < tch.length → nth dat j = (tth tch j).2.2.2.2) := hk10
  have HWY : Hid _ := hk11
  have HA : Hid (0 ≤ a ∧ a ≤ 512 ∧ 0 ≤ n ∧ n ≤ 20) := by
    obtain ⟨q1, _, q3, _, _⟩ := ckA_ok hc0
    show _ ∧ _ ∧ _ ∧ _
    omega
  have hdn0 : dn = decide (f = 0) := by rw [← HDN.out]; simp
  subst hdn0
  clear hk1 hk2 hk3 hk4 hk5 hk6 hk7 hk8 hk9 hk10 hk11 hz0 hb0 hc0
  replace X0 := X0.keep b3
  replace X1 := X1.keep b3
  replace X2 := X2.keep b3
  replace P0 := P0.keep b3
  rw [HZM.out] at P0
  replace P1 := P1.keep b3
  replace P2 := P2.keep b3
  have HM3 : Hid (Sl w3 _ zs) := HM.out.keep (bel_trans BB.out b3)
  have HS3 : Hid (Sl w3 (.slice ma1 512 mc1) ms) := by
    have h0 := HSn.out.keep b3
    rw [HZM.out] at h0
    exact h0
  have HL3 : Hid (Ls w3 _ l1) := HLn.out.keep b3
  have HD3 : Hid (Sl w3 _ dat) := HDn.out.keep b3
  have HT3 : Hid (Ts w3 _ tch) := HTn.out.keep b3
  have HDD : Hid (Sl w3 _ ds) := HD.out.keep (bel_trans BB.out b3)
  have B3 : Hid (Below w.heap.size w w3) := bel_trans BB.out b3
  clear b3 HSn HLn HDn HTn BB HM HS HD
  obtain ⟨m0, -, s0⟩ := X0.one
  go_wp2_with fail
  refine (clone_own _ zs _ HM3.out HZ0.out).mono ?_
  rintro e w4 ⟨g, cap, rfl, hO4, b4⟩
  have hg3 : w3.heap.size ≤ g := hO4.base g rfl
  have hg4 : g < w4.heap.size := hO4.lt g rfl
  have hPW : P + 1 + 1 < w3.heap.size := P2.lt
  have bA := bel_alloc b4 (.cells #[.slice (some ⟨g, 0, none⟩) 512 cap] 39)
  have XQ := Box.newAt (w := w4) rfl 39 #[.slice (some ⟨g, 0, none⟩) 512 cap]
  have HO5 : Hid (OwnI (w4.alloc (.cells #[.slice (some ⟨g, 0, none⟩) 512 cap] 39)) w3.heap.size (.slice (some ⟨g, 0, none⟩) 512 cap) zs) := hO4.alloc _
  replace X1 := X1.keep bA
  replace X2 := X2.keep bA
  replace P0 := P0.keep bA
  replace P1 := P1.keep bA
  replace P2 := P2.keep bA
  have HS5 : Hid (Sl (w4.alloc (.cells #[.slice (some ⟨g, 0, none⟩) 512 cap] 39)) _ ms) := HS3.out.keep bA
  have HL5 : Hid (Ls (w4.alloc (.cells #[.slice (some ⟨g, 0, none⟩) 512 cap] 39)) _ l1) := HL3.out.keep bA
  have HD5 : Hid (Sl (w4.alloc (.cells #[.slice (some ⟨g, 0, none⟩) 512 cap] 39)) _ dat) := HD3.out.keep bA
  have HT5 : Hid (Ts (w4.alloc (.cells #[.slice (some ⟨g, 0, none⟩) 512 cap] 39)) _ tch) := HT3.out.keep bA
  have HDD5 : Hid (Sl (w4.alloc (.cells #[.slice (some ⟨g, 0, none⟩) 512 cap] 39)) _ ds) := HDD.out.keep bA
  have HSB : Hid (ms = [] ∨ ∀ q, (Value.slice ma1 512 mc1).ownBlock = some q → ¬ q = g) := HS3.out.block.imp id fun h q hq e => by have := h q hq; omega
  have HDBk : Hid (dat = [] ∨ ∀ q, (Value.slice da1 dat.length dc1).ownBlock = some q → ¬ q = g) := HD3.out.block.imp id fun h q hq e => by have := h q hq; omega
  have HTBk : Hid (tch = [] ∨ ∀ q, (Value.slice ta1 tch.length tc1).ownBlock = some q → ¬ q = g) := HT3.out.block.imp id fun h q hq e => by have := h q hq; omega
  have HDDB : Hid (ds = [] ∨ ∀ q, (Value.slice da ds.length dc).ownBlock = some q → ¬ q = g) := HDD.out.block.imp id fun h q hq e => by have := h q hq; omega
  have HLBk : Hid (Ls w3 _ l1) := HL3.out
  have B5 : Hid (Below w.heap.size w (w4.alloc (.cells #[.slice (some ⟨g, 0, none⟩) 512 cap] 39))) := bel_trans B3.out bA
  have hz3 : w.heap.size ≤ w3.heap.size := B3.out.size
  obtain ⟨t0, t1, t2, t3, -, -, -, -, sT⟩ := P2.four
  have hQg : g < w4.heap.size := hg4
  have z5 : P + 1 + 1 < w4.heap.size + 1 := by have := b4.size; omega
  clear m0 s0 X0 HM3 HS3 HL3 HD3 HT3 HDD B3 hO4 b4 bA
  go_wp2
  generalize (w4.alloc (.cells #[.slice (some ⟨g, 0, none⟩) 512 cap] 39)) = V at *
  generalize w4.heap.size = Q at *
  have hQV : Q < V.heap.size := XQ.lt
  clear t0 t1 t2 t3 sT z5
  have HR0 : Hid (OwnI V w3.heap.size (.slice (some ⟨g, 0, none⟩) 512 cap) (rep zs ds tch 0) ∧ KeptB (fun q => q = g) V V) := ⟨HO5.out, KeptB.refl _ _⟩
  clear HO5
  go_loopw [12, 13, 37] (fun _ _ s37 wx => ∃ k : Nat, k ≤ tch.length ∧ s37 = .int .i64 k ∧ OwnI wx w3.heap.size (.slice (some ⟨g, 0, none⟩) 512 cap) (rep zs ds tch k) ∧ KeptB (fun q => q = g) V wx) (fun _ _ s37 _ => tch.length - (intOf s37).toNat)
  case atStart => exact ⟨0, Nat.zero_le _, rfl, HR0.out.1, HR0.out.2⟩
  case round =>
    clear HR0
    obtain ⟨k, hk, rfl, hO, hKB⟩ := hrel
    have HO : Hid (OwnI wr _ _ (rep zs ds tch k)) := hO
    have HKB : Hid (KeptB (fun q => q = g) V wr) := hKB
    have Y1 := X1.kept hKB (by omega)
    have Y2 := X2.kept hKB (by omega)
    have R0 := P0.kept hKB (by omega)
    have R1 := P1.kept hKB (by omega)
    have R2 := P2.kept hKB (by omega)
    have YQ := XQ.kept hKB (by omega)
    have hVr : V.heap.size ≤ wr.heap.size := hKB.size
    have ht20 : tch.length ≤ 20 := HT20.out
    clear hO hKB
    by_cases hlt : k < tch.length
    · obtain ⟨p, ⟨p0, p1⟩, hx⟩ := HEA.out k hlt
      obtain ⟨pn, rfl⟩ : ∃ pn : Nat, p = pn := ⟨p.toNat, by omega⟩
      obtain ⟨zk, hzk⟩ : ∃ zk, rep zs ds tch k = zk := ⟨_, rfl⟩
      obtain ⟨zk1, hzk1⟩ : ∃ zk1, rep zs ds tch (k + 1) = zk1 := ⟨_, rfl⟩
      rw [hzk1, Int.toNat_natCast] at hx
      obtain ⟨Z, hZ⟩ : ∃ Z, nth zk1 pn = Z := ⟨_, rfl⟩
      rw [hZ] at hx
      have HX : Hid (_ = _) := hx
      have HZK : Hid (rep zs ds tch k = zk) := hzk
      have HZ1 : Hid (rep zs ds tch (k + 1) = zk1) := hzk1
      have HZV : Hid (nth zk1 pn = Z) := hZ
      have HLK : Hid (zk.length = 512) := by show _ = _; rw [← hzk, rep_len]; exact HZ0.out
      obtain ⟨tb, tf, tcap, he, htb, hat⟩ := (HT5.out.keptO HKB.out HTBk.out).at hlt
      simp only [Value.slice.injEq, true_and] at he
      obtain ⟨rfl, rfl⟩ := he
      rw [hx] at hat
      obtain ⟨g0, g1, g2, g3, g4⟩ := hat
      simp only at g0 g1 g2 g3 g4
      have hlt1 : (k : Int) < (tch.length : Int) := by omega
      obtain ⟨a0, a1, n0, n1'⟩ := HA.out
      have hpp0 : ¬ (pn : Int) < 0 := by omega
      have hpp1 : (pn : Int) < 512 := by omega
      have hpp2 : (0 : Int) ≤ (pn : Int) := by omega
      have hk0 : (0 : Int) ≤ (k : Int) := by omega
      have hk20 : (k : Int) ≤ 20 := by omega
      rw [hzk] at HO
      have htb1 : tb < wr.heap.size + 1 := by omega
      clear hx hzk hzk1 hZ p0 p1
      cases fw
      · skip
        obtain ⟨hdl, hdv⟩ := HRL.out rfl
        have hdk : nth dat k = Z := by rw [hdv k hlt, HX.out]
        obtain ⟨bd, od, rfl, hbd, gd⟩ := (HD5.out.keptO HKB.out HDBk.out).open (i := k) (by omega)
        rw [hdk] at gd
        have hkd1 : (k : Int) < (dat.length : Int) := by omega
        have HZZ : Hid (zk1 = zk) := by
          show _ = _
          rw [← HZ1.out, rep_step HX.out, if_neg (by decide), HZK.out]
        have gp : wr.cell? ⟨g, pn, none⟩ = some (.int .i64 Z) := by rw [HO.out.cellAt (by have := HLK.out; omega), ← HZV.out, HZZ.out]
        clear hdl hdv hdk
        have XX := Box.newAt (w := wr) rfl 92 #[.int .i64 d, .int .i64 (a + (k : Int)), .int .i64 pn, .bool false, .int .i64 Z]
        have K11 : KeptB (fun q => q = g) V (wr.alloc (.cells #[.int .i64 d, .int .i64 (a + (k : Int)), .int .i64 pn, .bool false, .int .i64 Z] 92)) := HKB.out.alloc (.cells #[.int .i64 d, .int .i64 (a + (k : Int)), .int .i64 pn, .bool false, .int .i64 Z] 92)
        have HO11 : Hid (OwnI (wr.alloc (.cells #[.int .i64 d, .int .i64 (a + (k : Int)), .int .i64 pn, .bool false, .int .i64 Z] 92)) w3.heap.size (.slice (some ⟨g, 0, none⟩) 512 cap) zk1) := by
          show OwnI _ _ _ _
          rw [HZZ.out]
          exact HO.out.alloc (.cells #[.int .i64 d, .int .i64 (a + (k : Int)), .int .i64 pn, .bool false, .int .i64 Z] 92)
        have YQ11 := YQ.past (.cells #[.int .i64 d, .int .i64 (a + (k : Int)), .int .i64 pn, .bool false, .int .i64 Z] 92)
        have R11 := R2.past (.cells #[.int .i64 d, .int .i64 (a + (k : Int)), .int .i64 pn, .bool false, .int .i64 Z] 92)
        obtain ⟨c0, c1, c2, c3, c4⟩ := Y2.blk.five
        have sA := Y2.lt
        go_upto_region 12 with fail
        have gp' := (cell_past (o := (.cells #[.int .i64 d, .int .i64 (a + (k : Int)), .int .i64 pn, .bool false, .int .i64 Z] 92)) gp)
        have gd' := (cell_past (o := (.cells #[.int .i64 d, .int .i64 (a + (k : Int)), .int .i64 pn, .bool false, .int .i64 Z] 92)) gd)
        have hb1 : bd < (wr.alloc (.cells #[.int .i64 d, .int .i64 (a + (k : Int)), .int .i64 pn, .bool false, .int .i64 Z] 92)).heap.size := by simp; omega
        have hb2 : g < (wr.alloc (.cells #[.int .i64 d, .int .i64 (a + (k : Int)), .int .i64 pn, .bool false, .int .i64 Z] 92)).heap.size := by simp; omega
        clear c0 c1 c2 c3 c4 sA gp gd g0 g1 g2 g3 g4
        generalize (wr.alloc (.cells #[.int .i64 d, .int .i64 (a + (k : Int)), .int .i64 pn, .bool false, .int .i64 Z] 92)) = wY at *
        generalize wr.heap.size = X at *
        obtain ⟨w0, -, sW⟩ := YQ11.one
        obtain ⟨x0, x1, x2, x3, x4⟩ := XX.blk.five
        have sX := XX.lt
        obtain ⟨t0, t1, t2, t3, -, -, -, -, sT⟩ := R11.four
        go_quiet (fail)
        go_wp2
        exact ⟨⟨k + 1, by omega, by go_num, by rw [HZ1.out]; exact OwnI.drewN HO11.out _, KeptB.drewN K11 _⟩, by simp [intOf]; omega⟩
      · skip
        have hkd : k < ds.length := by have := HWL.out rfl; omega
        obtain ⟨bd, od, rfl, hbd, gd⟩ := (HDD5.out.keptO HKB.out HDDB.out).open (i := k) hkd
        have hgD : ¬ g = bd := fun e => by
          rcases HDDB.out with h0 | h0
          · rw [h0] at hkd; simp at hkd
          · exact h0 bd (by simp [Value.ownBlock]) e.symm
        have hkd1 : (k : Int) < (ds.length : Int) := by omega
        have HZZ : Hid (zk1 = zk.set pn (nth ds k)) := by
          show _ = _
          rw [← HZ1.out, rep_step HX.out, if_pos rfl, HZK.out, Int.toNat_natCast]
        have gp : wr.cell? ⟨g, pn, none⟩ = some (.int .i64 (nth zk pn)) := HO.out.cellAt (by have := HLK.out; omega)
        have gf : wr.frozen? ⟨g, pn, none⟩ = false := HO.out.frozenAt pn
        have XX := Box.newAt (w := wr) rfl 92 #[.int .i64 d, .int .i64 (a + (k : Int)), .int .i64 pn, .bool true, .int .i64 Z]
        have K11 : KeptB (fun q => q = g) V (((wr.alloc (.cells #[.int .i64 d, .int .i64 (a + (k : Int)), .int .i64 pn, .bool true, .int .i64 Z] 92)).setCell ⟨g, pn, none⟩ (.int .i64 (nth ds k))).drew) := ((HKB.out.alloc (.cells #[.int .i64 d, .int .i64 (a + (k : Int)), .int .i64 pn, .bool true, .int .i64 Z] 92)).setCell (p := ⟨g, pn, none⟩) (.inl rfl) _).drew
        have HO11 : Hid (OwnI (((wr.alloc (.cells #[.int .i64 d, .int .i64 (a + (k : Int)), .int .i64 pn, .bool true, .int .i64 Z] 92)).setCell ⟨g, pn, none⟩ (.int .i64 (nth ds k))).drew) w3.heap.size (.slice (some ⟨g, 0, none⟩) 512 cap) zk1) := by
          show OwnI _ _ _ _
          rw [HZZ.out]
          exact OwnI.drew (OwnI.setAt (HO.out.alloc (.cells #[.int .i64 d, .int .i64 (a + (k : Int)), .int .i64 pn, .bool true, .int .i64 Z] 92)) pn _)
        have YQ11 := Box.drew ((YQ.past (.cells #[.int .i64 d, .int .i64 (a + (k : Int)), .int .i64 pn, .bool true, .int .i64 Z] 92)).other (p := ⟨g, pn, none⟩) (by dsimp only; omega) (.int .i64 (nth ds k)))
        have XX11 := Box.drew (XX.other (p := ⟨g, pn, none⟩) (by dsimp only; omega) (.int .i64 (nth ds k)))
        obtain ⟨c0, c1, c2, c3, c4⟩ := Y2.blk.five
        have sA := Y2.lt
        obtain ⟨w0, -, sW⟩ := YQ.one
        have hr1 : g < wr.heap.size + 1 := by omega
        have hr2 : Q < wr.heap.size + 1 := by omega
        have hr3 : bd < wr.heap.size + 1 := by omega
        have hr4 : w.heap.size + 1 + 1 < wr.heap.size + 1 := by omega
        go_upto_region 11 with fail
        have c1' := (cell_past (o := (.cells #[.int .i64 d, .int .i64 (a + (k : Int)), .int .i64 pn, .bool true, .int .i64 Z] 92)) c4)
        have w0' := (cell_past (o := (.cells #[.int .i64 d, .int .i64 (a + (k : Int)), .int .i64 pn, .bool true, .int .i64 Z] 92)) w0)
        have gd' := (cell_past (o := (.cells #[.int .i64 d, .int .i64 (a + (k : Int)), .int .i64 pn, .bool true, .int .i64 Z] 92)) gd)
        have gp' := (cell_past (o := (.cells #[.int .i64 d, .int .i64 (a + (k : Int)), .int .i64 pn, .bool true, .int .i64 Z] 92)) gp)
        have gf' : (wr.alloc (.cells #[.int .i64 d, .int .i64 (a + (k : Int)), .int .i64 pn, .bool true, .int .i64 Z] 92)).frozen? ⟨g, pn, none⟩ = false := (HO.out.alloc (.cells #[.int .i64 d, .int .i64 (a + (k : Int)), .int .i64 pn, .bool true, .int .i64 Z] 92)).frozenAt pn
        have x2' : (wr.alloc (.cells #[.int .i64 d, .int .i64 (a + (k : Int)), .int .i64 pn, .bool true, .int .i64 Z] 92)).cell? ⟨wr.heap.size, 2, none⟩ = some (.int .i64 pn) := XX.cell 2
        have sX := XX.lt
        clear c0 c1 c2 c3 c4 sA w0 sW gd gp gf XX g0 g1 g2 g3 g4
        generalize (wr.alloc (.cells #[.int .i64 d, .int .i64 (a + (k : Int)), .int .i64 pn, .bool true, .int .i64 Z] 92)) = wX at *
        have n1 : ¬ g = Q := by omega
        have n2 : ¬ g = wr.heap.size := by omega
        have n3 : ¬ g = w.heap.size + 1 + 1 := by omega
        generalize wr.heap.size = X at *
        go_region_held3 (fun w' => w'.cell? ⟨Q, 0, none⟩ = some (.slice (some ⟨g, 0, none⟩) 512 cap) ∧ w'.cell? ⟨X, 2, none⟩ = some (.int .i64 pn) ∧ w'.cell? ⟨w.heap.size + 1 + 1, 4, none⟩ = some (.slice (some ⟨bd, od, none⟩) ds.length dc) ∧ w'.cell? ⟨bd, od + k, none⟩ = some (.int .i64 (nth ds k))) (go_keep) (fail)
        clear c1' w0' gd' gp' gf' x2' sX
        go_upto_region 12 with fail
        generalize (wX.setCell ⟨g, pn, none⟩ (.int .i64 (nth ds k))).drew = wY at *
        obtain ⟨w0, -, sW⟩ := YQ11.one
        obtain ⟨x0, x1, x2, x3, x4⟩ := XX11.blk.five
        have sX := XX11.lt
        have gz : wY.cell? ⟨g, pn, none⟩ = some (.int .i64 Z) := by rw [HO11.out.cellAt (by rw [HZZ.out, List.length_set, HLK.out]; omega), HZV.out]
        have sg : g < wY.heap.size := HO11.out.lt g rfl
        go_quiet (fail)
        go_wp2
        exact ⟨⟨k + 1, by omega, by go_num, by rw [HZ1.out]; exact OwnI.drewN HO11.out _, KeptB.drewN K11 _⟩, by simp [intOf]; omega⟩
    · obtain rfl : k = tch.length := by omega
      have nlt : ¬ (tch.length : Int) < (tch.length : Int) := by omega
      obtain ⟨zq, hzq⟩ : ∃ zq, rep zs ds tch tch.length = zq := ⟨_, rfl⟩
      rw [hzq] at HO
      have hlq : zq.length = 512 := by rw [← hzq, rep_len]; exact HZ0.out
      have hwy := HWY.out
      rw [hzq] at hwy
      have HLQ : Hid (zq.length = 512) := hlq
      clear hzq hlq HWY
      obtain ⟨⟨q0, q1, q2, q3, q4, q5, q6, q7, q8, q9, q10, q11⟩, sB⟩ := R1.twelve
      obtain ⟨⟨u0, u1, u2, u3, u4, u5, u6, u7, u8, u9, u10, u11⟩, sU⟩ := Y1.twelve
      obtain ⟨t0, t1, t2, t3, -, -, -, -, sT⟩ := R2.four
      rcases hwy with ⟨rfl, hm, hft⟩ | ⟨hf, hm, hft⟩ | ⟨hf, hft, hi, z, hm⟩
      · have hft : ft1 = ft := hft
        subst hft
        have HOF : Hid (OwnI wr w3.heap.size (.slice (some ⟨g, 0, none⟩) 512 cap) ms) := by show OwnI _ _ _ _; rw [hm]; exact HO.out
        have KF : KeptB (fun q => q = g) V wr := HKB.out
        have hnl : n = (tch.length : Int) := by have h0 := HDEC.out; rw [decide_eq_true rfl] at h0; exact (of_decide_eq_true h0.symm).symm
        subst hnl
        obtain ⟨wF, rfl⟩ : ∃ wF, wF = wr := ⟨wr, rfl⟩
        go_upto_region 17 with fail
        clear q0 q1 q2 q3 q4 q5 q6 q7 q8 q9 q10 q11 sB u0 u1 u2 u3 u4 u5 u6 u7 u8 u9 u10 u11 sU t0 t1 t2 t3 sT hm HO HKB Y1 Y2 R0 R1 R2 YQ
        have R0' := P0.kept KF (by omega)
        have R1' := P1.kept KF (by omega)
        have R2' := P2.kept KF (by omega)
        have Y1' := X1.kept KF (by omega)
        have Y2' := X2.kept KF (by omega)
        have YQ' := XQ.kept KF (by omega)
        have SF : Hid (Sl wF _ ms) := HS5.out.keptO KF HSB.out
        have LF : Hid (Ls wF _ l1) := HL5.out.keptG HLBk.out KF hg3
        have BF : Hid (Below w.heap.size w wF) := B5.out.trans (KF.low (by omega) (fun q hq e => by omega))
        clear KF
        obtain ⟨m0, -, sM⟩ := R0'.one
        obtain ⟨w0, -, sW⟩ := YQ'.one
        go_wp2_with fail
        refine (same_any _ _ ms ms _ SF.out (HOF.out.sl (by have := HZM.out; unfold maxLen; omega))).mono ?_
        rintro e w7 ⟨rfl, b7⟩
        rw [decide_eq_true (rfl : ms = ms)]
        clear m0 sM w0 sW
        replace R1' := R1'.keep b7
        replace R2' := R2'.keep b7
        replace Y1' := Y1'.keep b7
        replace Y2' := Y2'.keep b7
        have L7 : Hid (Ls w7 _ l1) := LF.out.keep b7
        have B7 : Hid (Below w.heap.size w w7) := bel_trans BF.out b7
        clear b7 R0' YQ' SF LF BF HOF
        obtain ⟨t0, t1, t2, t3, -, -, -, -, sT⟩ := R2'.four
        obtain ⟨⟨q0, q1, q2, q3, q4, q5, q6, q7, q8, q9, q10, q11⟩, sB⟩ := R1'.twelve
        obtain ⟨⟨u0, u1, u2, u3, u4, u5, u6, u7, u8, u9, u10, u11⟩, sU⟩ := Y1'.twelve
        obtain ⟨c0, c1, c2, c3, c4⟩ := Y2'.blk.five
        have sA := Y2'.lt
        go_wp2_with fail
        refine (bCheck_any _ _ _ _ _ _ _ _ _ _ _ _ l1 _ L7.out).mono ?_
        rintro e w8 ⟨rfl, b8⟩
        rw [HCB.out]
        have B8 : Hid (Below w.heap.size w w8) := bel_trans B7.out b8
        clear b8 t0 t1 t2 t3 sT q0 q1 q2 q3 q4 q5 q6 q7 q8 q9 q10 q11 sB u0 u1 u2 u3 u4 u5 u6 u7 u8 u9 u10 u11 sU c0 c1 c2 c3 c4 sA
        go_wp2
        go_ret
        exact ⟨rfl, B8.out⟩
      · have hft : ft1 = ft := hft
        subst hft
        have HOF : Hid (OwnI wr w3.heap.size (.slice (some ⟨g, 0, none⟩) 512 cap) ms) := by show OwnI _ _ _ _; rw [hm]; exact HO.out
        have KF : KeptB (fun q => q = g) V wr := HKB.out
        have hfd : decide (f = 0) = false := decide_eq_false hf
        have hnb : ((tch.length : Int) == n) = false := by have h0 := HDEC.out; rw [hfd] at h0; simpa using h0.symm
        have hfe : (f == 0) = false := by simpa using hf
        have hfn : (f != 0) = true := by simpa using hf
        rw [hfd] at P2 R2
        obtain ⟨wF, rfl⟩ : ∃ wF, wF = wr := ⟨wr, rfl⟩
        go_upto_region 17 with fail
        clear q0 q1 q2 q3 q4 q5 q6 q7 q8 q9 q10 q11 sB u0 u1 u2 u3 u4 u5 u6 u7 u8 u9 u10 u11 sU t0 t1 t2 t3 sT hm HO HKB Y1 Y2 R0 R1 R2 YQ
        have R0' := P0.kept KF (by omega)
        have R1' := P1.kept KF (by omega)
        have R2' := P2.kept KF (by omega)
        have Y1' := X1.kept KF (by omega)
        have Y2' := X2.kept KF (by omega)
        have YQ' := XQ.kept KF (by omega)
        have SF : Hid (Sl wF _ ms) := HS5.out.keptO KF HSB.out
        have LF : Hid (Ls wF _ l1) := HL5.out.keptG HLBk.out KF hg3
        have BF : Hid (Below w.heap.size w wF) := B5.out.trans (KF.low (by omega) (fun q hq e => by omega))
        clear KF
        obtain ⟨m0, -, sM⟩ := R0'.one
        obtain ⟨w0, -, sW⟩ := YQ'.one
        go_wp2_with fail
        refine (same_any _ _ ms ms _ SF.out (HOF.out.sl (by have := HZM.out; unfold maxLen; omega))).mono ?_
        rintro e w7 ⟨rfl, b7⟩
        rw [decide_eq_true (rfl : ms = ms)]
        clear m0 sM w0 sW
        replace R1' := R1'.keep b7
        replace R2' := R2'.keep b7
        replace Y1' := Y1'.keep b7
        replace Y2' := Y2'.keep b7
        have L7 : Hid (Ls w7 _ l1) := LF.out.keep b7
        have B7 : Hid (Below w.heap.size w w7) := bel_trans BF.out b7
        clear b7 R0' YQ' SF LF BF HOF
        obtain ⟨t0, t1, t2, t3, -, -, -, -, sT⟩ := R2'.four
        obtain ⟨⟨q0, q1, q2, q3, q4, q5, q6, q7, q8, q9, q10, q11⟩, sB⟩ := R1'.twelve
        obtain ⟨⟨u0, u1, u2, u3, u4, u5, u6, u7, u8, u9, u10, u11⟩, sU⟩ := Y1'.twelve
        obtain ⟨c0, c1, c2, c3, c4⟩ := Y2'.blk.five
        have sA := Y2'.lt
        go_wp2_with fail
        refine (bCheck_any _ _ _ _ _ _ _ _ _ _ _ _ l1 _ L7.out).mono ?_
        rintro e w8 ⟨rfl, b8⟩
        rw [HCB.out]
        have B8 : Hid (Below w.heap.size w w8) := bel_trans B7.out b8
        clear b8 t0 t1 t2 t3 sT q0 q1 q2 q3 q4 q5 q6 q7 q8 q9 q10 q11 sB u0 u1 u2 u3 u4 u5 u6 u7 u8 u9 u10 u11 sU c0 c1 c2 c3 c4 sA
        go_wp2
        go_ret
        exact ⟨rfl, B8.out⟩
      · have hft : ¬ ft1 = ft := hft
        obtain ⟨i, hii⟩ : ∃ i : Nat, fp1 * 8 + ft = i := ⟨(fp1 * 8 + ft).toNat, by have : 0 ≤ fp1 * 8 + ft := hi.1; omega⟩
        have hi5 : i < 512 := by have : fp1 * 8 + ft < 512 := hi.2; omega
        replace hm : ms = zq.set i z := by rw [hm]; show zq.set (fp1 * 8 + ft).toNat z = _; rw [hii, Int.toNat_natCast]
        obtain ⟨mb, mo', rfl, hmb, gm⟩ := (HS5.out.keptO HKB.out HSB.out).open (i := i) (by rw [HZM.out]; omega)
        have hgm : ¬ g = mb := fun e => by
          rcases HSB.out with h0 | h0
          · have := HZM.out; rw [h0] at this; simp at this
          · exact h0 mb (by simp [Value.ownBlock]) e.symm
        have HOF : Hid (OwnI ((wr.setCell ⟨g, i, none⟩ (.int .i64 (nth ms i))).drew) w3.heap.size (.slice (some ⟨g, 0, none⟩) 512 cap) ms) := by
          have h0 := OwnI.drew (OwnI.setAt HO.out i (nth ms i))
          rw [show zq.set i (nth ms i) = ms by rw [hm]; exact nth_set_self (by rw [HLQ.out]; omega)] at h0
          exact h0
        have KF : KeptB (fun q => q = g) V ((wr.setCell ⟨g, i, none⟩ (.int .i64 (nth ms i))).drew) := (HKB.out.setCell (p := ⟨g, i, none⟩) (.inl rfl) _).drew
        have hfd : decide (f = 0) = false := decide_eq_false hf
        have hnb : ((tch.length : Int) == n) = false := by have h0 := HDEC.out; rw [hfd] at h0; simpa using h0.symm
        have hfe : (f == 0) = false := by simpa using hf
        have hfn : (f != 0) = true := by simpa using hf
        rw [hfd] at P2 R2
        clear hm
        have gp : wr.cell? ⟨g, i, none⟩ = some (.int .i64 (nth zq i)) := HO.out.cellAt (by rw [HLQ.out]; omega)
        have gf : wr.frozen? ⟨g, i, none⟩ = false := HO.out.frozenAt i
        have sg : g < wr.heap.size := HO.out.lt g rfl
        obtain ⟨m0, -, sM⟩ := R0.one
        obtain ⟨w0, -, sW⟩ := YQ.one
        obtain ⟨hra, hrb⟩ : 0 ≤ fp1 * 8 ∧ fp1 * 8 < 1000 := by
          have r1 := pageR_in (chkR_ok (chkB_ok HCB.out).2.2.2.2.2).1
          dsimp only at r1
          omega
        have qp' : IntKind.i64.wrap (fp1 * 8) = fp1 * 8 := wrapT _ hra (by omega)
        have qw' : IntKind.i64.wrap (fp1 * 8 + ft) = (i : Int) := by rw [hii]; exact wrapT _ (by omega) (by omega)
        have hi1n : i < 512 := hi5
        have qp2 : IntKind.i64.wrap (IntKind.i64.wrap (fp1 * 8) + ft) = (i : Int) := by rw [qp']; exact qw'
        have qp : IntKind.i64.wrap (fp1 * 8) = fp1 * 8 := qp'
        have qw : IntKind.i64.wrap (fp1 * 8 + ft) = (i : Int) := qw'
        have qi : IntKind.i64.wrap (i : Int) = (i : Int) := wrapT _ (by omega) (by omega)
        have hi0 : (0 : Int) ≤ (i : Int) := by omega
        have hi1 : (i : Int) < 512 := by omega
        clear qp' qw'
        have hft2 : ¬ ft = ft1 := fun e => hft e.symm
        go_upto_region 16 with fail
        have n1 : ¬ g = Q := by omega
        have n2 : ¬ g = P := by omega
        have n3 : ¬ g = w.heap.size + 1 := by omega
        clear q0 q1 q2 q3 q4 q5 q6 q7 q8 q9 q10 q11 sB u0 u1 u2 u3 u4 u5 u6 u7 u9 u11 t0 t1 t2 t3 sT HO HKB Y1 Y2 R0 R1 R2 YQ hra hrb hi
        go_region_held3 (fun w' => w'.cell? ⟨Q, 0, none⟩ = some (.slice (some ⟨g, 0, none⟩) 512 cap) ∧ w'.cell? ⟨w.heap.size + 1, 8, none⟩ = some (.int .i64 fp1) ∧ w'.cell? ⟨w.heap.size + 1, 10, none⟩ = some (.int .i64 ft) ∧ w'.cell? ⟨P, 0, none⟩ = some (.slice (some ⟨mb, mo', none⟩) 512 mc1) ∧ w'.cell? ⟨mb, mo' + i, none⟩ = some (.int .i64 (nth ms i))) (go_keep) (fail)
        go_upto_region 17 with fail
        clear gp gf sg m0 sM w0 sW gm qp qw qp2 qi u8 u10 sU
        generalize ((wr.setCell ⟨g, i, none⟩ (.int .i64 (nth ms i))).drew) = wF at *
        have R0' := P0.kept KF (by omega)
        have R1' := P1.kept KF (by omega)
        have R2' := P2.kept KF (by omega)
        have Y1' := X1.kept KF (by omega)
        have Y2' := X2.kept KF (by omega)
        have YQ' := XQ.kept KF (by omega)
        have SF : Hid (Sl wF _ ms) := HS5.out.keptO KF HSB.out
        have LF : Hid (Ls wF _ l1) := HL5.out.keptG HLBk.out KF hg3
        have BF : Hid (Below w.heap.size w wF) := B5.out.trans (KF.low (by omega) (fun q hq e => by omega))
        clear KF
        obtain ⟨m0, -, sM⟩ := R0'.one
        obtain ⟨w0, -, sW⟩ := YQ'.one
        go_wp2_with fail
        refine (same_any _ _ ms ms _ SF.out (HOF.out.sl (by have := HZM.out; unfold maxLen; omega))).mono ?_
        rintro e w7 ⟨rfl, b7⟩
        rw [decide_eq_true (rfl : ms = ms)]
        clear m0 sM w0 sW
        replace R1' := R1'.keep b7
        replace R2' := R2'.keep b7
        replace Y1' := Y1'.keep b7
        replace Y2' := Y2'.keep b7
        have L7 : Hid (Ls w7 _ l1) := LF.out.keep b7
        have B7 : Hid (Below w.heap.size w w7) := bel_trans BF.out b7
        clear b7 R0' YQ' SF LF BF HOF
        obtain ⟨t0, t1, t2, t3, -, -, -, -, sT⟩ := R2'.four
        obtain ⟨⟨q0, q1, q2, q3, q4, q5, q6, q7, q8, q9, q10, q11⟩, sB⟩ := R1'.twelve
        obtain ⟨⟨u0, u1, u2, u3, u4, u5, u6, u7, u8, u9, u10, u11⟩, sU⟩ := Y1'.twelve
        obtain ⟨c0, c1, c2, c3, c4⟩ := Y2'.blk.five
        have sA := Y2'.lt
        go_wp2_with fail
        refine (bCheck_any _ _ _ _ _ _ _ _ _ _ _ _ l1 _ L7.out).mono ?_
        rintro e w8 ⟨rfl, b8⟩
        rw [HCB.out]
        have B8 : Hid (Below w.heap.size w w8) := bel_trans B7.out b8
        clear b8 t0 t1 t2 t3 sT q0 q1 q2 q3 q4 q5 q6 q7 q8 q9 q10 q11 sB u0 u1 u2 u3 u4 u5 u6 u7 u8 u9 u10 u11 sU c0 c1 c2 c3 c4 sA
        go_wp2
        go_ret
        exact ⟨rfl, B8.out⟩
end Go.Proofs.Ytefcdcneenjbgab
/-
  What is written lies where it was written, as data alone (for DmaBack).
-/
namespace Go.Proofs.Ytefcdcneenjbgab
open Go.RowKit

theorem nth_set_far {l : List Int} {i j : Nat} (h : i ≠ j) (z : Int) : nth (l.set i z) j = nth l j := by
  simp [nth, h]
/-- Words that are written at places unlike each other: each holds its word of Data. -/
theorem rep_at {zs ds : List Int} {T : List Tc} (hz : zs.length = 512) : ∀ (J : Nat), (∀ j, j < J → (tth T j).2.2.2.1 = true ∧ 0 ≤ (tth T j).2.2.1 ∧ (tth T j).2.2.1 < 512) → (∀ i j, i < j → j < J → (tth T i).2.2.1 ≠ (tth T j).2.2.1) →
    ∀ k, k < J → nth (rep zs ds T J) (tth T k).2.2.1.toNat = nth ds k
  | 0, _, _, _, hk => absurd hk (Nat.not_lt_zero _)
  | J + 1, hw, hd, k, hk => by
    obtain ⟨h1, h2, h3⟩ := hw J (by omega)
    rw [rep, if_pos h1]
    by_cases e : k = J
    · subst e
      simp only [nth, List.getD_eq_getElem?_getD]
      rw [List.getElem?_set_self (by rw [rep_len, hz]; omega)]
      rfl
    · obtain ⟨_, g2, g3⟩ := hw k hk
      have hne := hd k J (by omega) (by omega)
      rw [nth_set_far (by omega)]
      exact rep_at hz J (fun j hj => hw j (by omega)) (fun i j hi hj => hd i j hi (by omega)) k (by omega)

theorem one_key : ∀ {l : List Ln}, l.Pairwise (fun x y => keyB y x = false) → ∀ {x y : Ln}, x ∈ l → y ∈ l → keyB x y = true → x = y
  | [], _, _, _, hx, _, _ => by cases hx
  | a :: l, h, x, y, hx, hy, hk => by
    obtain ⟨h1, h2⟩ := List.pairwise_cons.1 h
    rcases List.mem_cons.1 hx with ex | ex
    · rcases List.mem_cons.1 hy with ey | ey
      · rw [ex, ey]
      · have := h1 y ey
        rw [← ex, key_symm, hk] at this; cases this
    · rcases List.mem_cons.1 hy with ey | ey
      · have := h1 x ex
        rw [← ey, hk] at this; cases this
      · exact one_key h2 ex ey hk
theorem has_same {d p : Int} {x y : Ln} (hx : hasB d p x = true) (hy : hasB d p y = true) : keyB x y = true := by
  simp only [hasB, keyB, Bool.and_eq_true, decide_eq_true_eq] at *
  omega
/-- A page that is let through to read, by what is remembered and by the tables alike, is so behind any other page that is let through. -/
theorem goT_stay {ns : List Int} {b c : Br} {d p p' y y' : Int} (h : thE ns b d p = 0) (hp' : 0 ≤ p' ∧ p' ≤ 63) (hg : goT ns b d p false = (c, y, 0)) (h1 : (goT ns b d p' false).2 = (y', 0)) (h2 : (goT ns (b.with []) d p' false).2 = (y', 0)) : (goT ns c d p' false).2 = (y', 0) := by
  obtain ⟨hk, hb, hd, hp⟩ := thE_ok h
  rcases goT_ways (wr := false) h with ⟨f', hf', e⟩ | ⟨k', hk', e, hl⟩ | ⟨a, x, hm, hn, ha, hx, hl, e⟩
  · rw [e] at hg
    simp only [Prod.mk.injEq] at hg
    omega
  · rw [e] at hg
    simp only [Prod.mk.injEq] at hg
    obtain ⟨rfl, -, -⟩ := hg
    exact h1
  · have hg' := hg
    rw [e] at hg'
    simp only [Prod.mk.injEq] at hg'
    obtain ⟨rfl, rfl, -⟩ := hg'
    by_cases hf : 0 ≤ fndC (flC b.cache (d, p, a, true, x)) d p'
    · obtain ⟨-, q2, q3⟩ := fnd_line hf
      have hgo : (goT ns (b.with (flC b.cache (d, p, a, true, x))) d p' false).2 = ((lineC (flC b.cache (d, p, a, true, x)) d p').2.2.1, 0) := by
        unfold goT
        rw [if_neg (show ¬ (b.with (flC b.cache (d, p, a, true, x))).mode = 0 by show ¬ b.mode = 0; omega), if_neg (show ¬ (b.with (flC b.cache (d, p, a, true, x))).mode = 1 by show ¬ b.mode = 1; omega), if_pos (show 0 ≤ fndC (b.with (flC b.cache (d, p, a, true, x))).cache d p' from hf)]
        rfl
      rw [hgo]
      rw [flC_ok hl] at q3
      rcases List.mem_append.1 q3 with q3 | q3
      · have hin := (oldC_sub b.cache).subset q3
        have hf0 : 0 ≤ fndC b.cache d p' := by
          rcases Int.lt_or_le (fndC b.cache d p') 0 with hlt | hge
          · have := fndC_neg.1 hlt _ hin
            rw [flC_ok hl] at q2
            rw [q2] at this; cases this
          · exact hge
        obtain ⟨-, r2, r3⟩ := fnd_line hf0
        have heq := one_key (flE_zero hl).1.2.2 hin r3 (has_same (by rw [← flC_ok hl]; exact q2) r2)
        have hgo2 : (goT ns b d p' false).2 = ((lineC b.cache d p').2.2.1, 0) := by
          unfold goT
          rw [if_neg (by omega), if_neg (by omega), if_pos hf0]
          rfl
        rw [hgo2] at h1
        rw [← h1, flC_ok hl, heq]
      · simp only [List.mem_singleton] at q3
        rw [flC_ok hl] at q2 ⊢
        rw [q3] at q2 ⊢
        have hpp : p = p' := by simpa [hasB] using q2
        subst hpp
        rw [hg] at h1
        simpa using h1
    · rw [goT_plain hk hp' hf]
      exact h2
/-- A reading burst whose pages are let through, by what is remembered and by the tables alike. -/
theorem read_run {d : Int} {ds ns : List Int} {o : Nat} (Y : Nat → Int) (hz : chk ns = 0) (hd : 0 ≤ d ∧ d ≤ 7) : ∀ (m x : Nat) (k : Int) (b : Br) (dat : List Int) (tch : List Tc), chkB b = 0 → x + m ≤ 512 →
    ((x = o ∨ x % 8 = 0) ∨ k = Y (x / 8)) → (∀ j, j < m → (goT ns b d (((x + j) / 8 : Nat) : Int) false).2 = (Y ((x + j) / 8), 0) ∧ (goT ns (b.with []) d (((x + j) / 8 : Nat) : Int) false).2 = (Y ((x + j) / 8), 0)) →
    ∃ b' tch', runW d false ds o m x k ⟨ns, b, dat, tch⟩ = (⟨ns, b', dat ++ (List.range m).map (fun j => nth ns (plc (Y ((x + j) / 8)) (x + j)).toNat), tch'⟩, 0)
  | 0, x, k, b, dat, tch, _, _, _, _ => ⟨b, tch, by simp [runW_zero]⟩
  | m + 1, x, k, b, dat, tch, hb, hm, hk, hy => by
    have hsum : ∀ (z : Int), [z] ++ (List.range m).map (fun j => nth ns (plc (Y ((x + 1 + j) / 8)) (x + 1 + j)).toNat) = z :: ((List.range m).map (fun j => nth ns (plc (Y ((x + (j + 1)) / 8)) (x + (j + 1))).toNat)) := fun z => by
      rw [List.singleton_append]
      congr 1
      exact List.map_congr_left (fun j _ => by rw [show x + 1 + j = x + (j + 1) by omega])
    have hrng : (List.range (m + 1)).map (fun j => nth ns (plc (Y ((x + j) / 8)) (x + j)).toNat) = nth ns (plc (Y (x / 8)) x).toNat :: ((List.range m).map (fun j => nth ns (plc (Y ((x + (j + 1)) / 8)) (x + (j + 1))).toNat)) := by
      rw [List.range_succ_eq_map, List.map_cons, List.map_map]
      rfl
    obtain ⟨e1, e2⟩ := hy 0 (by omega)
    rw [Nat.add_zero] at e1 e2
    by_cases hx : x = o ∨ x % 8 = 0
    · obtain ⟨⟨c, k', f⟩, hg⟩ : ∃ R, goT ns b d ((x / 8 : Nat) : Int) false = R := ⟨_, rfl⟩
      rw [hg] at e1
      simp only [Prod.mk.injEq] at e1
      obtain ⟨rfl, rfl⟩ := e1
      have hth : thE ns b d ((x / 8 : Nat) : Int) = 0 := thE_mk hz hb hd (page_in (by omega))
      obtain ⟨g1, -, -, -, l', g5⟩ := goT_good hth hg
      rw [runW_page (s := ⟨ns, b, dat, tch⟩) hx hg]
      obtain ⟨b', tch', hr⟩ := read_run (ds := ds) (o := o) Y hz hd m (x + 1) (Y (x / 8)) c (dat ++ [nth ns (plc (Y (x / 8)) x).toNat]) (tch ++ [(d, (x : Int), plc (Y (x / 8)) x, false, nth ns (plc (Y (x / 8)) x).toNat)]) g1 (by omega) (by
          by_cases h8 : (x + 1) % 8 = 0
          · exact .inl (.inr h8)
          · exact .inr (by rw [show (x + 1) / 8 = x / 8 by omega])) (fun j hj => by
          obtain ⟨a1, a2⟩ := hy (j + 1) (by omega)
          rw [show x + (j + 1) = x + 1 + j by omega] at a1 a2
          exact ⟨goT_stay hth (page_in (x := x + 1 + j) (by omega)) hg a1 a2, by rw [g5]; exact a2⟩)
      refine ⟨b', tch', ?_⟩
      rw [hrng, ← hsum, ← List.append_assoc, ← hr]
      rfl
    · have hk' : k = Y (x / 8) := by
        rcases hk with h | h
        · exact absurd h hx
        · exact h
      subst hk'
      rw [runW_word hx]
      obtain ⟨b', tch', hr⟩ := read_run (ds := ds) (o := o) Y hz hd m (x + 1) (Y (x / 8)) b (dat ++ [nth ns (plc (Y (x / 8)) x).toNat]) (tch ++ [(d, (x : Int), plc (Y (x / 8)) x, false, nth ns (plc (Y (x / 8)) x).toNat)]) hb (by omega) (by
          by_cases h8 : (x + 1) % 8 = 0
          · exact .inl (.inr h8)
          · exact .inr (by rw [show (x + 1) / 8 = x / 8 by omega])) (fun j hj => by
          obtain ⟨a1, a2⟩ := hy (j + 1) (by omega)
          rw [show x + (j + 1) = x + 1 + j by omega] at a1 a2
          exact ⟨a1, a2⟩)
      refine ⟨b', tch', ?_⟩
      rw [hrng, ← hsum, ← List.append_assoc, ← hr]
      rfl
end Go.Proofs.Ytefcdcneenjbgab
/-
  Behind a burst that wrote all its words, at places unlike each other, a burst that reads the same words tells them again, if each of its pages comes there still, by memory and by what is remembered (what DmaBack asks, numbers alone).
-/
namespace Go.Proofs.Ytefcdcneenjbgab
open Go.RowKit

/-- A touch lies in its page where its word was seen in its own. -/
def ModI (o : Nat) (tch : List Tc) : Prop := ∀ j, j < tch.length → (tth tch j).2.2.1 % 8 = (((o + j) % 8 : Nat) : Int)
theorem ModI.word {d : Int} {wr : Bool} {ds : List Int} {o x : Nat} {k : Int} {s : St} (h : ModI o s.tch) (hx : x = o + s.tch.length) : ModI o (wd d wr ds o k x s).tch := by
  intro j hj
  have hl : (wd d wr ds o k x s).tch.length = s.tch.length + 1 := by simp [wd]
  rw [hl] at hj
  simp only [wd]
  by_cases e : j < s.tch.length
  · rw [tth_left e]; exact h j e
  · obtain rfl : j = s.tch.length := by omega
    rw [tth_last]
    simp only [plc]
    omega
theorem runW_mod {d : Int} {wr : Bool} {ds : List Int} {o : Nat} : ∀ (m x : Nat) (k : Int) (s s' : St) (f : Int), ModI o s.tch → x = o + s.tch.length → runW d wr ds o m x k s = (s', f) → ModI o s'.tch
  | 0, x, k, s, s', f, h, hx, e => by
    rw [runW_zero, Prod.mk.injEq] at e
    rw [← e.1]; exact h
  | m + 1, x, k, s, s', f, h, hx, e => by
    have hl : ∀ k (s : St), (wd d wr ds o k x s).tch.length = s.tch.length + 1 := fun k s => by simp [wd]
    by_cases hp : x = o ∨ x % 8 = 0
    · obtain ⟨⟨c, k', f'⟩, hg⟩ : ∃ R, goT s.zs s.b d ((x / 8 : Nat) : Int) wr = R := ⟨_, rfl⟩
      by_cases hf : f' = 0
      · subst hf
        rw [runW_page hp hg] at e
        exact runW_mod m (x + 1) k' _ s' f (ModI.word (s := ⟨s.zs, c, s.dat, s.tch⟩) h hx) (by rw [hl]; show x + 1 = o + (s.tch.length + 1); omega) e
      · rw [runW_fault hp hg hf, Prod.mk.injEq] at e
        rw [← e.1]; exact h
    · rw [runW_word hp] at e
      exact runW_mod m (x + 1) k _ s' f (h.word hx) (by rw [hl]; omega) e

theorem map_nth (ds : List Int) : (List.range ds.length).map (nth ds) = ds := by
  apply List.ext_getElem
  · simp
  · intro i h1 h2
    simp [nth, h2]

/-- What a burst that wrote all its words left. -/
theorem do_wrote {zs : List Int} {b c : Br} {d : Int} {o cnt : Nat} {ds ns dat : List Int} {tch : List Tc} (hE : doE zs b d o cnt true ds = 0) (hR : doR zs b d o cnt true ds = (⟨ns, c, dat, tch⟩, 0)) :
    chk ns = 0 ∧ chkB c = 0 ∧ tch.length = cnt ∧ ds.length = cnt ∧ ModI o tch ∧ (∀ j, j < cnt → ∃ p z : Int, (0 ≤ p ∧ p < 512) ∧ tth tch j = (d, (o : Int) + j, p, true, z)) ∧
    ((∀ i j, i < j → j < cnt → (tth tch i).2.2.1 ≠ (tth tch j).2.2.1) → ∀ k, k < cnt → nth ns (tth tch k).2.2.1.toNat = nth ds k) := by
  obtain ⟨h1, h2, h3, h4, h5, -, -, h8, h9, -, h11⟩ := do_held hE hR
  obtain ⟨hz, hb, hc⟩ := doE_ok hE
  obtain ⟨hn, hd, ha, hln, hal⟩ := ckA_ok hc
  have hl : tch.length = cnt := by
    rw [decide_eq_true rfl] at h5
    have := of_decide_eq_true h5.symm
    omega
  have hdl : ds.length = cnt := by simp only [needA, if_true] at hln; omega
  have hm : ns = rep zs ds tch tch.length := by
    rcases h11 with ⟨-, h, -⟩ | ⟨h, -⟩ | ⟨h, -⟩
    · exact h
    · exact absurd rfl h
    · exact absurd rfl h
  have hmod : ModI o tch := by
    rw [doR, if_pos hE, Int.toNat_natCast, Int.toNat_natCast] at hR
    exact runW_mod cnt o 0 ⟨zs, b, [], []⟩ _ _ (fun j hj => absurd hj (Nat.not_lt_zero _)) rfl hR
  refine ⟨h1, h2, hl, hdl, hmod, fun j hj => ?_, fun hu k hk => ?_⟩
  · obtain ⟨p, hp, e⟩ := h8 j (by omega)
    exact ⟨p, _, hp, e⟩
  · rw [hm, hl]
    refine rep_at (chk_ok hz).1 cnt (fun j hj => ?_) hu k hk
    obtain ⟨p, hp, e⟩ := h8 j (by omega)
    rw [e]; exact ⟨rfl, hp⟩
/-- The burst that reads. -/
theorem do_back {zs : List Int} {b c : Br} {d : Int} {o cnt : Nat} {ds ns dat : List Int} {tch : List Tc} (hE : doE zs b d o cnt true ds = 0) (hR : doR zs b d o cnt true ds = (⟨ns, c, dat, tch⟩, 0)) (hu : ∀ i j, i < j → j < cnt → (tth tch i).2.2.1 ≠ (tth tch j).2.2.1)
    (hgo : ∀ k, k < cnt → (goT ns c d (((o + k) / 8 : Nat) : Int) false).2 = ((tth tch k).2.2.1 / 8, 0) ∧ (goT ns (c.with []) d (((o + k) / 8 : Nat) : Int) false).2 = ((tth tch k).2.2.1 / 8, 0)) :
    doE ns c d o cnt false [] = 0 ∧ ∃ b' tch', doR ns c d o cnt false [] = (⟨ns, b', ds, tch'⟩, 0) := by
  obtain ⟨h1, h2, hl, hdl, hmod, heach, hat⟩ := do_wrote hE hR
  obtain ⟨hz, hb, hc⟩ := doE_ok hE
  obtain ⟨hn, hd, ha, -, -⟩ := ckA_ok hc
  have hE2 : doE ns c d o cnt false [] = 0 := doE_mk h1 h2 (ckA_mk hn hd ha rfl rfl)
  refine ⟨hE2, ?_⟩
  rw [doR, if_pos hE2, Int.toNat_natCast, Int.toNat_natCast]
  have hY : ∀ k, k < cnt → (goT ns c d (((o + k) / 8 : Nat) : Int) false).2.1 = (tth tch k).2.2.1 / 8 := fun k hk => by rw [(hgo k hk).1]
  obtain ⟨b', tch', hr⟩ := read_run (ds := []) (o := o) (fun q => (goT ns c d (q : Int) false).2.1) h1 hd cnt o 0 c [] [] h2 (by omega) (.inl (.inl rfl)) (fun k hk => by
    obtain ⟨g1, g2⟩ := hgo k hk
    exact ⟨by rw [g1], by rw [g2, hY k hk]⟩)
  refine ⟨b', tch', ?_⟩
  rw [hr, List.nil_append]
  have hds : (List.range cnt).map (fun j => nth ns (plc (goT ns c d (((o + j) / 8 : Nat) : Int) false).2.1 (o + j)).toNat) = ds := by
    rw [← hdl]
    conv => rhs; rw [← map_nth ds]
    refine List.map_congr_left (fun k hk => ?_)
    have hk : k < cnt := by rw [← hdl]; exact List.mem_range.1 hk
    rw [hY k hk, ← hat hu k hk]
    have hm := hmod k (by omega)
    obtain ⟨p, z, hp, e⟩ := heach k hk
    rw [e] at hm ⊢
    simp only at hm ⊢
    congr 2
    unfold plc
    omega
  rw [hds]
end Go.Proofs.Ytefcdcneenjbgab
