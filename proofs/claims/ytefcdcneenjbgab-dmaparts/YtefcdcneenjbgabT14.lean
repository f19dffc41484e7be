/-
  Laid together: PartsWalk, Open0, Open, OpenO.
-/
import Derived.Test.YtefcdcneenjbgabT13
import Derived.ProofKit
import Derived.OpenShut
import Derived.ShutString
import Derived.ChangeOld
/-
  The walk of DmaParts.
-/
namespace Go.Proofs.Ytefcdcneenjbgab
open Go.RowKit

def own_unlikeP (v u : Value) : Prop := ∀ q, v.ownBlock = some q → u.ownBlock ≠ some q
theorem KeptB.mono {may may' : Nat → Prop} {a w : World} (h : KeptB may a w) (hm : ∀ q, may q → may' q) : KeptB may' a w := ⟨h.os, h.tape, h.output, h.size, fun q hq hn => h.block q hq (fun e => hn (hm q e))⟩
theorem Ls.blockP {w : World} {a : Option Addr} {n c : Nat} {l : List Ln} (h : Ls w (.slice a n c) l) : l = [] ∨ ∀ q, (Value.slice a n c).ownBlock = some q → q < w.heap.size := by
  obtain ⟨a', c', e, _, _, h⟩ := h
  simp only [Value.slice.injEq] at e
  obtain ⟨rfl, -, -⟩ := e
  rcases h with h | ⟨b, o, rfl, hb, _⟩
  · exact .inl h
  · exact .inr fun q hq => by simp [Value.ownBlock] at hq; omega

/-- What the rounds keep. -/
def RelP (W : World) (m k T : Nat) (d : Int) (fw : Bool) (ds : List Int) (o cnt : Nat) (R : St × Int) (i : Nat) (wx : World) : Prop :=
  ∃ zj aj cj mo2 ba2 op2 oh2 ot2 fe2 fp2 fh2 ft2 st2 lo2 va2 vk2 l2 dat tch vd vt ud uf,
    Box wx m 39 #[.slice aj (List.length zj) cj] ∧ Box wx k 44 #[.int .i64 mo2, .int .i64 ba2, .slice va2 l2.length vk2, .int .i64 op2, .int .i64 oh2, .int .i64 ot2, .bool st2, .int .i64 fe2, .int .i64 fp2, .int .i64 fh2, .int .i64 ft2, .bool lo2] ∧ Box wx T 82 #[.bool ud, vd, .int .i64 uf, vt] ∧
    Sl wx (.slice aj zj.length cj) zj ∧ Ls wx (.slice va2 (List.length l2) vk2) l2 ∧ OwnI wx W.heap.size vd dat ∧ OwnT wx W.heap.size vt tch ∧
    (∀ g, vd.ownBlock = some g → (zj = [] ∨ (Value.slice aj zj.length cj).ownBlock ≠ some g) ∧ (l2 = [] ∨ (Value.slice va2 l2.length vk2).ownBlock ≠ some g)) ∧
    (∀ g, vt.ownBlock = some g → (zj = [] ∨ (Value.slice aj zj.length cj).ownBlock ≠ some g) ∧ (l2 = [] ∨ (Value.slice va2 l2.length vk2).ownBlock ≠ some g)) ∧
    ((uf = 0 ∧ chk zj = 0 ∧ chkB ⟨mo2, ba2, l2, op2, oh2, ot2, st2, fe2, fp2, fh2, ft2, lo2⟩ = 0 ∧ (i = 0 ∨ cnt - i = 0 ∨ (o + i) % 8 = 0) ∧ runW d fw ds o (cnt - i) (o + i) 0 ⟨zj, ⟨mo2, ba2, l2, op2, oh2, ot2, st2, fe2, fp2, fh2, ft2, lo2⟩, dat, tch⟩ = R) ∨ (¬ uf = 0 ∧ R = (⟨zj, ⟨mo2, ba2, l2, op2, oh2, ot2, st2, fe2, fp2, fh2, ft2, lo2⟩, dat, tch⟩, uf))) ∧
    (i = 0 ∧ uf = 0 ∨ ud = decide (uf = 0)) ∧ dat.length ≤ i ∧ tch.length ≤ i ∧ Below W.heap.size W wx

set_option maxRecDepth 10000 in
set_option maxHeartbeats 8000000 in
theorem dmaParts_walk (v : Value) (zs : List Int) (mo ba op oh ot fe fp fh ft : Int) (st lo : Bool) (vc : Value) (l : List Ln) (d a n : Int) (fw : Bool) (u : Value) (ds : List Int) (w : World) (hs : Sl w v zs) (h : Ls w vc l) (hd0 : Slc w u ds) :
    Calls Try.prog 13 #[.agg #[v], .agg #[.int .i64 mo, .int .i64 ba, vc, .int .i64 op, .int .i64 oh, .int .i64 ot, .bool st, .int .i64 fe, .int .i64 fp, .int .i64 fh, .int .i64 ft, .bool lo], .agg #[.int .i64 d, .int .i64 a, .int .i64 n, .bool fw, u]] w fun e w' => e = .returned (.bool true) ∧ Below w.heap.size w w' := by
  have HS : Hid (Ls w vc l) := h
  obtain ⟨va, vk, rfl, -⟩ := h.shape
  have HM : Hid (Sl w v zs) := hs
  obtain ⟨ma, mc, rfl⟩ := hs.shape
  obtain ⟨hd, da, dc, rfl, hdc, hdm⟩ := hd0
  have HD : Hid (Sl w (.slice da ds.length dc) ds) := hd
  have HDC : Hid (ds.length ≤ dc ∧ dc ≤ maxLen) := ⟨hdc, hdm⟩
  clear hdc hdm
  clear h hs hd
  obtain ⟨E, hE⟩ : ∃ E, doE zs ⟨mo, ba, l, op, oh, ot, st, fe, fp, fh, ft, lo⟩ d a n fw ds = E := ⟨_, rfl⟩
  obtain ⟨⟨⟨ms, ⟨mo1, ba1, l1, op1, oh1, ot1, st1, fe1, fp1, fh1, ft1, lo1⟩, dat, tch⟩, f⟩, hR⟩ : ∃ R, doR zs ⟨mo, ba, l, op, oh, ot, st, fe, fp, fh, ft, lo⟩ d a n fw ds = R := ⟨_, rfl⟩
  obtain ⟨dn, hdn⟩ : ∃ dn, (decide (E = 0) && decide (f = 0)) = dn := ⟨_, rfl⟩
  have HE : Hid (_ = E) := hE
  have HR : Hid (_ = _) := hR
  have HDN : Hid (_ = dn) := hdn
  clear hE hR hdn
  have B0 : Hid (Below w.heap.size w _) := bel_alloc (bel_alloc (bel_alloc (Below.refl w.heap.size w) (.cells #[.slice ma zs.length mc] 39)) (.cells #[.int .i64 mo, .int .i64 ba, .slice va l.length vk, .int .i64 op, .int .i64 oh, .int .i64 ot, .bool st, .int .i64 fe, .int .i64 fp, .int .i64 fh, .int .i64 ft, .bool lo] 44)) (.cells #[.int .i64 d, .int .i64 a, .int .i64 n, .bool fw, .slice da ds.length dc] 79)
  go_enter Try.func13, Try.ntmps13
  go_wp2_with fail
  refine (do_at (HM.out.keep B0.out) (HS.out.keep B0.out) (HD.out.keep B0.out) HE.out HR.out HDN.out).mono ?_
  rintro e w2 ⟨ma1, mc1, va1, vk1, da1, dc1, ta1, tc1, rfl, hS2, hL2, hD2, hT2, b2, -, -, -, -⟩
  have X0 := (((Box.newAt (n := w.heap.size) rfl 39 #[.slice ma zs.length mc]).past _).past _).keep b2
  have X1 := ((Box.newAt (n := w.heap.size + 1) (by simp) 44 #[.int .i64 mo, .int .i64 ba, .slice va l.length vk, .int .i64 op, .int .i64 oh, .int .i64 ot, .bool st, .int .i64 fe, .int .i64 fp, .int .i64 fh, .int .i64 ft, .bool lo]).past _).keep b2
  have X2 := (Box.newAt (n := w.heap.size + 1 + 1) (by simp) 79 #[.int .i64 d, .int .i64 a, .int .i64 n, .bool fw, .slice da ds.length dc]).keep b2
  have B2 : Hid (Below w.heap.size w w2) := bel_trans B0.out b2
  have BA : Hid (Below w2.heap.size w2 (((w2.alloc (.cells #[.slice ma1 ms.length mc1] 39)).alloc (.cells #[.int .i64 mo1, .int .i64 ba1, .slice va1 l1.length vk1, .int .i64 op1, .int .i64 oh1, .int .i64 ot1, .bool st1, .int .i64 fe1, .int .i64 fp1, .int .i64 fh1, .int .i64 ft1, .bool lo1] 44)).alloc (.cells #[.bool dn, .slice da1 dat.length dc1, .int .i64 f, .slice ta1 tch.length tc1] 82))) := bel_alloc (bel_alloc (bel_alloc (Below.refl _ _) _) _) _
  have P0 := ((Box.newAt (w := w2) rfl 39 #[.slice ma1 ms.length mc1]).past (.cells #[.int .i64 mo1, .int .i64 ba1, .slice va1 l1.length vk1, .int .i64 op1, .int .i64 oh1, .int .i64 ot1, .bool st1, .int .i64 fe1, .int .i64 fp1, .int .i64 fh1, .int .i64 ft1, .bool lo1] 44)).past (.cells #[.bool dn, .slice da1 dat.length dc1, .int .i64 f, .slice ta1 tch.length tc1] 82)
  have P1 := (Box.newAt (w := w2.alloc (.cells #[.slice ma1 ms.length mc1] 39)) (n := w2.heap.size + 1) (by simp) 44 #[.int .i64 mo1, .int .i64 ba1, .slice va1 l1.length vk1, .int .i64 op1, .int .i64 oh1, .int .i64 ot1, .bool st1, .int .i64 fe1, .int .i64 fp1, .int .i64 fh1, .int .i64 ft1, .bool lo1]).past (.cells #[.bool dn, .slice da1 dat.length dc1, .int .i64 f, .slice ta1 tch.length tc1] 82)
  have P2 := Box.newAt (w := (w2.alloc (.cells #[.slice ma1 ms.length mc1] 39)).alloc (.cells #[.int .i64 mo1, .int .i64 ba1, .slice va1 l1.length vk1, .int .i64 op1, .int .i64 oh1, .int .i64 ot1, .bool st1, .int .i64 fe1, .int .i64 fp1, .int .i64 fh1, .int .i64 ft1, .bool lo1] 44)) (n := w2.heap.size + 1 + 1) (by simp) 82 #[.bool dn, .slice da1 dat.length dc1, .int .i64 f, .slice ta1 tch.length tc1]
  have HSn : Hid (Sl (((w2.alloc (.cells #[.slice ma1 ms.length mc1] 39)).alloc (.cells #[.int .i64 mo1, .int .i64 ba1, .slice va1 l1.length vk1, .int .i64 op1, .int .i64 oh1, .int .i64 ot1, .bool st1, .int .i64 fe1, .int .i64 fp1, .int .i64 fh1, .int .i64 ft1, .bool lo1] 44)).alloc (.cells #[.bool dn, .slice da1 dat.length dc1, .int .i64 f, .slice ta1 tch.length tc1] 82)) _ ms) := hS2.keep BA.out
  have HLn : Hid (Ls (((w2.alloc (.cells #[.slice ma1 ms.length mc1] 39)).alloc (.cells #[.int .i64 mo1, .int .i64 ba1, .slice va1 l1.length vk1, .int .i64 op1, .int .i64 oh1, .int .i64 ot1, .bool st1, .int .i64 fe1, .int .i64 fp1, .int .i64 fh1, .int .i64 ft1, .bool lo1] 44)).alloc (.cells #[.bool dn, .slice da1 dat.length dc1, .int .i64 f, .slice ta1 tch.length tc1] 82)) _ l1) := hL2.keep BA.out
  have HDn : Hid (Sl (((w2.alloc (.cells #[.slice ma1 ms.length mc1] 39)).alloc (.cells #[.int .i64 mo1, .int .i64 ba1, .slice va1 l1.length vk1, .int .i64 op1, .int .i64 oh1, .int .i64 ot1, .bool st1, .int .i64 fe1, .int .i64 fp1, .int .i64 fh1, .int .i64 ft1, .bool lo1] 44)).alloc (.cells #[.bool dn, .slice da1 dat.length dc1, .int .i64 f, .slice ta1 tch.length tc1] 82)) _ dat) := hD2.keep BA.out
  have HTn : Hid (Ts (((w2.alloc (.cells #[.slice ma1 ms.length mc1] 39)).alloc (.cells #[.int .i64 mo1, .int .i64 ba1, .slice va1 l1.length vk1, .int .i64 op1, .int .i64 oh1, .int .i64 ot1, .bool st1, .int .i64 fe1, .int .i64 fp1, .int .i64 fh1, .int .i64 ft1, .bool lo1] 44)).alloc (.cells #[.bool dn, .slice da1 dat.length dc1, .int .i64 f, .slice ta1 tch.length tc1] 82)) _ tch) := hT2.keep BA.out
  have BB : Hid (Below w.heap.size w (((w2.alloc (.cells #[.slice ma1 ms.length mc1] 39)).alloc (.cells #[.int .i64 mo1, .int .i64 ba1, .slice va1 l1.length vk1, .int .i64 op1, .int .i64 oh1, .int .i64 ot1, .bool st1, .int .i64 fe1, .int .i64 fp1, .int .i64 fh1, .int .i64 ft1, .bool lo1] 44)).alloc (.cells #[.bool dn, .slice da1 dat.length dc1, .int .i64 f, .slice ta1 tch.length tc1] 82))) := bel_trans B2.out BA.out
  replace X0 := X0.keep BA.out
  replace X1 := X1.keep BA.out
  replace X2 := X2.keep BA.out
  have zN : w.heap.size + 1 + 1 < w2.heap.size := by have := b2.size; simp at this; omega
  clear hS2 hL2 hD2 hT2 b2 B0 B2 BA
  go_wp2_with fail
  generalize (((w2.alloc (.cells #[.slice ma1 ms.length mc1] 39)).alloc (.cells #[.int .i64 mo1, .int .i64 ba1, .slice va1 l1.length vk1, .int .i64 op1, .int .i64 oh1, .int .i64 ot1, .bool st1, .int .i64 fe1, .int .i64 fp1, .int .i64 fh1, .int .i64 ft1, .bool lo1] 44)).alloc (.cells #[.bool dn, .slice da1 dat.length dc1, .int .i64 f, .slice ta1 tch.length tc1] 82)) = W at *
  generalize w2.heap.size = P at *
  refine (carried_true _).mono ?_
  rintro e w3 ⟨rfl, b3⟩
  by_cases hE0 : E = 0
  rotate_left
  · have hq : (E != 0) = true := by simpa using hE0
    have B3 : Hid (Below w.heap.size w w3) := bel_trans BB.out b3
    clear b3 X0 X1 X2 P0 P1 P2
    go_wp2_with fail
    refine (carried_true _).mono ?_
    rintro e w4 ⟨rfl, b4⟩
    have B4 : Hid (Below w.heap.size w w4) := bel_trans B3.out b4
    clear b4
    go_wp2
    go_ret
    exact ⟨rfl, B4.out⟩
  subst hE0
  obtain ⟨hz0, hb0, hc0⟩ := doE_ok HE.out
  obtain ⟨g1, g2, g3, g4, g5⟩ := ckA_ok hc0
  obtain ⟨o, rfl⟩ : ∃ o : Nat, a = o := ⟨a.toNat, by omega⟩
  obtain ⟨cnt, rfl⟩ : ∃ c : Nat, n = c := ⟨n.toNat, by omega⟩
  have hdn0 : dn = decide (f = 0) := by rw [← HDN.out]; simp
  subst hdn0
  have HRR : Hid (runW d fw ds o cnt o 0 ⟨zs, ⟨mo, ba, l, op, oh, ot, st, fe, fp, fh, ft, lo⟩, [], []⟩ = (⟨ms, ⟨mo1, ba1, l1, op1, oh1, ot1, st1, fe1, fp1, fh1, ft1, lo1⟩, dat, tch⟩, f)) := by
    have := HR.out
    rw [doR, if_pos HE.out] at this
    show _ = _
    simpa using this
  have HG1 : Hid (1 ≤ cnt ∧ cnt ≤ 20 ∧ o + cnt ≤ 512) := by show _ ∧ _; omega
  have HG2 : Hid (0 ≤ d ∧ d ≤ 7) := g2
  have HG4 : Hid ((ds.length : Int) = needA fw cnt) := g4
  have HG5 : Hid (ds.all wordB = true) := g5
  have HZ0 : Hid (chk zs = 0) := hz0
  have HB0 : Hid (chkB ⟨mo, ba, l, op, oh, ot, st, fe, fp, fh, ft, lo⟩ = 0) := hb0
  clear hz0 hb0 hc0 g1 g2 g3 g4 g5 HR HDN HE
  replace X0 := X0.keep b3
  replace X1 := X1.keep b3
  replace X2 := X2.keep b3
  replace P0 := P0.keep b3
  replace P1 := P1.keep b3
  replace P2 := P2.keep b3
  have HS3 : Hid (Sl w3 _ ms) := HSn.out.keep b3
  have HL3 : Hid (Ls w3 _ l1) := HLn.out.keep b3
  have HD3 : Hid (Sl w3 _ dat) := HDn.out.keep b3
  have HT3 : Hid (Ts w3 _ tch) := HTn.out.keep b3
  have B3 : Hid (Below w.heap.size w w3) := bel_trans BB.out b3
  clear b3 HSn HLn HDn HTn BB
  obtain ⟨W3, rfl⟩ : ∃ W3, W3 = w3 := ⟨_, rfl⟩
  obtain ⟨m0, -, s0⟩ := X0.one
  obtain ⟨⟨q0, q1, q2, q3, q4, q5, q6, q7, q8, q9, q10, q11⟩, sq⟩ := X1.twelve
  go_upto_region 4 with fail
  go_cut [11, 12] from 37 to 38 (fun s y wx => ∃ m k, s = .pointer (some ⟨m, 0, none⟩) ∧ y = .pointer (some ⟨k, 0, none⟩) ∧ Box wx m 39 #[.slice ma zs.length mc] ∧ Box wx k 44 #[.int .i64 mo, .int .i64 ba, .slice va l.length vk, .int .i64 op, .int .i64 oh, .int .i64 ot, .bool st, .int .i64 fe, .int .i64 fp, .int .i64 fh, .int .i64 ft, .bool lo] ∧ m ≠ k ∧ W3.heap.size ≤ m ∧ W3.heap.size ≤ k ∧ Below W3.heap.size W3 wx)
  case first =>
    go_region
    · go_wp2_with fail
      go_meet
      exact ⟨_, _, rfl, rfl, ((Box.newAt rfl _ _).past _).drew, (Box.newAt (by simp) _ _).drew, by omega, Nat.le_refl _, by omega, Below.drew (bel_alloc (bel_alloc (Below.refl _ _) _) _)⟩
    · go_wp2_with fail
      go_meet
      exact ⟨_, _, rfl, rfl, (Box.newAt (by simp) _ _).drew, ((Box.newAt rfl _ _).past _).drew, by omega, by omega, Nat.le_refl _, Below.drew (bel_alloc (bel_alloc (Below.refl _ _) _) _)⟩
  case rest =>
    obtain ⟨m, k, rfl, rfl, XM, XK, hmk, hm, hk, Bc⟩ := hcut
    clear m0 s0 q0 q1 q2 q3 q4 q5 q6 q7 q8 q9 q10 q11 sq X0 X1
    have HR0 : Hid (RelP W3 m k wc.heap.size d fw ds o cnt (⟨ms, ⟨mo1, ba1, l1, op1, oh1, ot1, st1, fe1, fp1, fh1, ft1, lo1⟩, dat, tch⟩, f) 0 (wc.alloc (.cells #[.bool false, .slice none 0 0, .int .i64 0, .slice none 0 0] 82))) := by
      have hb := bel_alloc Bc (.cells #[.bool false, .slice none 0 0, .int .i64 0, .slice none 0 0] 82)
      refine ⟨zs, ma, mc, mo, ba, op, oh, ot, fe, fp, fh, ft, st, lo, va, vk, l, [], [], .slice none 0 0, .slice none 0 0, false, 0, XM.past _, XK.past _, Box.newAt rfl _ _, HM.out.keep (bel_trans B3.out hb), HS.out.keep (bel_trans B3.out hb), OwnI.nothing _ _, OwnT.nothing _ _, fun g hg => by simp [Value.ownBlock] at hg, fun g hg => by simp [Value.ownBlock] at hg, .inl ⟨rfl, HZ0.out, HB0.out, .inl rfl, HRR.out⟩, .inl ⟨rfl, rfl⟩, Nat.zero_le _, Nat.zero_le _, hb⟩
    have hWT : W3.heap.size ≤ wc.heap.size := Bc.size
    have hmT : m < wc.heap.size := XM.lt
    have hkT : k < wc.heap.size := XK.lt
    have h2W : w.heap.size + 1 + 1 < W3.heap.size := X2.lt
    have hPW : P + 1 + 1 < W3.heap.size := P2.lt
    clear XM XK Bc HZ0 HB0 HRR HS HM
    go_wp2
    generalize (wc.alloc (.cells #[.bool false, .slice none 0 0, .int .i64 0, .slice none 0 0] 82)) = wA at *
    generalize wc.heap.size = T at *
    go_loopw [14, 15, 16, 17, 18, 19, 20] (fun s14 _ _ _ _ _ _ wx => ∃ i : Nat, s14 = .int .i64 i ∧ i ≤ cnt ∧ RelP W3 m k T d fw ds o cnt (⟨ms, ⟨mo1, ba1, l1, op1, oh1, ot1, st1, fe1, fp1, fh1, ft1, lo1⟩, dat, tch⟩, f) i wx) (fun s14 _ _ _ _ _ _ _ => cnt - (intOf s14).toNat)
    case atStart => exact ⟨0, rfl, Nat.zero_le _, HR0.out⟩
    case round =>
      clear HR0
      obtain ⟨i, rfl, hi, zj, aj, cj, mo2, ba2, op2, oh2, ot2, fe2, fp2, fh2, ft2, st2, lo2, va2, vk2, l2, datj, tchj, vd, vt, ud, uf, XM, XK, XT, hSj, hLj, hOI, hOT, ap1, ap2, hway, hud, hdl, htl, hB⟩ := hrel
      obtain ⟨dj, ej, rfl⟩ := hOI.shape
      obtain ⟨tj, gj, rfl⟩ := hOT.shape
      have HSj : Hid (Sl wr _ zj) := hSj
      have HLj : Hid (Ls wr _ l2) := hLj
      have HOI : Hid (OwnI wr _ _ datj) := hOI
      have HOT : Hid (OwnT wr _ _ tchj) := hOT
      have AP1 : Hid (∀ g, _ → _) := ap1
      have AP2 : Hid (∀ g, _ → _) := ap2
      have HWY : Hid (_ ∨ _) := hway
      have HUD : Hid (_ ∨ _) := hud
      have HB : Hid (Below W3.heap.size W3 wr) := hB
      have HLD : Hid (datj.length ≤ i ∧ tchj.length ≤ i) := ⟨hdl, htl⟩
      have hc20 : cnt ≤ 20 := HG1.out.2.1
      have ho5 : o + cnt ≤ 512 := HG1.out.2.2
      have XA := X2.keep hB
      clear hSj hLj hOI hOT ap1 ap2 hway hud hB hdl htl
      obtain ⟨c0, c1, c2, c3, c4⟩ := XA.blk.five
      obtain ⟨f0, f1, f2, f3, -, -, -, -, sf⟩ := XT.four
      have sA := XA.lt
      by_cases hgo : i < cnt ∧ uf = 0
      rotate_left
      focus
        have hEnd : Hid ((⟨ms, ⟨mo1, ba1, l1, op1, oh1, ot1, st1, fe1, fp1, fh1, ft1, lo1⟩, dat, tch⟩, f) = ((⟨zj, ⟨mo2, ba2, l2, op2, oh2, ot2, st2, fe2, fp2, fh2, ft2, lo2⟩, datj, tchj⟩, uf) : St × Int)) := by
          show _ = _
          rcases HWY.out with ⟨h1, -, -, -, h2⟩ | ⟨-, h2⟩
          · rw [show cnt - i = 0 by omega, runW_zero] at h2
            rw [← h2, h1]
          · exact h2
        have hE2 := hEnd.out
        simp only [Prod.mk.injEq, St.mk.injEq, Br.mk.injEq] at hE2
        obtain ⟨⟨rfl, ⟨rfl, rfl, rfl, rfl, rfl, rfl, rfl, rfl, rfl, rfl, rfl, rfl⟩, rfl, rfl⟩, rfl⟩ := hE2
        have hud : ud = decide (f = 0) := by
          rcases HUD.out with ⟨h1, h2⟩ | h
          · exfalso
            have := HG1.out.1
            omega
          · exact h
        subst hud
        clear hEnd HWY HUD AP1 AP2
        obtain ⟨m0, -, s0⟩ := XM.one
        obtain ⟨p0, -, r0⟩ := (P0.keep HB.out).one
        have hx : i < cnt ∧ ¬ f = 0 ∨ ¬ i < cnt := by omega
        have HAn : Hid (OwnI wr _ _ dat) := HOI
        have CE := same_any _ _ ms ms wr (HS3.out.keep HB.out) HSj.out
        rw [decide_eq_true rfl] at CE
        rcases hx with ⟨h1, h2⟩ | h1
        · have h1' : (i : Int) < cnt := by omega
          have h2' : (f == 0) = false := by simpa using h2
          go_wp2_with fail
          refine CE.mono ?_
          rintro e w5 ⟨rfl, b5⟩
          have B5 := bel_trans HB.out b5
          have Y1 := P1.keep B5
          have Y2 := P2.keep B5
          have YK := XK.keep b5
          have YT := XT.keep b5
          have L5 := HL3.out.keep B5
          have K5 := HLj.out.keep b5
          have D5 : Hid (Sl w5 _ dat) := HD3.out.keep B5
          have T5 : Hid (Ts w5 _ tch) := HT3.out.keep B5
          have DJ5 : Hid (Sl w5 _ dat) := (HOI.out.sl (by unfold maxLen; have := HLD.out; omega)).keep b5
          have TJ5 : Hid (Ts w5 _ tch) := HOT.out.ls.keep b5
          have BW5 : Hid (Below w.heap.size w w5) := bel_trans B3.out B5
          clear CE XM XK XT XA c0 c1 c2 c3 c4 f0 f1 f2 f3 sf sA m0 s0 p0 r0 P0 P1 P2 HAn HOI HOT HSj b5 B5
          obtain ⟨⟨q0, q1, q2, q3, q4, q5, q6, q7, q8, q9, q10, q11⟩, sq⟩ := Y1.twelve
          obtain ⟨⟨t0, t1, t2, t3, t4, t5, t6, t7, t8, t9, t10, t11⟩, st5⟩ := YK.twelve
          go_wp2_with fail
          clear q0 q1 q2 q3 q4 q5 q6 q7 q8 q9 q10 q11 sq t0 t1 t2 t3 t4 t5 t6 t7 t8 t9 t10 t11 st5
          refine (bSame_any _ _ _ _ _ _ _ _ _ _ _ _ l1 _ _ _ _ _ _ _ _ _ _ _ _ l1 w5 L5 K5).mono ?_
          rintro e w6 ⟨rfl, b6⟩
          rw [sameBr_self]
          replace Y2 := Y2.keep b6
          replace YT := YT.keep b6
          obtain ⟨q0, q1, q2, q3, -, -, -, -, sq⟩ := Y2.four
          obtain ⟨t0, t1, t2, t3, -, -, -, -, st5⟩ := YT.four
          go_wp2_with fail
          refine (sameTold_eq _ _ _ dat _ _ _ tch w6 (D5.out.keep b6) (DJ5.out.keep b6) (T5.out.keep b6) (TJ5.out.keep b6)).mono ?_
          rintro e w7 ⟨rfl, b7⟩
          go_wp2
          go_ret
          exact ⟨rfl, bel_trans (bel_trans BW5.out b6) b7⟩
        · have h1' : ¬ (i : Int) < cnt := by omega
          go_wp2_with fail
          refine CE.mono ?_
          rintro e w5 ⟨rfl, b5⟩
          have B5 := bel_trans HB.out b5
          have Y1 := P1.keep B5
          have Y2 := P2.keep B5
          have YK := XK.keep b5
          have YT := XT.keep b5
          have L5 := HL3.out.keep B5
          have K5 := HLj.out.keep b5
          have D5 : Hid (Sl w5 _ dat) := HD3.out.keep B5
          have T5 : Hid (Ts w5 _ tch) := HT3.out.keep B5
          have DJ5 : Hid (Sl w5 _ dat) := (HOI.out.sl (by unfold maxLen; have := HLD.out; omega)).keep b5
          have TJ5 : Hid (Ts w5 _ tch) := HOT.out.ls.keep b5
          have BW5 : Hid (Below w.heap.size w w5) := bel_trans B3.out B5
          clear CE XM XK XT XA c0 c1 c2 c3 c4 f0 f1 f2 f3 sf sA m0 s0 p0 r0 P0 P1 P2 HAn HOI HOT HSj b5 B5
          obtain ⟨⟨q0, q1, q2, q3, q4, q5, q6, q7, q8, q9, q10, q11⟩, sq⟩ := Y1.twelve
          obtain ⟨⟨t0, t1, t2, t3, t4, t5, t6, t7, t8, t9, t10, t11⟩, st5⟩ := YK.twelve
          go_wp2_with fail
          clear q0 q1 q2 q3 q4 q5 q6 q7 q8 q9 q10 q11 sq t0 t1 t2 t3 t4 t5 t6 t7 t8 t9 t10 t11 st5
          refine (bSame_any _ _ _ _ _ _ _ _ _ _ _ _ l1 _ _ _ _ _ _ _ _ _ _ _ _ l1 w5 L5 K5).mono ?_
          rintro e w6 ⟨rfl, b6⟩
          rw [sameBr_self]
          replace Y2 := Y2.keep b6
          replace YT := YT.keep b6
          obtain ⟨q0, q1, q2, q3, -, -, -, -, sq⟩ := Y2.four
          obtain ⟨t0, t1, t2, t3, -, -, -, -, st5⟩ := YT.four
          go_wp2_with fail
          refine (sameTold_eq _ _ _ dat _ _ _ tch w6 (D5.out.keep b6) (DJ5.out.keep b6) (T5.out.keep b6) (TJ5.out.keep b6)).mono ?_
          rintro e w7 ⟨rfl, b7⟩
          go_wp2
          go_ret
          exact ⟨rfl, bel_trans (bel_trans BW5.out b6) b7⟩
      obtain ⟨hlt, rfl⟩ := hgo
      have h1' : (i : Int) < cnt := by omega
      obtain ⟨hz2, hb2, hpg, hrun⟩ : chk zj = 0 ∧ chkB ⟨mo2, ba2, l2, op2, oh2, ot2, st2, fe2, fp2, fh2, ft2, lo2⟩ = 0 ∧ (i = 0 ∨ cnt - i = 0 ∨ (o + i) % 8 = 0) ∧ runW d fw ds o (cnt - i) (o + i) 0 ⟨zj, ⟨mo2, ba2, l2, op2, oh2, ot2, st2, fe2, fp2, fh2, ft2, lo2⟩, datj, tchj⟩ = (⟨ms, ⟨mo1, ba1, l1, op1, oh1, ot1, st1, fe1, fp1, fh1, ft1, lo1⟩, dat, tch⟩, f) := by
        rcases HWY.out with ⟨-, h⟩ | ⟨h, -⟩
        · exact h
        · exact absurd rfl h
      obtain ⟨j, hj⟩ : ∃ j, j = min (cnt - i) (8 - (o + i) % 8) := ⟨_, rfl⟩
      obtain ⟨hE, zs3, ⟨mo3, ba3, l3, op3, oh3, ot3, st3, fe3, fp3, fh3, ft3, lo3⟩, dat3, tch3, f3v, hR, hl3, hg3, hr3, hn3⟩ := part_step datj tchj HG2.out HG1.out.2.2 HG1.out.2.1 HG4.out HG5.out hz2 hb2 hlt (by omega) hj
      have HE : Hid (doE zj ⟨mo2, ba2, l2, op2, oh2, ot2, st2, fe2, fp2, fh2, ft2, lo2⟩ d ((o : Int) + i) j fw (prt fw ds i j) = 0) := by show _ = _; rw [← Int.natCast_add]; exact hE
      have HR : Hid (doR zj ⟨mo2, ba2, l2, op2, oh2, ot2, st2, fe2, fp2, fh2, ft2, lo2⟩ d ((o : Int) + i) j fw (prt fw ds i j) = (⟨zs3, ⟨mo3, ba3, l3, op3, oh3, ot3, st3, fe3, fp3, fh3, ft3, lo3⟩, dat3, tch3⟩, f3v)) := by show _ = _; rw [← Int.natCast_add]; exact hR
      have HL3' : Hid (dat3.length ≤ j ∧ tch3.length ≤ j) := hl3
      have HG3 : Hid (f3v = 0 → _) := hg3
      have HR3 : Hid (f3v = 0 → _) := hr3
      have HN3 : Hid (¬ f3v = 0 → _) := hn3
      have HRUN : Hid (_ = _) := hrun
      have HJ : Hid (j = min (cnt - i) (8 - (o + i) % 8)) := hj
      have hj0 : 0 < j ∧ i + j ≤ cnt ∧ j ≤ 8 := by omega
      clear hE hR hl3 hg3 hr3 hn3 hrun hz2 hb2 hpg hj
      go_upto_region 8 with fail
      go_cut [15] from 48 to 58 (fun s wx => s = .int .i64 j ∧ wx = wr)
      case first =>
        have hJ := HJ.out
        by_cases hm : (cnt : Int) - i ≤ 8 - ((o : Int) + i) % 8
        · have hm2 : ¬ 8 - ((o : Int) + i) % 8 < (cnt : Int) - i := by omega
          go_wp2
          all_goals (go_meet)
          all_goals (exact ⟨by congr 1; omega, rfl⟩)
        · have hm2 : 8 - ((o : Int) + i) % 8 < (cnt : Int) - i := by omega
          go_wp2
          all_goals (go_meet)
          all_goals (exact ⟨by congr 1; omega, rfl⟩)
      case rest =>
        obtain ⟨rfl, rfl⟩ := hcut
        obtain ⟨V, rfl⟩ : ∃ V, V = wc := ⟨wc, rfl⟩
        go_upto_if 70 with fail
        go_cut [16] from 71 to 78 (fun s wx => s = .pointer (some ⟨V.heap.size, 0, none⟩) ∧ ∃ a c, Box wx V.heap.size 79 #[.int .i64 d, .int .i64 ((o : Int) + i), .int .i64 j, .bool fw, .slice a (prt fw ds i j).length c] ∧ Sl wx (.slice a (prt fw ds i j).length c) (prt fw ds i j) ∧ Below V.heap.size V wx)
        case first =>
          cases fw
          · go_wp2
            go_meet
            exact ⟨rfl, none, 0, Box.newAt rfl _ _, Sl.nil _ _ _, bel_alloc (Below.refl _ _) _⟩
          · have hdl : ds.length = cnt := by have := HG4.out; simp only [needA, if_true] at this; omega
            have hD := HD.out.keep (bel_trans B3.out HB.out)
            obtain ⟨b9, o9, rfl⟩ : ∃ b o, da = some ⟨b, o, none⟩ := by
              obtain ⟨a', c', e', _, hh⟩ := hD
              simp only [Value.slice.injEq] at e'
              obtain ⟨rfl, -, -⟩ := e'
              rcases hh with rfl | ⟨b, o, rfl, _⟩
              · simp at hdl; omega
              · exact ⟨b, o, rfl⟩
            have hdc := HDC.out
            unfold maxLen at hdc
            have g1 : (i : Int) ≤ (i : Int) + j := by omega
            have g2 : (i : Int) + j ≤ dc := by omega
            have g3 : (0 : Int) ≤ (i : Int) + j := by omega
            have HDL : Hid (ds.length = cnt) := hdl
            clear hdl
            go_wp2
            go_meet
            have hpl : (prt true ds i j).length = j := by simp [prt]; have := HDL.out; omega
            have hfin := Sl.part (c2 := dc - i) (hD.alloc (.cells #[.int .i64 d, .int .i64 ((o : Int) + i), .int .i64 j, .bool true, .slice (some ⟨b9, o9 + i, none⟩) j (dc - i)] 79)) (i := i) (k := j) (by have := HDL.out; omega) (by unfold maxLen; omega)
            rw [hpl]
            exact ⟨rfl, _, _, Box.newAt rfl _ _, hfin, bel_alloc (Below.refl _ _) _⟩
        case rest =>
          obtain ⟨rfl, pa, pc, XP, hSP, bP⟩ := hcut
          have HSP : Hid (Sl wc _ (prt fw ds i j)) := hSP
          have XMc := XM.keep bP
          have XKc := XK.keep bP
          have XTc := XT.keep bP
          have SJc := HSj.out.keep bP
          have LJc := HLj.out.keep bP
          have HOIc : Hid (OwnI wc W3.heap.size _ datj) := HOI.out.keep (fun q hq => bP.block q (HOI.out.lt q hq))
          have HOTc : Hid (OwnT wc W3.heap.size _ tchj) := HOT.out.keep (fun q hq => bP.block q (HOT.out.lt q hq))
          have HBc : Hid (Below W3.heap.size W3 wc) := bel_trans HB.out bP
          have HVb : Hid (V.heap.size ≤ wc.heap.size) := bP.size
          have XTlt : T < wc.heap.size := XTc.lt
          clear hSP HSj HLj HOI HOT HB bP XM XK XT XA c0 c1 c2 c3 c4 f0 f1 f2 f3 sf sA
          obtain ⟨VV, rfl⟩ : ∃ VV, VV = wc := ⟨wc, rfl⟩
          generalize V.heap.size = Np at *
          obtain ⟨m0, -, s0⟩ := XMc.one
          obtain ⟨⟨q0, q1, q2, q3, q4, q5, q6, q7, q8, q9, q10, q11⟩, sq⟩ := XKc.twelve
          obtain ⟨c0, c1, c2, c3, c4⟩ := XP.blk.five
          have sA := XP.lt
          obtain ⟨dn3, hdn3⟩ : ∃ b, (decide ((0 : Int) = 0) && decide (f3v = 0)) = b := ⟨_, rfl⟩
          have HDN3 : Hid (_ = dn3) := hdn3
          clear hdn3
          go_wp2_with fail
          refine (do_at SJc LJc HSP.out HE.out HR.out HDN3.out).mono ?_
          rintro e w5 ⟨ma3, mc3, va3, vk3, da3, dc3, ta3, tc3, rfl, hS5, hL5, hD5, hT5, b5, k1, k2, k3, k4⟩
          clear m0 s0 q0 q1 q2 q3 q4 q5 q6 q7 q8 q9 q10 q11 sq c0 c1 c2 c3 c4 sA SJc LJc HSP XP
          have BA : Hid (Below w5.heap.size w5 (((w5.alloc (.cells #[.slice ma3 zs3.length mc3] 39)).alloc (.cells #[.int .i64 mo3, .int .i64 ba3, .slice va3 l3.length vk3, .int .i64 op3, .int .i64 oh3, .int .i64 ot3, .bool st3, .int .i64 fe3, .int .i64 fp3, .int .i64 fh3, .int .i64 ft3, .bool lo3] 44)).alloc (.cells #[.bool dn3, .slice da3 dat3.length dc3, .int .i64 f3v, .slice ta3 tch3.length tc3] 82))) := bel_alloc (bel_alloc (bel_alloc (Below.refl _ _) _) _) _
          have Y0 := ((Box.newAt (w := w5) rfl 39 #[.slice ma3 zs3.length mc3]).past (.cells #[.int .i64 mo3, .int .i64 ba3, .slice va3 l3.length vk3, .int .i64 op3, .int .i64 oh3, .int .i64 ot3, .bool st3, .int .i64 fe3, .int .i64 fp3, .int .i64 fh3, .int .i64 ft3, .bool lo3] 44)).past (.cells #[.bool dn3, .slice da3 dat3.length dc3, .int .i64 f3v, .slice ta3 tch3.length tc3] 82)
          have Y1 := (Box.newAt (w := w5.alloc (.cells #[.slice ma3 zs3.length mc3] 39)) (n := w5.heap.size + 1) (by simp) 44 #[.int .i64 mo3, .int .i64 ba3, .slice va3 l3.length vk3, .int .i64 op3, .int .i64 oh3, .int .i64 ot3, .bool st3, .int .i64 fe3, .int .i64 fp3, .int .i64 fh3, .int .i64 ft3, .bool lo3]).past (.cells #[.bool dn3, .slice da3 dat3.length dc3, .int .i64 f3v, .slice ta3 tch3.length tc3] 82)
          have Y2 := Box.newAt (w := (w5.alloc (.cells #[.slice ma3 zs3.length mc3] 39)).alloc (.cells #[.int .i64 mo3, .int .i64 ba3, .slice va3 l3.length vk3, .int .i64 op3, .int .i64 oh3, .int .i64 ot3, .bool st3, .int .i64 fe3, .int .i64 fp3, .int .i64 fh3, .int .i64 ft3, .bool lo3] 44)) (n := w5.heap.size + 1 + 1) (by simp) 82 #[.bool dn3, .slice da3 dat3.length dc3, .int .i64 f3v, .slice ta3 tch3.length tc3]
          have HS5 : Hid (Sl (((w5.alloc (.cells #[.slice ma3 zs3.length mc3] 39)).alloc (.cells #[.int .i64 mo3, .int .i64 ba3, .slice va3 l3.length vk3, .int .i64 op3, .int .i64 oh3, .int .i64 ot3, .bool st3, .int .i64 fe3, .int .i64 fp3, .int .i64 fh3, .int .i64 ft3, .bool lo3] 44)).alloc (.cells #[.bool dn3, .slice da3 dat3.length dc3, .int .i64 f3v, .slice ta3 tch3.length tc3] 82)) _ zs3) := hS5.keep BA.out
          have HL5 : Hid (Ls (((w5.alloc (.cells #[.slice ma3 zs3.length mc3] 39)).alloc (.cells #[.int .i64 mo3, .int .i64 ba3, .slice va3 l3.length vk3, .int .i64 op3, .int .i64 oh3, .int .i64 ot3, .bool st3, .int .i64 fe3, .int .i64 fp3, .int .i64 fh3, .int .i64 ft3, .bool lo3] 44)).alloc (.cells #[.bool dn3, .slice da3 dat3.length dc3, .int .i64 f3v, .slice ta3 tch3.length tc3] 82)) _ l3) := hL5.keep BA.out
          have HD5 : Hid (Sl (((w5.alloc (.cells #[.slice ma3 zs3.length mc3] 39)).alloc (.cells #[.int .i64 mo3, .int .i64 ba3, .slice va3 l3.length vk3, .int .i64 op3, .int .i64 oh3, .int .i64 ot3, .bool st3, .int .i64 fe3, .int .i64 fp3, .int .i64 fh3, .int .i64 ft3, .bool lo3] 44)).alloc (.cells #[.bool dn3, .slice da3 dat3.length dc3, .int .i64 f3v, .slice ta3 tch3.length tc3] 82)) _ dat3) := hD5.keep BA.out
          have HT5 : Hid (Ts (((w5.alloc (.cells #[.slice ma3 zs3.length mc3] 39)).alloc (.cells #[.int .i64 mo3, .int .i64 ba3, .slice va3 l3.length vk3, .int .i64 op3, .int .i64 oh3, .int .i64 ot3, .bool st3, .int .i64 fe3, .int .i64 fp3, .int .i64 fh3, .int .i64 ft3, .bool lo3] 44)).alloc (.cells #[.bool dn3, .slice da3 dat3.length dc3, .int .i64 f3v, .slice ta3 tch3.length tc3] 82)) _ tch3) := hT5.keep BA.out
          have b6 := bel_trans b5 BA.out
          have HF1 : Hid (Fresh VV.heap.size (.slice ma3 zs3.length mc3)) := k1
          have HF2 : Hid (Fresh VV.heap.size (.slice va3 l3.length vk3)) := k2
          have HF3 : Hid (Fresh VV.heap.size (.slice da3 dat3.length dc3)) := k3
          have HF4 : Hid (Fresh VV.heap.size (.slice ta3 tch3.length tc3)) := k4
          replace XMc := XMc.keep b6
          replace XKc := XKc.keep b6
          replace XTc := XTc.keep b6
          have HOIu : Hid (OwnI _ W3.heap.size _ datj) := HOIc.out.keep (fun q hq => b6.block q (HOIc.out.lt q hq))
          have HOTu : Hid (OwnT _ W3.heap.size _ tchj) := HOTc.out.keep (fun q hq => b6.block q (HOTc.out.lt q hq))
          have HOl : Hid (∀ q, _ → q < VV.heap.size) := HOIc.out.lt
          have HTl : Hid (∀ q, _ → q < VV.heap.size) := HOTc.out.lt
          have HBu : Hid (Below W3.heap.size W3 _) := bel_trans HBc.out b6
          have hV5 : VV.heap.size ≤ w5.heap.size := b5.size
          have hTV : T < VV.heap.size := XTlt
          clear hS5 hL5 hD5 hT5 b5 b6 BA k1 k2 k3 k4 HOIc HOTc HBc
          go_upto_region 15 with fail
          generalize (((w5.alloc (.cells #[.slice ma3 zs3.length mc3] 39)).alloc (.cells #[.int .i64 mo3, .int .i64 ba3, .slice va3 l3.length vk3, .int .i64 op3, .int .i64 oh3, .int .i64 ot3, .bool st3, .int .i64 fe3, .int .i64 fp3, .int .i64 fh3, .int .i64 ft3, .bool lo3] 44)).alloc (.cells #[.bool dn3, .slice da3 dat3.length dc3, .int .i64 f3v, .slice ta3 tch3.length tc3] 82)) = U at *
          generalize w5.heap.size = M5 at *
          obtain ⟨m0, m1, s0⟩ := XMc.one
          obtain ⟨⟨q0, q1, q2, q3, q4, q5, q6, q7, q8, q9, q10, q11⟩, sq⟩ := XKc.twelve
          obtain ⟨z0, z1, z2, z3, z4, z5, z6, z7, z8, z9, z10, z11⟩ := XKc.marks
          obtain ⟨n0, -, sn⟩ := Y0.one
          obtain ⟨⟨r0, r1, r2, r3, r4, r5, r6, r7, r8, r9, r10, r11⟩, sr⟩ := Y1.twelve
          go_cut [14] from 90 to 94 (fun s wx => s = .int .i64 ((i + j : Nat) : Int) ∧ Box wx m 39 #[.slice ma3 zs3.length mc3] ∧ Box wx k 44 #[.int .i64 mo3, .int .i64 ba3, .slice va3 l3.length vk3, .int .i64 op3, .int .i64 oh3, .int .i64 ot3, .bool st3, .int .i64 fe3, .int .i64 fp3, .int .i64 fh3, .int .i64 ft3, .bool lo3] ∧ KeptB (fun q => q = m ∨ q = k) U wx)
          case first =>
            have hm5 : m ≠ M5 := by omega
            have hk5 : k ≠ M5 := by omega
            have hm6 : m ≠ M5 + 1 := by omega
            have hk6 : k ≠ M5 + 1 := by omega
            go_region
            all_goals (go_wp2_with fail)
            all_goals (go_meet)
            exact ⟨by rw [Int.natCast_add], ((XMc.set1 _).other12 hmk _ _ _ _ _ _ _ _ _ _ _ _).drew, ((XKc.other (p := ⟨m, 0, none⟩) (Ne.symm hmk) _).set12 _ _ _ _ _ _ _ _ _ _ _ _).drew, (((KeptB.refl (fun q => q = m ∨ q = k) U).setCell (p := ⟨m, 0, none⟩) (.inl (.inl rfl)) _).trans (kept_set12 _ _ _ _ _ _ _ _ _ _ _ _) (fun q _ h => .inr h)).drew⟩
          case rest =>
            obtain ⟨rfl, XM2, XK2, K2⟩ := hcut
            obtain ⟨U2, rfl⟩ : ∃ U2, U2 = wc := ⟨wc, rfl⟩
            clear m0 m1 s0 q0 q1 q2 q3 q4 q5 q6 q7 q8 q9 q10 q11 sq z0 z1 z2 z3 z4 z5 z6 z7 z8 z9 z10 z11 n0 sn r0 r1 r2 r3 r4 r5 r6 r7 r8 r9 r10 r11 sr
            have HOn1 : Hid ((Value.slice dj datj.length ej).ownBlock ≠ some m) := HOIu.out.neBox XMc (by decide)
            have HOn2 : Hid ((Value.slice dj datj.length ej).ownBlock ≠ some k) := HOIu.out.neBox XKc (by decide)
            have HOn3 : Hid ((Value.slice dj datj.length ej).ownBlock ≠ some T) := HOIu.out.neBox XTc (by decide)
            have HTn1 : Hid ((Value.slice tj tchj.length gj).ownBlock ≠ some m) := HOTu.out.neBox XMc (by decide)
            have HTn2 : Hid ((Value.slice tj tchj.length gj).ownBlock ≠ some k) := HOTu.out.neBox XKc (by decide)
            have HTn3 : Hid ((Value.slice tj tchj.length gj).ownBlock ≠ some T) := HOTu.out.neBox XTc (by decide)
            have HUn : Hid (own_unlikeP (Value.slice dj datj.length ej) (Value.slice tj tchj.length gj)) := own_unlike HOIu.out HOTu.out
            have HY : Hid (Box U M5 39 _) := Y0
            have HM5 : Hid (VV.heap.size ≤ M5 ∧ M5 + 1 + 1 < U.heap.size) := ⟨hV5, Y2.lt⟩
            have Y2b := Y2.kept K2 (by omega)
            have XT2 := XTc.kept K2 (by omega)
            clear XMc XKc Y0 Y1 HY
            obtain ⟨r0, r1, r2, r3, z0, z1, z2, z3, sr⟩ := XT2.four
            obtain ⟨q0, q1, q2, q3, -, -, -, -, sq⟩ := Y2b.four
            have hT5 : T ≠ M5 + 1 + 1 := by omega
            go_upto_region 16 with fail
            go_cut [14] from 95 to 100 (fun s wx => s = .int .i64 ((i + j : Nat) : Int) ∧ Box wx T 82 #[.bool dn3, .slice dj datj.length ej, .int .i64 f3v, .slice tj tchj.length gj] ∧ KeptB (fun q => q = T) U2 wx)
            case first =>
              go_region
              all_goals (go_wp2_with fail)
              all_goals (go_meet)
              exact ⟨rfl, ((XT2.set 2 (.int .i64 f3v)).set 0 (.bool dn3)).drew, (((KeptB.refl (fun q => q = T) U2).setCell (p := ⟨T, 2, none⟩) (.inl rfl) _).setCell (p := ⟨T, 0, none⟩) (.inl rfl) _).drew⟩
            case rest =>
              obtain ⟨rfl, XT3, K3⟩ := hcut
              obtain ⟨U3, rfl⟩ : ∃ U3, U3 = wc := ⟨wc, rfl⟩
              have KU : Hid (KeptB (fun q => q = m ∨ q = k ∨ q = T) U U3) := (K2.mono (fun q h => by omega)).trans K3 (fun q _ h => .inr (.inr h))
              have XM3 := XM2.kept K3 (by omega)
              have XK3 := XK2.kept K3 (by omega)
              have Y3 := Y2b.kept K3 (by omega)
              have HOI3 : Hid (OwnI U3 W3.heap.size _ datj) := HOIu.out.kept KU.out (fun q hq h => by rcases h with rfl | rfl | rfl; exact HOn1.out hq; exact HOn2.out hq; exact HOn3.out hq)
              have HOT3 : Hid (OwnT U3 W3.heap.size _ tchj) := HOTu.out.kept KU.out (fun q hq h => by rcases h with rfl | rfl | rfl; exact HTn1.out hq; exact HTn2.out hq; exact HTn3.out hq)
              have HD8 : Hid (Sl U3 _ dat3) := HD5.out.kept KU.out (fun q hq => by have := HF3.out q hq; omega)
              have HT8 : Hid (Ts U3 _ tch3) := HT5.out.kept KU.out (fun q hq => by have := HF4.out q hq; omega)
              clear r0 r1 r2 r3 z0 z1 z2 z3 sr q0 q1 q2 q3 sq XM2 XK2 XT2 Y2b XTc Y2
              obtain ⟨r0, r1, r2, r3, z0, z1, z2, z3, sr⟩ := XT3.four
              obtain ⟨q0, q1, q2, q3, -, -, -, -, sq⟩ := Y3.four
              go_upto_region 17 with fail
              refine wp_region_late (by kernel_rfl) 11 (fun w' => w'.cell? ⟨T, 1, none⟩ = some (.slice dj datj.length ej) ∧ w'.cell? ⟨T, 3, none⟩ = some (.slice tj tchj.length gj) ∧ w'.cell? ⟨M5 + 1 + 1, 1, none⟩ = some (.slice da3 dat3.length dc3) ∧ w'.cell? ⟨M5 + 1 + 1, 3, none⟩ = some (.slice ta3 tch3.length tc3)) ⟨r1, r3, q1, q3⟩ (fun hHeld => ?_)
              refine wpLate_takeL (i := 0) (v := ?_) rfl (by kernel_rfl) (by kernel_rfl) (by kernel_rfl) (by kernel_rfl) (by kernel_rfl) (fun _ _ _ h => h) (Or.inl ⟨by kernel_rfl, ?_⟩) (by assumption) ?_
              rotate_left 1
              focus (intro wz hSz; (try dsimp only at hSz); go_simp; (try with_reducible rfl))
              simp only [Act.put, List.setIfInBounds_toArray, List.set_cons_zero, List.set_cons_succ]
              refine wpLate_takeL (i := 1) (v := ?_) rfl (by kernel_rfl) (by kernel_rfl) (by kernel_rfl) (by kernel_rfl) (by kernel_rfl) (fun _ _ _ h => h) (Or.inl ⟨by kernel_rfl, ?_⟩) (by assumption) ?_
              rotate_left 1
              focus (intro wz hSz; (try dsimp only at hSz); go_simp; (try with_reducible rfl))
              simp only [Act.put, List.setIfInBounds_toArray, List.set_cons_zero, List.set_cons_succ]
              refine wpLate_takeL (i := 2) (v := ?_) rfl (by kernel_rfl) (by kernel_rfl) (by kernel_rfl) (by kernel_rfl) (by kernel_rfl) (fun _ _ _ h => h) (Or.inl ⟨by kernel_rfl, ?_⟩) (by assumption) ?_
              rotate_left 1
              focus (intro wz hSz; (try dsimp only at hSz); go_simp; (try with_reducible rfl))
              simp only [Act.put, List.setIfInBounds_toArray, List.set_cons_zero, List.set_cons_succ]
              refine wpLate_takeL (i := 3) (v := ?_) rfl (by kernel_rfl) (by kernel_rfl) (by kernel_rfl) (by kernel_rfl) (by kernel_rfl) (fun _ _ _ h => h) (Or.inl ⟨by kernel_rfl, ?_⟩) (by assumption) ?_
              rotate_left 1
              focus (intro wz hSz; (try dsimp only at hSz); go_simp; (try with_reducible rfl))
              simp only [Act.put, List.setIfInBounds_toArray, List.set_cons_zero, List.set_cons_succ]
              refine wpLate_takeL (i := 5) (v := ?_) rfl (by kernel_rfl) (by kernel_rfl) (by kernel_rfl) (by kernel_rfl) (by kernel_rfl) (fun _ _ _ h => h) (Or.inl ⟨by kernel_rfl, ?_⟩) (by assumption) ?_
              rotate_left 1
              focus (intro wz hSz; (try dsimp only at hSz); go_simp; (try with_reducible rfl))
              simp only [Act.put, List.setIfInBounds_toArray, List.set_cons_zero, List.set_cons_succ]
              refine wpLate_takeL (i := 6) (v := ?_) rfl (by kernel_rfl) (by kernel_rfl) (by kernel_rfl) (by kernel_rfl) (by kernel_rfl) (fun _ _ _ h => h) (Or.inl ⟨by kernel_rfl, ?_⟩) (by assumption) ?_
              rotate_left 1
              focus (intro wz hSz; (try dsimp only at hSz); go_simp; (try with_reducible rfl))
              simp only [Act.put, List.setIfInBounds_toArray, List.set_cons_zero, List.set_cons_succ]
              refine wpLate_takeL (i := 7) (v := ?_) rfl (by kernel_rfl) (by kernel_rfl) (by kernel_rfl) (by kernel_rfl) (by kernel_rfl) (fun _ _ _ h => h) (Or.inl ⟨by kernel_rfl, ?_⟩) (by assumption) ?_
              rotate_left 1
              focus (intro wz hSz; (try dsimp only at hSz); go_simp; (try with_reducible rfl))
              simp only [Act.put, List.setIfInBounds_toArray, List.set_cons_zero, List.set_cons_succ]
              refine wpLate_takeL (i := 8) (v := ?_) rfl (by kernel_rfl) (by kernel_rfl) (by kernel_rfl) (by kernel_rfl) (by kernel_rfl) (fun _ _ _ h => h) (Or.inl ⟨by kernel_rfl, ?_⟩) (by assumption) ?_
              rotate_left 1
              focus (intro wz hSz; (try dsimp only at hSz); go_simp; (try with_reducible rfl))
              simp only [Act.put, List.setIfInBounds_toArray, List.set_cons_zero, List.set_cons_succ]
              refine wpLate_oneL (i := 4) (by kernel_rfl) (by rfl) (fun K hK => ?_)
              refine step_append_Ie rfl (.tmp 102) (.tmp 104) rfl W3.heap.size (.slice dj datj.length ej) (.slice da3 dat3.length dc3) datj dat3 rfl rfl ?_ ?_ ?_ ?_ ?_
              · exact HOI3.out.drew
              · exact HD8.out.drew
              · have := HLD.out; have := HL3'.out; omega
              · have := KU.out.size; have := HM5.out; show _ ≤ U3.heap.size; omega
              intro b7 c7 w7 hown hgr hbel hat
              have ZT7 := XT3.drew.grownT hgr (fun e => HOn3.out e.symm)
              have ZY7 := Y3.drew.grownT hgr (fun e => by have := HOl.out _ e.symm; have := HM5.out; omega)
              have hH7 : w7.cell? ⟨T, 1, none⟩ = some (.slice dj datj.length ej) ∧ w7.cell? ⟨T, 3, none⟩ = some (.slice tj tchj.length gj) ∧ w7.cell? ⟨M5 + 1 + 1, 1, none⟩ = some (.slice da3 dat3.length dc3) ∧ w7.cell? ⟨M5 + 1 + 1, 3, none⟩ = some (.slice ta3 tch3.length tc3) := ⟨ZT7.cell 1, ZT7.cell 3, ZY7.cell 1, ZY7.cell 3⟩
              have HO7 : Hid (OwnI w7 W3.heap.size _ (datj ++ dat3)) := hown
              have HT7 : Hid (OwnT w7 W3.heap.size _ tchj) := HOT3.out.drew.grown hgr (fun q hq => HUn.out q hq)
              have K7 : Hid (KeptB (fun q => (Value.slice dj datj.length ej).ownBlock = some q ∨ (Value.slice tj tchj.length gj).ownBlock = some q) U3 w7) := (KeptB.refl _ U3).drew.grown hgr (fun q hq => .inl (.inl hq))
              have HTS7 : Hid (Ts w7 _ tch3) := HT8.out.kept K7.out (fun q hq h => by
                have h1 := HF4.out q hq
                rcases h with h | h
                · have := HOl.out q h; omega
                · have := HTl.out q h; omega)
              have HAT7 : Hid (∀ q, (Value.slice b7 (datj ++ dat3).length c7).ownBlock = some q → q < VV.heap.size ∨ U.heap.size ≤ q) := fun q hq => by
                rcases hat q hq with h | h
                · exact .inl (HOl.out q h)
                · right; have := KU.out.size; have h2 : U3.drew.heap.size = U3.heap.size := rfl; omega
              refine hK.out _ _ (fun _ => hH7) ?_
              clear hK K hown hgr hbel hat
              refine wpLate_takeL (i := 10) (v := ?_) rfl (by kernel_rfl) (by kernel_rfl) (by kernel_rfl) (by kernel_rfl) (by kernel_rfl) (fun _ _ _ h => h) (Or.inl ⟨by kernel_rfl, ?_⟩) (by assumption) ?_
              rotate_left 1
              focus (intro wz hSz; (try dsimp only at hSz); go_simp; (try with_reducible rfl))
              simp only [Act.put, List.setIfInBounds_toArray, List.set_cons_zero, List.set_cons_succ]
              refine wpLate_oneL (i := 9) (by kernel_rfl) (by rfl) (fun K hK => ?_)
              refine step_append_Te rfl (.tmp 107) (.tmp 109) rfl W3.heap.size (.slice tj tchj.length gj) (.slice ta3 tch3.length tc3) tchj tch3 rfl rfl ?_ ?_ ?_ ?_ ?_
              · exact HT7.out
              · exact HTS7.out
              · have := HLD.out; have := HL3'.out; omega
              · have := KU.out.size; have := HM5.out; have := K7.out.size; omega
              intro b8 c8 w8 hown hgr hbel hat
              have ZT8 := ZT7.grownT hgr (fun e => HTn3.out e.symm)
              have ZY8 := ZY7.grownT hgr (fun e => by have := HTl.out _ e.symm; have := HM5.out; omega)
              have HT9 : Hid (OwnT w8 W3.heap.size _ (tchj ++ tch3)) := hown
              have HO9 : Hid (OwnI w8 W3.heap.size _ (datj ++ dat3)) := HO7.out.grown hgr (own_unlike HO7.out HT7.out)
              have K8 : Hid (KeptB (fun q => (Value.slice dj datj.length ej).ownBlock = some q ∨ (Value.slice tj tchj.length gj).ownBlock = some q) U3 w8) := K7.out.grown hgr (fun q hq => .inl (.inr hq))
              have HAT8 : Hid (∀ q, (Value.slice b8 (tchj ++ tch3).length c8).ownBlock = some q → q < VV.heap.size ∨ U.heap.size ≤ q) := fun q hq => by
                rcases hat q hq with h | h
                · exact .inl (HTl.out q h)
                · right; have := KU.out.size; have := K7.out.size; omega
              refine hK.out _ _ (fun _ => ⟨ZT8.cell 1, ZT8.cell 3, ZY8.cell 1, ZY8.cell 3⟩) ?_
              clear hK K hown hgr hbel hat r0 r1 r2 r3 z0 z1 z2 z3 sr q0 q1 q2 q3 sq hH7 hHeld ZT7 ZY7 ZY8
              obtain ⟨r0, r1, r2, r3, z0, z1, z2, z3, sr⟩ := ZT8.four
              refine wpLate_oneL (i := 11) (by kernel_rfl) (by rfl) (fun K hK => ?_)
              go_simp
              refine hK.out _ _ (fun h => absurd h (by decide)) ?_
              clear hK K
              refine wpLate_oneL (i := 12) (by kernel_rfl) (by rfl) (fun K hK => ?_)
              go_simp
              refine hK.out _ _ (fun h => absurd h (by decide)) ?_
              clear hK K
              refine wpLate_oneL (i := 13) (by kernel_rfl) (by rfl) (fun K hK => ?_)
              go_simp
              refine hK.out _ _ (fun h => absurd h (by decide)) ?_
              clear hK K
              refine wpLate_done (by kernel_rfl) ?_ _
              have HREL : Hid (RelP W3 m k T d fw ds o cnt (⟨ms, ⟨mo1, ba1, l1, op1, oh1, ot1, st1, fe1, fp1, fh1, ft1, lo1⟩, dat, tch⟩, f) (i + j) ((w8.setCell ⟨T, 1, none⟩ (.slice b7 (datj ++ dat3).length c7)).setCell ⟨T, 3, none⟩ (.slice b8 (tchj ++ tch3).length c8))) := by
                have KF : KeptB (fun q => (Value.slice dj datj.length ej).ownBlock = some q ∨ (Value.slice tj tchj.length gj).ownBlock = some q ∨ q = T) U3 ((w8.setCell ⟨T, 1, none⟩ (.slice b7 (datj ++ dat3).length c7)).setCell ⟨T, 3, none⟩ (.slice b8 (tchj ++ tch3).length c8)) := ((K8.out.mono (fun q h => h.imp id .inl)).setCell (p := ⟨T, 1, none⟩) (.inl (.inr (.inr rfl))) _).setCell (p := ⟨T, 3, none⟩) (.inl (.inr (.inr rfl))) _
                have hfar : ∀ q, VV.heap.size ≤ q → ¬ ((Value.slice dj datj.length ej).ownBlock = some q ∨ (Value.slice tj tchj.length gj).ownBlock = some q ∨ q = T) := fun q h1 h => by
                  rcases h with h | h | h
                  · have := HOl.out q h; omega
                  · have := HTl.out q h; omega
                  · omega
                have hU : VV.heap.size ≤ U.heap.size := by have := HM5.out; omega
                have hWU : W3.heap.size ≤ U.heap.size := HBu.out.size
                refine ⟨zs3, ma3, mc3, mo3, ba3, op3, oh3, ot3, fe3, fp3, fh3, ft3, st3, lo3, va3, vk3, l3, datj ++ dat3, tchj ++ tch3, .slice b7 (datj ++ dat3).length c7, .slice b8 (tchj ++ tch3).length c8, dn3, f3v, XM3.kept KF ?_, XK3.kept KF ?_, (ZT8.set 1 _).set 3 _, ?_, ?_, ?_, ?_, ?_, ?_, ?_, ?_, ?_, ?_, ?_⟩
                · rintro (h | h | h)
                  · exact HOn1.out h
                  · exact HTn1.out h
                  · omega
                · rintro (h | h | h)
                  · exact HOn2.out h
                  · exact HTn2.out h
                  · omega
                · exact (HS5.out.kept KU.out (fun q hq => by have := HF1.out q hq; omega)).kept KF (fun q hq => hfar q (HF1.out q hq))
                · exact (HL5.out.kept KU.out (fun q hq => by have := HF2.out q hq; omega)).kept KF (fun q hq => hfar q (HF2.out q hq))
                · exact (HO9.out.setFar (p := ⟨T, 1, none⟩) (HO9.out.neBox ZT8 (by decide)) _).setFar (p := ⟨T, 3, none⟩) (HO9.out.neBox ZT8 (by decide)) _
                · exact (HT9.out.setFar (p := ⟨T, 1, none⟩) (HT9.out.neBox ZT8 (by decide)) _).setFar (p := ⟨T, 3, none⟩) (HT9.out.neBox ZT8 (by decide)) _
                · intro g hg
                  have hg2 := HAT7.out g hg
                  exact ⟨HS5.out.block.imp id (fun h e => by have := h g e; have := HF1.out g e; omega), HL5.out.blockP.imp id (fun h e => by have := h g e; have := HF2.out g e; omega)⟩
                · intro g hg
                  have hg2 := HAT8.out g hg
                  exact ⟨HS5.out.block.imp id (fun h e => by have := h g e; have := HF1.out g e; omega), HL5.out.blockP.imp id (fun h e => by have := h g e; have := HF2.out g e; omega)⟩
                · by_cases hf : f3v = 0
                  · obtain ⟨g1, g2, g3⟩ := HG3.out hf
                    exact .inl ⟨hf, g1, g2, .inr g3, by rw [← HR3.out hf]; exact HRUN.out⟩
                  · exact .inr ⟨hf, by rw [← HN3.out hf]; exact HRUN.out.symm⟩
                · exact .inr (by rw [← HDN3.out]; simp)
                · rw [List.length_append]; have := HLD.out; have := HL3'.out; omega
                · rw [List.length_append]; have := HLD.out; have := HL3'.out; omega
                · refine (HBu.out.trans (KU.out.low hWU (fun q hq h => by omega))).trans (KF.low (Nat.le_trans hWU KU.out.size) (fun q hq h => ?_))
                  rcases h with h | h | h
                  · have := HOI3.out.base q h; omega
                  · have := HOT3.out.base q h; omega
                  · omega
              clear r0 r1 r2 r3 z0 z1 z2 z3 sr ZT8
              go_wp2_with fail
              have hR9 := HREL.out
              simp only [List.length_append] at hR9
              exact ⟨⟨i + j, rfl, by omega, hR9⟩, by simp [intOf]; omega⟩
end Go.Proofs.Ytefcdcneenjbgab
/-
  What the openers share.
-/
namespace Go.Proofs.Ytefcdcneenjbgab
open Go.ChangeShapes Go.WideShapes Go.ChangeAt Go.RowKit

theorem law_own : ownKnob Try.prog.godebug = none := by kernel_rfl
theorem law_laidOut : laidOutB Try.prog = true := by kernel_rfl
theorem int_cells : Try.prog.cellsOf 3 = 1 := by kernel_rfl
theorem bool_cells : Try.prog.cellsOf 4 = 1 := by kernel_rfl

theorem array5 {cs : List Value} (h : cs.length = 5) : ∃ c0 c1 c2 c3 c4, cs = [c0, c1, c2, c3, c4] := by
  match cs, h with
  | [c0, c1, c2, c3, c4], _ => exact ⟨c0, c1, c2, c3, c4, rfl⟩
theorem array3 {cs : List Value} (h : cs.length = 3) : ∃ c0 c1 c2, cs = [c0, c1, c2] := by
  match cs, h with
  | [c0, c1, c2], _ => exact ⟨c0, c1, c2, rfl⟩
theorem array4 {cs : List Value} (h : cs.length = 4) : ∃ c0 c1 c2 c3, cs = [c0, c1, c2, c3] := by
  match cs, h with
  | [c0, c1, c2, c3], _ => exact ⟨c0, c1, c2, c3, rfl⟩

section
variable {H : Type} {enc : TypeId × Value → H} {W : World}

theorem cell_int {n : Nat} {c : Value} {y : Option (DataW H × List MemPlace)} (h : DataW.trod enc Try.prog W 0 (fun _ => true) true n 3 [c] = y) (hy : y ≠ none) : ∃ a, c = .int .i64 a := by
  cases y with
  | none => exact absurd rfl hy
  | some y =>
    obtain ⟨a, e, _⟩ := DataW.trod_int Try.underlying3 h
    exact ⟨a, by simpa using e⟩
theorem cell_bool {n : Nat} {c : Value} {y : Option (DataW H × List MemPlace)} (h : DataW.trod enc Try.prog W 0 (fun _ => true) true n 4 [c] = y) (hy : y ≠ none) : ∃ a, c = .bool a := by
  cases y with
  | none => exact absurd rfl hy
  | some y =>
    obtain ⟨a, e, _⟩ := DataW.trod_bool Try.underlying4 h
    exact ⟨a, by simpa using e⟩

set_option maxRecDepth 100000 in
theorem cell_intw {n : Nat} {c : Value} {y : Option (DataW H × List MemPlace)} (h : DataW.trod enc Try.prog W 0 (fun _ => true) true n 3 [c] = y) (hy : y ≠ none) : ∃ a, c = .int .i64 a ∧ -9223372036854775808 ≤ a ∧ a ≤ 9223372036854775807 := by
  cases y with
  | none => exact absurd rfl hy
  | some y =>
    obtain ⟨a, e, _, hw⟩ := DataW.trod_int Try.underlying3 h
    refine ⟨a, by simpa using e, ?_⟩
    simp only [Lit.wf, Bool.and_eq_true, decide_eq_true_eq] at hw
    exact hw

end
end Go.Proofs.Ytefcdcneenjbgab
/-
  A memory that comes in as an argument reads as a list of numbers (Sl).
-/
namespace Go.Proofs.Ytefcdcneenjbgab
open Go.ChangeShapes Go.WideShapes Go.ChangeAt Go.RowKit

theorem mem_cells : Try.prog.cellsOf 39 = 1 := by kernel_rfl
theorem slice_cells : Try.prog.cellsOf 37 = 1 := by kernel_rfl

/-- A cell that reads as a slice of numbers. -/
theorem open_row {H : Type} {enc : TypeId × Value → H} {W : World} {fuel : Nat} {c0 : Value} {x : DataW H × List MemPlace}
    (h : DataW.trod enc Try.prog W 0 (fun _ => true) true fuel 37 [c0] = some x) : ∃ zs, Sl W c0 zs := by
  rcases open_ints Try.underlying37 Try.underlying3 int_cells h with ⟨hcs, _⟩ | ⟨a, len, cap, zs, hcs, _, hl, hm, hz, _, hcell, _⟩
  · simp only [List.cons.injEq, and_true] at hcs
    subst hcs
    exact ⟨[], Sl.nil _ _ _⟩
  · simp only [List.cons.injEq, and_true] at hcs
    subst hcs
    simp only [if_true] at hz
    by_cases h0 : len = 0
    · subst h0
      exact ⟨[], Sl.nil _ _ _⟩
    · obtain ⟨b, off, spot⟩ := a
      have hc := hcell 0 (by omega)
      have hspot : spot = none := by simpa [Addr.add] using World.cell?_spot hc
      subst hspot
      have hlen : (zs.take len).length = len := by simp; omega
      refine ⟨zs.take len, _, cap, by rw [hlen], by omega, .inr ⟨b, off, rfl, ?_, fun i hi => ?_⟩⟩
      · have := World.block_lt_of_cell? W _ hc
        simpa [Addr.add] using this
      · have ha : Addr.add ⟨b, off, none⟩ i = ⟨b, off + i, none⟩ := by unfold Addr.add; split <;> simp_all
        have := hcell i (by omega)
        rw [ha] at this
        rw [this]
        have hi' : i < len := by omega
        simp [nth, hi']

set_option maxRecDepth 100000 in
theorem open_mem {H : Type} {enc : TypeId × Value → H} {W : World} {b0 : Nat} {v : Value} {d : DataW H} {p : List MemPlace} (hv : Value.okWide Try.prog W .any b0 39 v)
    (h : DataW.Trod enc Try.prog W 0 (fun _ => true) true 39 v d p) : ∃ v0 zs, v = .agg #[v0] ∧ Sl W v0 zs := by
  obtain ⟨cs, rfl, hsz⟩ := okWide_struct Try.underlying39 hv
  rw [mem_cells] at hsz
  obtain ⟨l⟩ := cs
  match l, hsz with
  | [c0], _ =>
    obtain ⟨fuel, hf⟩ := h
    obtain ⟨y0, n, _, _, h0⟩ := trod_struct1 Try.underlying39 hf
    obtain ⟨zs, hs⟩ := open_row (c0 := c0) (by simpa [Value.cells, slice_cells] using h0)
    exact ⟨c0, zs, rfl, hs⟩
end Go.Proofs.Ytefcdcneenjbgab
/-
  An order that comes in as an argument is written out.
-/
namespace Go.Proofs.Ytefcdcneenjbgab
open Go.ChangeShapes Go.WideShapes Go.ChangeAt Go.RowKit

theorem ord_cells : Try.prog.cellsOf 23 = 3 := by kernel_rfl

section
variable {H : Type} {enc : TypeId × Value → H} {W : World}

set_option maxRecDepth 100000 in
theorem open_ord {b0 : Nat} {v : Value} {d : DataW H} {p : List MemPlace} (hv : Value.okWide Try.prog W .any b0 23 v) (h : DataW.Trod enc Try.prog W 0 (fun _ => true) true 23 v d p) :
    ∃ a b n, v = .agg #[.int .i64 a, .int .i64 b, .int .i64 n] ∧ (-9223372036854775808 ≤ a ∧ a ≤ 9223372036854775807) := by
  obtain ⟨cs, rfl, _⟩ := okWide_struct Try.underlying23 hv
  obtain ⟨fuel, hf⟩ := h
  obtain ⟨xs, n, _, _, hl, hlen, hf⟩ := DataW.trod_struct Try.underlying23 hf
  rw [ord_cells] at hl
  obtain ⟨l⟩ := cs
  simp only [Value.cells] at hl hf
  obtain ⟨c0, c1, c2, rfl⟩ := array3 hl
  have some_at : ∀ i, i < 3 → xs[i]? ≠ none := fun i hi => by
    rw [List.getElem?_eq_getElem (by rw [hlen]; exact hi)]; simp
  obtain ⟨a, rfl, ha⟩ := cell_intw (by simpa [int_cells] using hf 0 _ rfl) (some_at 0 (by omega))
  obtain ⟨b, rfl⟩ := cell_int (by simpa [int_cells] using hf 1 _ rfl) (some_at 1 (by omega))
  obtain ⟨q, rfl⟩ := cell_int (by simpa [int_cells] using hf 2 _ rfl) (some_at 2 (by omega))
  exact ⟨a, b, q, rfl, ha⟩

set_option maxRecDepth 100000 in
theorem open_odr {b0 : Nat} {v : Value} {d : DataW H} {p : List MemPlace} (hv : Value.okWide Try.prog W .any b0 23 v) (h : DataW.Trod enc Try.prog W 0 (fun _ => true) true 23 v d p) :
    ∃ a b n, v = .agg #[.int .i64 a, .int .i64 b, .int .i64 n] := by
  obtain ⟨a, b, n, e, _⟩ := open_ord hv h
  exact ⟨a, b, n, e⟩
end
end Go.Proofs.Ytefcdcneenjbgab
