/-
  Laid together: FaultsWalk.
-/
import Derived.Test.YtefcdcneenjbgabT11
import Derived.Deep.RegionHeld3
import Derived.Deep.CutRange
/-
  The walk of BridgeFaults.
-/
namespace Go.Proofs.Ytefcdcneenjbgab
open Go.RowKit

theorem Fresh.apart {base g : Nat} {v : Value} {l : List Ln} (h : Fresh base v) (k : g < base) : Apart v l g := .inr fun b o n c e => by
  subst e
  have := h b (by simp [Value.ownBlock])
  omega

theorem Box.grownF {w w' : World} {n : Nat} {t : TypeId} {cs : Array Value} {row : Option Nat} (h : Box w n t cs) (hg : w.grownBy w' row) (hn : some n ≠ row) : Box w' n t cs := (hg.block n h.lt hn).trans h
theorem keep7 {W w' : World} {a k m p : Nat} {u0 u1 u2 u3 u4 u5 u6 : Value} (h0 : W.cell? ⟨a, 11, none⟩ = some u0) (h1 : W.cell? ⟨k, 8, none⟩ = some u1) (h2 : W.cell? ⟨k, 9, none⟩ = some u2) (h3 : W.cell? ⟨k, 10, none⟩ = some u3) (h4 : W.cell? ⟨k, 11, none⟩ = some u4) (h5 : W.cell? ⟨m, 0, none⟩ = some u5) (h6 : W.cell? ⟨p, 0, none⟩ = some u6) (ha : a < W.heap.size) (hk : k < W.heap.size) (hm : m < W.heap.size) (hp : p < W.heap.size) (hb : Below W.heap.size W w') :
    w'.cell? ⟨a, 11, none⟩ = some u0 ∧ w'.cell? ⟨k, 8, none⟩ = some u1 ∧ w'.cell? ⟨k, 9, none⟩ = some u2 ∧ w'.cell? ⟨k, 10, none⟩ = some u3 ∧ w'.cell? ⟨k, 11, none⟩ = some u4 ∧ w'.cell? ⟨m, 0, none⟩ = some u5 ∧ w'.cell? ⟨p, 0, none⟩ = some u6 ∧ Below W.heap.size W w' :=
  ⟨((bcell hb).1 a 11 ha).trans h0, ((bcell hb).1 k 8 hk).trans h1, ((bcell hb).1 k 9 hk).trans h2, ((bcell hb).1 k 10 hk).trans h3, ((bcell hb).1 k 11 hk).trans h4, ((bcell hb).1 m 0 hm).trans h5, ((bcell hb).1 p 0 hp).trans h6, hb⟩
theorem limb8 {A B C D E F G H : Prop} (h : A ∧ B ∧ C ∧ D ∧ E ∧ F ∧ G ∧ H) : H := h.2.2.2.2.2.2.2

/-- What the rounds of the first loop keep. -/
def RelF (w : World) (Bs m k : Nat) (zs : List Int) (mo ba op oh ot fe fp fh : Int) (st : Bool) (l : List Ln) (n0 : Nat) (v8 : Value) (wx : World) : Prop :=
  ∃ wt zj aj cj lo va vk, OwnF wx Bs v8 wt ∧ Box wx m 39 #[.slice aj zj.length cj] ∧ Box wx k 44 #[.int .i64 mo, .int .i64 ba, .slice va l.length vk, .int .i64 op, .int .i64 oh, .int .i64 ot, .bool st, .int .i64 fe, .int .i64 fp, .int .i64 fh, .int .i64 (tlj fh (n0 + wt.length)), .bool lo] ∧
    Sl wx (.slice aj zj.length cj) zj ∧ Ls wx (.slice va l.length vk) l ∧ (∀ g, (Value.slice aj zj.length cj).ownBlock = some g → v8.ownBlock ≠ some g) ∧ (∀ g, v8.ownBlock = some g → Apart (.slice va l.length vk) l g) ∧
    FState zs fp fh n0 wt zj ∧ chkB ⟨mo, ba, l, op, oh, ot, st, fe, fp, fh, tlj fh (n0 + wt.length), lo⟩ = 0 ∧ Bs ≤ wx.heap.size ∧ Below w.heap.size w wx

set_option maxRecDepth 10000 in
set_option maxHeartbeats 8000000 in
theorem bridgeFaults_walk (v : Value) (zs : List Int) (mo ba op oh ot fe fp fh ft : Int) (st lo : Bool) (vc : Value) (l : List Ln) (u : Value) (fl : List Fl) (w : World) (hs : Sl w v zs) (h : Ls w vc l) (hu : Fs w u fl) :
    Calls Try.prog 9 #[.agg #[v], .agg #[.int .i64 mo, .int .i64 ba, vc, .int .i64 op, .int .i64 oh, .int .i64 ot, .bool st, .int .i64 fe, .int .i64 fp, .int .i64 fh, .int .i64 ft, .bool lo], u] w fun e w' => e = .returned (.bool true) ∧ Below w.heap.size w w' := by
  have HS : Hid (Ls w vc l) := h
  obtain ⟨va, vk, rfl, -⟩ := h.shape
  have HM : Hid (Sl w v zs) := hs
  obtain ⟨ma, mc, rfl⟩ := hs.shape
  have HU : Hid (Fs w u fl) := hu
  obtain ⟨a2, c2, rfl, hcl, hcm, -⟩ := hu
  have HC : Hid (fl.length ≤ c2 ∧ c2 ≤ maxLen) := ⟨hcl, hcm⟩
  clear h hs hcl hcm
  have BA : Hid (Below w.heap.size w _) := bel_alloc (bel_alloc (Below.refl w.heap.size w) (.cells #[.slice ma zs.length mc] 39)) (.cells #[.int .i64 mo, .int .i64 ba, .slice va l.length vk, .int .i64 op, .int .i64 oh, .int .i64 ot, .bool st, .int .i64 fe, .int .i64 fp, .int .i64 fh, .int .i64 ft, .bool lo] 44)
  go_enter Try.func9, Try.ntmps9
  go_wp2_with fail
  refine (crossed_true _).mono ?_
  rintro e w1 ⟨rfl, b1⟩
  have X0 := ((Box.newAt (n := w.heap.size) rfl 39 #[.slice ma zs.length mc]).past _).keep b1
  have X1 := (Box.newAt (n := w.heap.size + 1) (by simp) 44 #[.int .i64 mo, .int .i64 ba, .slice va l.length vk, .int .i64 op, .int .i64 oh, .int .i64 ot, .bool st, .int .i64 fe, .int .i64 fp, .int .i64 fh, .int .i64 ft, .bool lo]).keep b1
  have B1 : Hid (Below w.heap.size w w1) := bel_trans BA.out b1
  clear b1 BA
  obtain ⟨m0, -, s0⟩ := X0.one
  go_wp2_with fail
  refine (check_any _ zs _ (HM.out.keep B1.out)).mono ?_
  rintro e w2 ⟨rfl, b2⟩
  replace X0 := X0.keep b2
  replace X1 := X1.keep b2
  have B2 : Hid (Below w.heap.size w w2) := bel_trans B1.out b2
  clear b2 B1 m0 s0
  by_cases hz : chk zs = 0
  rotate_left
  · have hq : (chk zs != 0) = true := by simpa using hz
    go_wp2_with fail
    refine (crossed_true _).mono ?_
    rintro e w3 ⟨rfl, b3⟩
    have B3 : Hid (Below w.heap.size w w3) := bel_trans B2.out b3
    clear b3 B2
    go_wp2
    go_ret
    exact ⟨rfl, B3.out⟩
  rw [hz]
  obtain ⟨⟨q0, q1, q2, q3, q4, q5, q6, q7, q8, q9, q10, q11⟩, sq⟩ := X1.twelve
  go_wp2_with fail
  refine (bCheck_any _ _ _ _ _ _ _ _ _ _ _ _ l _ (HS.out.keep B2.out)).mono ?_
  rintro e w3 ⟨rfl, b3⟩
  replace X0 := X0.keep b3
  replace X1 := X1.keep b3
  have B3 : Hid (Below w.heap.size w w3) := bel_trans B2.out b3
  clear b3 B2 q0 q1 q2 q3 q4 q5 q6 q7 q8 q9 q10 q11 sq
  by_cases hb : chkB ⟨mo, ba, l, op, oh, ot, st, fe, fp, fh, ft, lo⟩ = 0
  rotate_left
  · have hq : (chkB ⟨mo, ba, l, op, oh, ot, st, fe, fp, fh, ft, lo⟩ != 0) = true := by simpa using hb
    go_wp2_with fail
    refine (crossed_true _).mono ?_
    rintro e w4 ⟨rfl, b4⟩
    have B4 : Hid (Below w.heap.size w w4) := bel_trans B3.out b4
    clear b4 B3
    go_wp2
    go_ret
    exact ⟨rfl, B4.out⟩
  rw [hb]
  have HZ : Hid (chk zs = 0) := hz
  have HBB : Hid (chkB ⟨mo, ba, l, op, oh, ot, st, fe, fp, fh, ft, lo⟩ = 0) := hb
  obtain ⟨rp, rh, rt⟩ := chkR_ok (chkB_ok hb).2.2.2.2.2
  have Rp : Hid (0 ≤ fp ∧ fp < 64) := pageR_in rp
  have Rh : Hid (0 ≤ fh ∧ fh < 8) := stepR_in rh
  have Rt : Hid (0 ≤ ft ∧ ft < 8) := stepR_in rt
  clear hz hb rp rh rt
  obtain ⟨⟨q0, q1, q2, q3, q4, q5, q6, q7, q8, q9, q10, q11⟩, sq⟩ := X1.twelve
  go_wp2_with fail
  refine (length_any fp fh ft _ Rh.out Rt.out).mono ?_
  rintro e w4 ⟨rfl, rfl⟩
  obtain ⟨n0, hn⟩ : ∃ n : Nat, lenR fh ft = n := ⟨(lenR fh ft).toNat, by have := lenR_in fh ft; omega⟩
  have hn8 : n0 < 8 := by have := lenR_in fh ft; omega
  have HT : Hid (tlj fh n0 = ft) := by show _ = _; have := step_tail (h := fh) Rt.out; rw [hn] at this; simpa [tlj] using this
  rw [hn]
  replace X0 := X0.past (ringB fp fh ft)
  replace X1 := X1.past (ringB fp fh ft)
  have B4 : Hid (Below w.heap.size w (w3.alloc (ringB fp fh ft))) := bel_alloc B3.out _
  clear B3 q0 q1 q2 q3 q4 q5 q6 q7 q8 q9 q10 q11 sq hn
  generalize w3.alloc (ringB fp fh ft) = W at *
  obtain ⟨m0, -, s0⟩ := X0.one
  obtain ⟨⟨q0, q1, q2, q3, q4, q5, q6, q7, q8, q9, q10, q11⟩, sq⟩ := X1.twelve
  go_upto_region 5 with fail
  go_cut [9, 10] from 39 to 40 (fun s y wx => ∃ m k, s = .pointer (some ⟨m, 0, none⟩) ∧ y = .pointer (some ⟨k, 0, none⟩) ∧ Box wx m 39 #[.slice ma zs.length mc] ∧ Box wx k 44 #[.int .i64 mo, .int .i64 ba, .slice va l.length vk, .int .i64 op, .int .i64 oh, .int .i64 ot, .bool st, .int .i64 fe, .int .i64 fp, .int .i64 fh, .int .i64 ft, .bool lo] ∧ m ≠ k ∧ W.heap.size ≤ m ∧ W.heap.size ≤ k ∧ Below W.heap.size W wx)
  case first =>
    go_region
    · go_wp2_with fail
      go_meet
      exact ⟨_, _, rfl, rfl, ((Box.newAt rfl _ _).past _).drew, (Box.newAt (by simp) _ _).drew, by omega, Nat.le_refl _, by omega, Below.drew (bel_alloc (bel_alloc (Below.refl _ _) _) _)⟩
    · go_wp2_with fail
      go_meet
      exact ⟨_, _, rfl, rfl, (Box.newAt (by simp) _ _).drew, ((Box.newAt rfl _ _).past _).drew, by omega, by omega, Nat.le_refl _, Below.drew (bel_alloc (bel_alloc (Below.refl _ _) _) _)⟩
  case rest =>
    obtain ⟨m, k, rfl, rfl, XM, XK, hmk, hm, hk, Bc⟩ := hcut
    obtain ⟨wA, rfl⟩ : ∃ wA, wA = wc := ⟨wc, rfl⟩
    have BC : Hid (Below w.heap.size w wA) := bel_trans B4.out Bc
    have hmc : m < wA.heap.size := XM.lt
    have hkc : k < wA.heap.size := XK.lt
    have hwW : w.heap.size ≤ W.heap.size := B4.out.size
    clear Bc B4 X0 X1 m0 s0 q0 q1 q2 q3 q4 q5 q6 q7 q8 q9 q10 q11 sq
    go_upto_region 6 with fail
    go_cut [45, 46, 47] from 41 to 44 (fun x y z wx => ∃ (q : Nat) (b : Option Addr) (c : Nat), x = .slice b q c ∧ y = .int .i64 q ∧ z = .int .i64 0 ∧ q ≤ fl.length ∧ q ≤ 12 ∧ (q = 0 ∨ b = a2) ∧ wx = wA)
    case first =>
      have hcc := HC.out
      unfold maxLen at hcc
      by_cases hl0 : fl.length = 0
      · obtain rfl : fl = [] := List.eq_nil_of_length_eq_zero hl0
        cases a2 with
        | none =>
          go_wp2
          go_meet
          exact ⟨0, _, _, rfl, rfl, rfl, Nat.zero_le _, by omega, .inl rfl, rfl⟩
        | some ad =>
          by_cases hc0 : c2 = 0
          · subst hc0
            go_wp2
            go_meet
            exact ⟨0, _, _, rfl, rfl, rfl, Nat.zero_le _, by omega, .inl rfl, rfl⟩
          · go_wp2
            go_meet
            exact ⟨0, _, _, rfl, rfl, rfl, Nat.zero_le _, by omega, .inl rfl, rfl⟩
      · obtain ⟨b2, o2, rfl⟩ : ∃ b o, a2 = some ⟨b, o, none⟩ := by
          obtain ⟨a, c, e, _, _, hh⟩ := HU.out
          simp only [Value.slice.injEq] at e
          obtain ⟨rfl, _, rfl⟩ := e
          rcases hh with rfl | ⟨b, o, rfl, _⟩
          · exact absurd rfl hl0
          · exact ⟨b, o, rfl⟩
        have hc0 : ¬ c2 = 0 := by omega
        by_cases h12 : fl.length ≤ 12
        · have h12' : (fl.length : Int) ≤ 12 := by omega
          have hcl : (fl.length : Int) ≤ c2 := by omega
          go_wp2
          go_meet
          exact ⟨fl.length, _, _, rfl, rfl, rfl, Nat.le_refl _, h12, .inr rfl, rfl⟩
        · have h12' : ¬ (fl.length : Int) ≤ 12 := by omega
          have h12'' : (12 : Int) < fl.length := by omega
          have hcl : (12 : Int) ≤ c2 := by omega
          go_wp2
          go_meet
          exact ⟨12, _, _, rfl, rfl, rfl, by omega, Nat.le_refl _, .inr rfl, rfl⟩
    case rest =>
      obtain ⟨q, b9, c9, rfl, rfl, rfl, hq, hq12, hqb, rfl⟩ := hcut
      obtain ⟨wA, rfl⟩ : ∃ wA, wA = wc := ⟨wc, rfl⟩
      have HQ : Hid (q ≤ fl.length ∧ q ≤ 12 ∧ (q = 0 ∨ b9 = a2)) := ⟨hq, hq12, hqb⟩
      clear hq hq12 hqb HC
      have HR0 : Hid (RelF w wA.heap.size m k zs mo ba op oh ot fe fp fh st l n0 (.slice none 0 0) wA) := by
        refine ⟨[], zs, ma, mc, lo, va, vk, OwnF.nothing _ _, XM, ?_, HM.out.keep BC.out, HS.out.keep BC.out, fun g hg e => by simp [Value.ownBlock] at e, fun g hg => by simp [Value.ownBlock] at hg, ⟨HZ.out, ?_, by simp; omega, fun f hf => by simp at hf⟩, ?_, Nat.le_refl _, BC.out⟩
        · rw [List.length_nil, Nat.add_zero, HT.out]; exact XK
        · unfold wts; rw [List.map_nil, List.append_nil]; exact wl_lies _ _ _ _
        · rw [List.length_nil, Nat.add_zero, HT.out]; exact HBB.out
      clear XM XK BC HS HM HT HBB
      go_wp2
      go_loopw [8, 12, 13, 14, 15, 47] (fun v8 _ _ _ _ j47 wx => ∃ j : Nat, j ≤ q ∧ j47 = .int .i64 j ∧ RelF w wA.heap.size m k zs mo ba op oh ot fe fp fh st l n0 v8 wx) (fun _ _ _ _ _ j47 _ => q - (intOf j47).toNat)
      case atStart => exact ⟨0, Nat.zero_le _, rfl, HR0.out⟩
      case round =>
        clear HR0
        obtain ⟨j, hj, rfl, wt, zj, aj, cj, lo, va, vk, hO, XM, XK, hSj, hLj, hap, hal, hFS, hCB, hBs, hBr⟩ := hrel
        obtain ⟨a8, c8, rfl⟩ := hO.shape
        have HO : Hid (OwnF wr wA.heap.size _ wt) := hO
        have HSj : Hid (Sl wr _ zj) := hSj
        have HLj : Hid (Ls wr _ l) := hLj
        have HAP : Hid (∀ g, (Value.slice aj zj.length cj).ownBlock = some g → (Value.slice a8 wt.length c8).ownBlock ≠ some g) := hap
        have HAL : Hid (∀ g, (Value.slice a8 wt.length c8).ownBlock = some g → Apart (.slice va l.length vk) l g) := hal
        have HFS : Hid (FState zs fp fh n0 wt zj) := hFS
        have HCB : Hid (chkB ⟨mo, ba, l, op, oh, ot, st, fe, fp, fh, tlj fh (n0 + wt.length), lo⟩ = 0) := hCB
        have HBr : Hid (Below w.heap.size w wr) := hBr
        have hw7 : n0 + wt.length ≤ 7 := hFS.2.2.1
        have hq12 : q ≤ 12 := HQ.out.2.1
        clear hO hSj hLj hap hal hFS hCB hBr
        by_cases hlt : j < q
        · have hlt1 : (j : Int) < q := by omega
          obtain ⟨g1, g2, g3⟩ := HQ.out
          obtain ⟨b2, o2, cc, he2, hb2, hat⟩ := (HU.out.keep HBr.out).at (k := j) (by omega)
          simp only [Value.slice.injEq, true_and] at he2
          obtain ⟨rfl, rfl⟩ := he2
          obtain rfl : b9 = some ⟨b2, o2, none⟩ := by rcases g3 with h | h; omega; exact h
          clear g1 g2 g3
          obtain ⟨y, hy⟩ : ∃ y, y = fth fl j := ⟨_, rfl⟩
          rw [← hy] at hat
          clear hy
          obtain ⟨y1, y2, y3, y4⟩ := y
          obtain ⟨g0, g1, g2, g3⟩ := hat
          simp only at g0 g1 g2 g3
          obtain ⟨tj, htj⟩ : ∃ t, tlj fh (n0 + wt.length) = t := ⟨_, rfl⟩
          have HTJ : Hid (_ = _) := htj
          rw [htj] at XK
          clear htj
          obtain ⟨m0, m1, s0⟩ := XM.one
          obtain ⟨⟨q0, q1, q2, q3, q4, q5, q6, q7, q8, q9, q10, q11⟩, sq⟩ := XK.twelve
          have zf : b2 < wr.heap.size + 1 := by omega
          by_cases hE : tlE zj ⟨mo, ba, l, op, oh, ot, st, fe, fp, fh, tj, lo⟩ y1 y2 y3 = 0
          rotate_left
          · have HB : Hid (tlB zj ⟨mo, ba, l, op, oh, ot, st, fe, fp, fh, tj, lo⟩ y1 y2 y3 = B0) := if_neg hE
            have HM0 : Hid (tlM zj ⟨mo, ba, l, op, oh, ot, st, fe, fp, fh, tj, lo⟩ y1 y2 y3 y4 = []) := if_neg hE
            obtain ⟨E, hEE⟩ : ∃ E, tlE zj ⟨mo, ba, l, op, oh, ot, st, fe, fp, fh, tj, lo⟩ y1 y2 y3 = E := ⟨_, rfl⟩
            rw [hEE] at hE
            have HEE : Hid (_ = _) := hEE
            have hq : (E != 0) = true := by simpa using hE
            clear hEE hE
            go_wp2_with fail
            refine (tell_atF (HSj.out.alloc _) (HLj.out.alloc _) HEE.out HB.out HM0.out).mono ?_
            rintro e w5 ⟨na5, nc5, va5, vk5, rfl, -, -, b5, -, -⟩
            have b5' := bel_trans (bel_alloc (Below.refl wr.heap.size wr) (.cells #[.int .i64 y1, .int .i64 y2, .int .i64 y3, .bool y4] 25)) b5
            have HRN : Hid (RelF w wA.heap.size m k zs mo ba op oh ot fe fp fh st l n0 (.slice a8 wt.length c8) ((w5.alloc (.cells #[.slice na5 0 nc5] 39)).alloc (.cells #[.int .i64 0, .int .i64 0, .slice va5 0 vk5, .int .i64 0, .int .i64 0, .int .i64 0, .bool false, .int .i64 0, .int .i64 0, .int .i64 0, .int .i64 0, .bool false] 44))) := by
              have b6 := bel_alloc (bel_alloc b5' (.cells #[.slice na5 0 nc5] 39)) (.cells #[.int .i64 0, .int .i64 0, .slice va5 0 vk5, .int .i64 0, .int .i64 0, .int .i64 0, .bool false, .int .i64 0, .int .i64 0, .int .i64 0, .int .i64 0, .bool false] 44)
              refine ⟨wt, zj, aj, cj, lo, va, vk, HO.out.below b6, XM.keep b6, ?_, HSj.out.keep b6, HLj.out.keep b6, HAP.out, HAL.out, HFS.out, HCB.out, Nat.le_trans hBs b6.size, bel_trans HBr.out b6⟩
              rw [HTJ.out]; exact XK.keep b6
            clear b5 b5' m0 m1 s0 q0 q1 q2 q3 q4 q5 q6 q7 q8 q9 q10 q11 sq g0 g1 g2 g3 XM XK
            go_wp2
            exact ⟨⟨j + 1, by omega, by go_num, HRN.out⟩, by simp [intOf]; omega⟩
          have HE : Hid (tlE zj ⟨mo, ba, l, op, oh, ot, st, fe, fp, fh, tj, lo⟩ y1 y2 y3 = 0) := hE
          obtain ⟨hlen, hways⟩ := tell_step (x := y4) HFS.out (by rw [HTJ.out]; exact hE)
          rw [HTJ.out] at hlen hways
          clear hE
          rcases hways with ⟨hfu, hM1, hB1⟩ | ⟨hlo, h7, zn, hM1, hFn, hB1⟩
          · have HM1 : Hid (_ = _) := hM1
            have HB1 : Hid (_ = _) := hB1
            have HFU : Hid (lo = true ∨ n0 + wt.length = 7) := hfu
            have HLEN : Hid (lenR fh tj = n0 + wt.length) := hlen
            clear hM1 hB1 hfu hlen
            go_wp2_with fail
            refine (tell_atF (HSj.out.alloc _) (HLj.out.alloc _) HE.out HB1.out HM1.out).mono ?_
            rintro e w5 ⟨na5, nc5, va5, vk5, rfl, hS5, hL5, b5, hF5, hG5⟩
            have b5' := bel_trans (bel_alloc (Below.refl wr.heap.size wr) (.cells #[.int .i64 y1, .int .i64 y2, .int .i64 y3, .bool y4] 25)) b5
            have zw : wr.heap.size < w5.heap.size := by have := b5.size; simp at this; omega
            have X13 := (Box.newAt (w := w5) rfl 39 #[.slice na5 zj.length nc5]).past (.cells #[.int .i64 mo, .int .i64 ba, .slice va5 l.length vk5, .int .i64 op, .int .i64 oh, .int .i64 ot, .bool st, .int .i64 fe, .int .i64 fp, .int .i64 fh, .int .i64 tj, .bool true] 44)
            have X14 := Box.newAt (w := w5.alloc (.cells #[.slice na5 zj.length nc5] 39)) (n := w5.heap.size + 1) (by simp) 44 #[.int .i64 mo, .int .i64 ba, .slice va5 l.length vk5, .int .i64 op, .int .i64 oh, .int .i64 ot, .bool st, .int .i64 fe, .int .i64 fp, .int .i64 fh, .int .i64 tj, .bool true]
            have b6 := bel_alloc (bel_alloc b5' (.cells #[.slice na5 zj.length nc5] 39)) (.cells #[.int .i64 mo, .int .i64 ba, .slice va5 l.length vk5, .int .i64 op, .int .i64 oh, .int .i64 ot, .bool st, .int .i64 fe, .int .i64 fp, .int .i64 fh, .int .i64 tj, .bool true] 44)
            replace XM := XM.keep b6
            replace XK := XK.keep b6
            have HS6 : Hid (Sl _ _ zj) := ((hS5.keep (bel_alloc (Below.refl _ _) _)).keep (bel_alloc (Below.refl _ _) _) : Sl ((w5.alloc (.cells #[.slice na5 zj.length nc5] 39)).alloc (.cells #[.int .i64 mo, .int .i64 ba, .slice va5 l.length vk5, .int .i64 op, .int .i64 oh, .int .i64 ot, .bool st, .int .i64 fe, .int .i64 fp, .int .i64 fh, .int .i64 tj, .bool true] 44)) _ zj)
            have HSo : Hid (Sl _ _ zj) := HSj.out.keep b6
            have HL6 : Hid (Ls _ _ l) := (hL5.alloc (.cells #[.slice na5 zj.length nc5] 39)).alloc (.cells #[.int .i64 mo, .int .i64 ba, .slice va5 l.length vk5, .int .i64 op, .int .i64 oh, .int .i64 ot, .bool st, .int .i64 fe, .int .i64 fp, .int .i64 fh, .int .i64 tj, .bool true] 44)
            have HO6 : Hid (OwnF _ _ _ wt) := HO.out.below b6
            have HF5 : Hid (Fresh (wr.heap.size + 1) (.slice na5 zj.length nc5)) := by show Fresh _ _; simpa using hF5
            have HG5 : Hid (Fresh (wr.heap.size + 1) (.slice va5 l.length vk5)) := by show Fresh _ _; simpa using hG5
            have HWL : Hid (∀ g, (Value.slice a8 wt.length c8).ownBlock = some g → g < wr.heap.size) := HO.out.lt
            have B6 : Hid (Below w.heap.size w _) := bel_trans HBr.out b6
            have hBs6 := Nat.le_trans hBs b6.size
            have n13 : ¬ w5.heap.size = m := by omega
            have n13' : ¬ w5.heap.size = k := by omega
            have n14 : ¬ w5.heap.size + 1 = m := by omega
            have n14' : ¬ w5.heap.size + 1 = k := by omega
            clear b5 b5' b6 hS5 hL5 hF5 hG5 m0 m1 s0 q0 q1 q2 q3 q4 q5 q6 q7 q8 q9 q10 q11 sq g0 g1 g2 g3 HSj HLj HO HBr zf
            go_upto_region 13 with fail
            generalize ((w5.alloc (.cells #[.slice na5 zj.length nc5] 39)).alloc (.cells #[.int .i64 mo, .int .i64 ba, .slice va5 l.length vk5, .int .i64 op, .int .i64 oh, .int .i64 ot, .bool st, .int .i64 fe, .int .i64 fp, .int .i64 fh, .int .i64 tj, .bool true] 44)) = W6 at *
            generalize w5.heap.size = P at *
            go_cut [88] from 68 to 88 (fun s wx => s = .bool false ∧ Below W6.heap.size W6 wx)
            case first =>
              obtain ⟨⟨-, -, -, -, -, -, -, -, k8, k9, k10, k11⟩, sk⟩ := XK.twelve
              obtain ⟨⟨-, -, -, -, -, -, -, -, -, -, -, e11⟩, se⟩ := X14.twelve
              obtain ⟨m0, -, s0⟩ := XM.one
              obtain ⟨p0, -, s1⟩ := X13.one
              have RTJ : 0 ≤ tj ∧ tj < 8 := by rw [← HTJ.out]; exact stepR_in (step_in fh (n0 + wt.length))
              have HRTJ : Hid (0 ≤ tj ∧ tj < 8) := RTJ
              clear X13 X14 XM XK HL6 HO6 B6 RTJ
              cases lo
              · have H7 : Hid (lenR fh tj = 7) := by
                  show _ = _
                  rcases HFU.out with h | h
                  · exact absurd h (by decide)
                  · rw [HLEN.out]; omega
                clear HQ HU HZ HTJ HE HAP HAL HFS HCB HFU HLEN HM1 HB1 HF5 HG5 HWL hBs6 n13 n13' n14 n14' hw7 hq12 Rp Rt zw hlt1 hmc hkc hwW hm hk hj hlt hn8
                refine wp_region_held_drew (S := (fun w' => w'.cell? ⟨P + 1, 11, none⟩ = some (.bool true) ∧ w'.cell? ⟨k, 8, none⟩ = some (.int .i64 fp) ∧ w'.cell? ⟨k, 9, none⟩ = some (.int .i64 fh) ∧ w'.cell? ⟨k, 10, none⟩ = some (.int .i64 tj) ∧ w'.cell? ⟨k, 11, none⟩ = some (.bool false) ∧ w'.cell? ⟨m, 0, none⟩ = some (.slice aj zj.length cj) ∧ w'.cell? ⟨P, 0, none⟩ = some (.slice na5 zj.length nc5) ∧ Below W6.heap.size W6 w')) (by kernel_rfl) (keep7 e11 k8 k9 k10 k11 m0 p0 se sk s0 s1 (Below.drew (Below.refl _ _))) (fun hHeld => ?_)
                refine wpHeld_takeL (i := 0) (v := ?_) rfl (by kernel_rfl) (by kernel_rfl) (by kernel_rfl) (fun _ _ _ h => h) (Or.inl ⟨by kernel_rfl, ?_⟩) (by assumption) ?_
                rotate_left 1
                focus (intro wz hSz; (try dsimp only at hSz); go_simp; (try with_reducible rfl))
                simp only [Act.put, List.setIfInBounds_toArray, List.set_cons_zero, List.set_cons_succ]
                refine wpHeld_takeL (i := 1) (v := ?_) rfl (by kernel_rfl) (by kernel_rfl) (by kernel_rfl) (fun _ _ _ h => h) (Or.inl ⟨by kernel_rfl, ?_⟩) (by assumption) ?_
                rotate_left 1
                focus (intro wz hSz; (try dsimp only at hSz); go_simp; (try with_reducible rfl))
                simp only [Act.put, List.setIfInBounds_toArray, List.set_cons_zero, List.set_cons_succ]
                refine wpHeld_takeL (i := 2) (v := ?_) rfl (by kernel_rfl) (by kernel_rfl) (by kernel_rfl) (fun _ _ _ h => h) (Or.inl ⟨by kernel_rfl, ?_⟩) (by assumption) ?_
                rotate_left 1
                focus (intro wz hSz; (try dsimp only at hSz); go_simp; (try with_reducible rfl))
                simp only [Act.put, List.setIfInBounds_toArray, List.set_cons_zero, List.set_cons_succ]
                refine wpHeld_takeL (i := 3) (v := ?_) rfl (by kernel_rfl) (by kernel_rfl) (by kernel_rfl) (fun _ _ _ h => h) (Or.inl ⟨by kernel_rfl, ?_⟩) (by assumption) ?_
                rotate_left 1
                focus (intro wz hSz; (try dsimp only at hSz); go_simp; (try with_reducible rfl))
                simp only [Act.put, List.setIfInBounds_toArray, List.set_cons_zero, List.set_cons_succ]
                refine wpHeld_takeL (i := 4) (v := ?_) rfl (by kernel_rfl) (by kernel_rfl) (by kernel_rfl) (fun _ _ _ h => h) (Or.inl ⟨by kernel_rfl, ?_⟩) (by assumption) ?_
                rotate_left 1
                focus (intro wz hSz; (try dsimp only at hSz); go_simp; (try with_reducible rfl))
                simp only [Act.put, List.setIfInBounds_toArray, List.set_cons_zero, List.set_cons_succ]
                refine wpHeld_takeL (i := 5) (v := ?_) rfl (by kernel_rfl) (by kernel_rfl) (by kernel_rfl) (fun _ _ _ h => h) (Or.inl ⟨by kernel_rfl, ?_⟩) (by assumption) ?_
                rotate_left 1
                focus (intro wz hSz; (try dsimp only at hSz); go_simp; (try with_reducible rfl))
                simp only [Act.put, List.setIfInBounds_toArray, List.set_cons_zero, List.set_cons_succ]
                refine wpHeld_takeL (i := 6) (v := ?_) rfl (by kernel_rfl) (by kernel_rfl) (by kernel_rfl) (fun _ _ _ h => h) (Or.inl ⟨by kernel_rfl, ?_⟩) (by assumption) ?_
                rotate_left 1
                focus (intro wz hSz; (try dsimp only at hSz); go_simp; (try with_reducible rfl))
                simp only [Act.put, List.setIfInBounds_toArray, List.set_cons_zero, List.set_cons_succ]
                refine wpHeld_oneL (i := 7) (by kernel_rfl) (by rfl) (fun K hK => ?_)
                go_simp
                refine (length_any fp fh tj _ Rh.out HRTJ.out).mono ?_
                rintro e w7 ⟨rfl, rfl⟩
                go_wp2_with fail
                refine hK.out _ _ ?_ (fun hHeld2 => ?_)
                · refine keep7 e11 k8 k9 k10 k11 m0 p0 se sk s0 s1 ?_; exact bel_alloc (limb8 hHeld) _
                clear hK K hHeld
                have hHeld := hHeld2
                clear hHeld2
                rw [H7.out]
                refine wpHeld_takeL (i := 8) (v := ?_) rfl (by kernel_rfl) (by kernel_rfl) (by kernel_rfl) (fun _ _ _ h => h) (Or.inl ⟨by kernel_rfl, ?_⟩) (by assumption) ?_
                rotate_left 1
                focus (intro wz hSz; (try dsimp only at hSz); go_simp; (try with_reducible rfl))
                simp only [Act.put, List.setIfInBounds_toArray, List.set_cons_zero, List.set_cons_succ]
                refine wpHeld_takeL (i := 9) (v := ?_) rfl (by kernel_rfl) (by kernel_rfl) (by kernel_rfl) (fun _ _ _ h => h) (Or.inl ⟨by kernel_rfl, ?_⟩) (by assumption) ?_
                rotate_left 1
                focus (intro wz hSz; (try dsimp only at hSz); go_simp; (try with_reducible rfl))
                simp only [Act.put, List.setIfInBounds_toArray, List.set_cons_zero, List.set_cons_succ]
                refine wpHeld_takeL (i := 10) (v := ?_) rfl (by kernel_rfl) (by kernel_rfl) (by kernel_rfl) (fun _ _ _ h => h) (Or.inl ⟨by kernel_rfl, ?_⟩) (by assumption) ?_
                rotate_left 1
                focus (intro wz hSz; (try dsimp only at hSz); go_simp; (try with_reducible rfl))
                simp only [Act.put, List.setIfInBounds_toArray, List.set_cons_zero, List.set_cons_succ]
                refine wpHeld_takeL (i := 11) (v := ?_) rfl (by kernel_rfl) (by kernel_rfl) (by kernel_rfl) (fun _ _ _ h => h) (Or.inl ⟨by kernel_rfl, ?_⟩) (by assumption) ?_
                rotate_left 1
                focus (intro wz hSz; (try dsimp only at hSz); go_simp; (try with_reducible rfl))
                simp only [Act.put, List.setIfInBounds_toArray, List.set_cons_zero, List.set_cons_succ]
                refine wpHeld_takeL (i := 12) (v := ?_) rfl (by kernel_rfl) (by kernel_rfl) (by kernel_rfl) (fun _ _ _ h => h) (Or.inl ⟨by kernel_rfl, ?_⟩) (by assumption) ?_
                rotate_left 1
                focus (intro wz hSz; (try dsimp only at hSz); go_simp; (try with_reducible rfl))
                simp only [Act.put, List.setIfInBounds_toArray, List.set_cons_zero, List.set_cons_succ]
                refine wpHeld_takeL (i := 13) (v := ?_) rfl (by kernel_rfl) (by kernel_rfl) (by kernel_rfl) (fun _ _ _ h => h) (Or.inl ⟨by kernel_rfl, ?_⟩) (by assumption) ?_
                rotate_left 1
                focus (intro wz hSz; (try dsimp only at hSz); go_simp; (try with_reducible rfl))
                simp only [Act.put, List.setIfInBounds_toArray, List.set_cons_zero, List.set_cons_succ]
                refine wpHeld_takeL (i := 14) (v := ?_) rfl (by kernel_rfl) (by kernel_rfl) (by kernel_rfl) (fun _ _ _ h => h) (Or.inl ⟨by kernel_rfl, ?_⟩) (by assumption) ?_
                rotate_left 1
                focus (intro wz hSz; (try dsimp only at hSz); go_simp; (try with_reducible rfl))
                simp only [Act.put, List.setIfInBounds_toArray, List.set_cons_zero, List.set_cons_succ]
                refine wpHeld_takeL (i := 15) (v := ?_) rfl (by kernel_rfl) (by kernel_rfl) (by kernel_rfl) (fun _ _ _ h => h) (Or.inl ⟨by kernel_rfl, ?_⟩) (by assumption) ?_
                rotate_left 1
                focus (intro wz hSz; (try dsimp only at hSz); go_simp; (try with_reducible rfl))
                simp only [Act.put, List.setIfInBounds_toArray, List.set_cons_zero, List.set_cons_succ]
                refine wpHeld_takeL (i := 16) (v := ?_) rfl (by kernel_rfl) (by kernel_rfl) (by kernel_rfl) (fun _ _ _ h => h) (Or.inl ⟨by kernel_rfl, ?_⟩) (by assumption) ?_
                rotate_left 1
                focus (intro wz hSz; (try dsimp only at hSz); go_simp; (try with_reducible rfl))
                simp only [Act.put, List.setIfInBounds_toArray, List.set_cons_zero, List.set_cons_succ]
                refine wpHeld_oneL (i := 17) (by kernel_rfl) (by rfl) (fun K hK => ?_)
                go_simp
                refine (same_any _ _ zj zj _ ?_ ?_).mono ?_
                · exact HSo.out.keep (limb8 hHeld)
                · exact HS6.out.keep (limb8 hHeld)
                rintro e w8 ⟨rfl, b8⟩
                go_wp2_with fail
                refine hK.out _ _ ?_ (fun hHeld2 => ?_)
                · refine keep7 e11 k8 k9 k10 k11 m0 p0 se sk s0 s1 ?_; exact bel_trans (limb8 hHeld) b8
                clear hK K hHeld
                have hHeld := hHeld2
                clear hHeld2
                refine wpHeld_takeL (i := 18) (v := ?_) rfl (by kernel_rfl) (by kernel_rfl) (by kernel_rfl) (fun _ _ _ h => h) (Or.inl ⟨by kernel_rfl, ?_⟩) (by assumption) ?_
                rotate_left 1
                focus (intro wz hSz; (try dsimp only at hSz); go_simp; (try with_reducible rfl))
                simp only [Act.put, List.setIfInBounds_toArray, List.set_cons_zero, List.set_cons_succ]
                refine wpHeld_takeL (i := 19) (v := ?_) rfl (by kernel_rfl) (by kernel_rfl) (by kernel_rfl) (fun _ _ _ h => h) (Or.inl ⟨by kernel_rfl, ?_⟩) (by assumption) ?_
                rotate_left 1
                focus (intro wz hSz; (try dsimp only at hSz); go_simp; (try with_reducible rfl))
                simp only [Act.put, List.setIfInBounds_toArray, List.set_cons_zero, List.set_cons_succ]
                refine wpHeld_takeL (i := 20) (v := ?_) rfl (by kernel_rfl) (by kernel_rfl) (by kernel_rfl) (fun _ _ _ h => h) (Or.inl ⟨by kernel_rfl, ?_⟩) (by assumption) ?_
                rotate_left 1
                focus (intro wz hSz; (try dsimp only at hSz); go_simp; (try with_reducible rfl))
                simp only [Act.put, List.setIfInBounds_toArray, List.set_cons_zero, List.set_cons_succ]
                refine wpAnyH_done (by kernel_rfl) ?_ _
                have hB := limb8 hHeld
                clear hHeld
                go_wp2_with fail
                go_meet
                exact ⟨rfl, hB⟩
              · clear HQ HU HZ HTJ HE HAP HAL HFS HCB HFU HLEN HM1 HB1 HF5 HG5 HWL hBs6 n13 n13' n14 n14' hw7 hq12 Rp Rt zw hlt1 hmc hkc hwW hm hk hj hlt hn8
                refine wp_region_held_drew (S := (fun w' => w'.cell? ⟨P + 1, 11, none⟩ = some (.bool true) ∧ w'.cell? ⟨k, 8, none⟩ = some (.int .i64 fp) ∧ w'.cell? ⟨k, 9, none⟩ = some (.int .i64 fh) ∧ w'.cell? ⟨k, 10, none⟩ = some (.int .i64 tj) ∧ w'.cell? ⟨k, 11, none⟩ = some (.bool true) ∧ w'.cell? ⟨m, 0, none⟩ = some (.slice aj zj.length cj) ∧ w'.cell? ⟨P, 0, none⟩ = some (.slice na5 zj.length nc5) ∧ Below W6.heap.size W6 w')) (by kernel_rfl) (keep7 e11 k8 k9 k10 k11 m0 p0 se sk s0 s1 (Below.drew (Below.refl _ _))) (fun hHeld => ?_)
                refine wpHeld_takeL (i := 0) (v := ?_) rfl (by kernel_rfl) (by kernel_rfl) (by kernel_rfl) (fun _ _ _ h => h) (Or.inl ⟨by kernel_rfl, ?_⟩) (by assumption) ?_
                rotate_left 1
                focus (intro wz hSz; (try dsimp only at hSz); go_simp; (try with_reducible rfl))
                simp only [Act.put, List.setIfInBounds_toArray, List.set_cons_zero, List.set_cons_succ]
                refine wpHeld_takeL (i := 1) (v := ?_) rfl (by kernel_rfl) (by kernel_rfl) (by kernel_rfl) (fun _ _ _ h => h) (Or.inl ⟨by kernel_rfl, ?_⟩) (by assumption) ?_
                rotate_left 1
                focus (intro wz hSz; (try dsimp only at hSz); go_simp; (try with_reducible rfl))
                simp only [Act.put, List.setIfInBounds_toArray, List.set_cons_zero, List.set_cons_succ]
                refine wpHeld_takeL (i := 2) (v := ?_) rfl (by kernel_rfl) (by kernel_rfl) (by kernel_rfl) (fun _ _ _ h => h) (Or.inl ⟨by kernel_rfl, ?_⟩) (by assumption) ?_
                rotate_left 1
                focus (intro wz hSz; (try dsimp only at hSz); go_simp; (try with_reducible rfl))
                simp only [Act.put, List.setIfInBounds_toArray, List.set_cons_zero, List.set_cons_succ]
                refine wpHeld_takeL (i := 3) (v := ?_) rfl (by kernel_rfl) (by kernel_rfl) (by kernel_rfl) (fun _ _ _ h => h) (Or.inl ⟨by kernel_rfl, ?_⟩) (by assumption) ?_
                rotate_left 1
                focus (intro wz hSz; (try dsimp only at hSz); go_simp; (try with_reducible rfl))
                simp only [Act.put, List.setIfInBounds_toArray, List.set_cons_zero, List.set_cons_succ]
                refine wpHeld_takeL (i := 4) (v := ?_) rfl (by kernel_rfl) (by kernel_rfl) (by kernel_rfl) (fun _ _ _ h => h) (Or.inl ⟨by kernel_rfl, ?_⟩) (by assumption) ?_
                rotate_left 1
                focus (intro wz hSz; (try dsimp only at hSz); go_simp; (try with_reducible rfl))
                simp only [Act.put, List.setIfInBounds_toArray, List.set_cons_zero, List.set_cons_succ]
                refine wpHeld_takeL (i := 5) (v := undef) rfl (by kernel_rfl) (by kernel_rfl) (by kernel_rfl) (fun _ _ _ h => h) (Or.inr ⟨by kernel_rfl, rfl⟩) (by assumption) ?_
                simp only [Act.put, List.setIfInBounds_toArray, List.set_cons_zero, List.set_cons_succ]
                refine wpHeld_takeL (i := 6) (v := undef) rfl (by kernel_rfl) (by kernel_rfl) (by kernel_rfl) (fun _ _ _ h => h) (Or.inr ⟨by kernel_rfl, rfl⟩) (by assumption) ?_
                simp only [Act.put, List.setIfInBounds_toArray, List.set_cons_zero, List.set_cons_succ]
                refine wpHeld_takeL (i := 7) (v := undef) rfl (by kernel_rfl) (by kernel_rfl) (by kernel_rfl) (fun _ _ _ h => h) (Or.inr ⟨by kernel_rfl, rfl⟩) (by assumption) ?_
                simp only [Act.put, List.setIfInBounds_toArray, List.set_cons_zero, List.set_cons_succ]
                refine wpHeld_takeL (i := 8) (v := undef) rfl (by kernel_rfl) (by kernel_rfl) (by kernel_rfl) (fun _ _ _ h => h) (Or.inr ⟨by kernel_rfl, rfl⟩) (by assumption) ?_
                simp only [Act.put, List.setIfInBounds_toArray, List.set_cons_zero, List.set_cons_succ]
                refine wpHeld_takeL (i := 9) (v := ?_) rfl (by kernel_rfl) (by kernel_rfl) (by kernel_rfl) (fun _ _ _ h => h) (Or.inl ⟨by kernel_rfl, ?_⟩) (by assumption) ?_
                rotate_left 1
                focus (intro wz hSz; (try dsimp only at hSz); go_simp; (try with_reducible rfl))
                simp only [Act.put, List.setIfInBounds_toArray, List.set_cons_zero, List.set_cons_succ]
                refine wpHeld_takeL (i := 10) (v := ?_) rfl (by kernel_rfl) (by kernel_rfl) (by kernel_rfl) (fun _ _ _ h => h) (Or.inl ⟨by kernel_rfl, ?_⟩) (by assumption) ?_
                rotate_left 1
                focus (intro wz hSz; (try dsimp only at hSz); go_simp; (try with_reducible rfl))
                simp only [Act.put, List.setIfInBounds_toArray, List.set_cons_zero, List.set_cons_succ]
                refine wpHeld_takeL (i := 11) (v := ?_) rfl (by kernel_rfl) (by kernel_rfl) (by kernel_rfl) (fun _ _ _ h => h) (Or.inl ⟨by kernel_rfl, ?_⟩) (by assumption) ?_
                rotate_left 1
                focus (intro wz hSz; (try dsimp only at hSz); go_simp; (try with_reducible rfl))
                simp only [Act.put, List.setIfInBounds_toArray, List.set_cons_zero, List.set_cons_succ]
                refine wpHeld_takeL (i := 12) (v := ?_) rfl (by kernel_rfl) (by kernel_rfl) (by kernel_rfl) (fun _ _ _ h => h) (Or.inl ⟨by kernel_rfl, ?_⟩) (by assumption) ?_
                rotate_left 1
                focus (intro wz hSz; (try dsimp only at hSz); go_simp; (try with_reducible rfl))
                simp only [Act.put, List.setIfInBounds_toArray, List.set_cons_zero, List.set_cons_succ]
                refine wpHeld_takeL (i := 13) (v := ?_) rfl (by kernel_rfl) (by kernel_rfl) (by kernel_rfl) (fun _ _ _ h => h) (Or.inl ⟨by kernel_rfl, ?_⟩) (by assumption) ?_
                rotate_left 1
                focus (intro wz hSz; (try dsimp only at hSz); go_simp; (try with_reducible rfl))
                simp only [Act.put, List.setIfInBounds_toArray, List.set_cons_zero, List.set_cons_succ]
                refine wpHeld_takeL (i := 14) (v := ?_) rfl (by kernel_rfl) (by kernel_rfl) (by kernel_rfl) (fun _ _ _ h => h) (Or.inl ⟨by kernel_rfl, ?_⟩) (by assumption) ?_
                rotate_left 1
                focus (intro wz hSz; (try dsimp only at hSz); go_simp; (try with_reducible rfl))
                simp only [Act.put, List.setIfInBounds_toArray, List.set_cons_zero, List.set_cons_succ]
                refine wpHeld_takeL (i := 15) (v := ?_) rfl (by kernel_rfl) (by kernel_rfl) (by kernel_rfl) (fun _ _ _ h => h) (Or.inl ⟨by kernel_rfl, ?_⟩) (by assumption) ?_
                rotate_left 1
                focus (intro wz hSz; (try dsimp only at hSz); go_simp; (try with_reducible rfl))
                simp only [Act.put, List.setIfInBounds_toArray, List.set_cons_zero, List.set_cons_succ]
                refine wpHeld_takeL (i := 16) (v := ?_) rfl (by kernel_rfl) (by kernel_rfl) (by kernel_rfl) (fun _ _ _ h => h) (Or.inl ⟨by kernel_rfl, ?_⟩) (by assumption) ?_
                rotate_left 1
                focus (intro wz hSz; (try dsimp only at hSz); go_simp; (try with_reducible rfl))
                simp only [Act.put, List.setIfInBounds_toArray, List.set_cons_zero, List.set_cons_succ]
                refine wpHeld_oneL (i := 17) (by kernel_rfl) (by rfl) (fun K hK => ?_)
                go_simp
                refine (same_any _ _ zj zj _ ?_ ?_).mono ?_
                · exact HSo.out.keep (limb8 hHeld)
                · exact HS6.out.keep (limb8 hHeld)
                rintro e w8 ⟨rfl, b8⟩
                go_wp2_with fail
                refine hK.out _ _ ?_ (fun hHeld2 => ?_)
                · refine keep7 e11 k8 k9 k10 k11 m0 p0 se sk s0 s1 ?_; exact bel_trans (limb8 hHeld) b8
                clear hK K hHeld
                have hHeld := hHeld2
                clear hHeld2
                refine wpHeld_takeL (i := 18) (v := ?_) rfl (by kernel_rfl) (by kernel_rfl) (by kernel_rfl) (fun _ _ _ h => h) (Or.inl ⟨by kernel_rfl, ?_⟩) (by assumption) ?_
                rotate_left 1
                focus (intro wz hSz; (try dsimp only at hSz); go_simp; (try with_reducible rfl))
                simp only [Act.put, List.setIfInBounds_toArray, List.set_cons_zero, List.set_cons_succ]
                refine wpHeld_takeL (i := 19) (v := ?_) rfl (by kernel_rfl) (by kernel_rfl) (by kernel_rfl) (fun _ _ _ h => h) (Or.inl ⟨by kernel_rfl, ?_⟩) (by assumption) ?_
                rotate_left 1
                focus (intro wz hSz; (try dsimp only at hSz); go_simp; (try with_reducible rfl))
                simp only [Act.put, List.setIfInBounds_toArray, List.set_cons_zero, List.set_cons_succ]
                refine wpHeld_takeL (i := 20) (v := ?_) rfl (by kernel_rfl) (by kernel_rfl) (by kernel_rfl) (fun _ _ _ h => h) (Or.inl ⟨by kernel_rfl, ?_⟩) (by assumption) ?_
                rotate_left 1
                focus (intro wz hSz; (try dsimp only at hSz); go_simp; (try with_reducible rfl))
                simp only [Act.put, List.setIfInBounds_toArray, List.set_cons_zero, List.set_cons_succ]
                refine wpAnyH_done (by kernel_rfl) ?_ _
                have hB := limb8 hHeld
                clear hHeld
                go_wp2_with fail
                go_meet
                exact ⟨rfl, hB⟩
            case rest =>
              obtain ⟨rfl, bc⟩ := hcut
              obtain ⟨wB, rfl⟩ : ∃ wB, wB = wc := ⟨wc, rfl⟩
              replace XM := XM.keep bc
              replace XK := XK.keep bc
              replace X13 := X13.keep bc
              replace X14 := X14.keep bc
              have HS7 : Hid (Sl wB _ zj) := HS6.out.keep bc
              have HL7 : Hid (Ls wB _ l) := HL6.out.keep bc
              have HO7 : Hid (OwnF wB _ _ wt) := HO6.out.below bc
              have B7 : Hid (Below w.heap.size w wB) := bel_trans B6.out bc
              have hBs7 := Nat.le_trans hBs6 bc.size
              have APm : Hid (Apart _ _ _) := HL7.out.apart1 XM
              have APk : Hid (Apart _ _ _) := HL7.out.apart XK
              have Fm : Hid ((Value.slice na5 zj.length nc5).ownBlock ≠ some m) := HF5.out.ne (by omega)
              have Fk : Hid ((Value.slice na5 zj.length nc5).ownBlock ≠ some k) := HF5.out.ne (by omega)
              clear bc HS6 HL6 HO6 B6 hBs6 HSo
              obtain ⟨m0, m1, s0⟩ := XM.one
              obtain ⟨p0, -, s1⟩ := X13.one
              obtain ⟨⟨q0, q1, q2, q3, q4, q5, q6, q7, q8, q9, q10, q11⟩, sq⟩ := XK.twelve
              obtain ⟨y0, y1', y2', y3', y4', y5, y6, y7, y8, y9, y10, y11⟩ := XK.marks
              obtain ⟨⟨e0, e1, e2, e3, e4, e5, e6, e7, e8, e9, e10, e11⟩, se⟩ := X14.twelve
              have HRN : Hid (∀ wz, wz = (((((((((((((wB.setCell ⟨m, 0, none⟩ (.slice na5 zj.length nc5)).setCell ⟨k, 0, none⟩ (.int .i64 mo)).setCell ⟨k, 1, none⟩ (.int .i64 ba)).setCell ⟨k, 2, none⟩ (.slice va5 l.length vk5)).setCell ⟨k, 3, none⟩ (.int .i64 op)).setCell ⟨k, 4, none⟩ (.int .i64 oh)).setCell ⟨k, 5, none⟩ (.int .i64 ot)).setCell ⟨k, 6, none⟩ (.bool st)).setCell ⟨k, 7, none⟩ (.int .i64 fe)).setCell ⟨k, 8, none⟩ (.int .i64 fp)).setCell ⟨k, 9, none⟩ (.int .i64 fh)).setCell ⟨k, 10, none⟩ (.int .i64 tj)).setCell ⟨k, 11, none⟩ (.bool true)).drew → RelF w wA.heap.size m k zs mo ba op oh ot fe fp fh st l n0 (.slice a8 wt.length c8) wz) := by
                intro wz hwz
                subst hwz
                refine ⟨wt, zj, na5, nc5, true, va5, vk5, ?_, ?_, ?_, ?_, ?_, ?_, ?_, HFS.out, HCB.out, ?_, ?_⟩
                · exact OwnF.drew ((HO7.out.set (p := ⟨m, 0, none⟩) rfl hmc _).set12 hkc _ _ _ _ _ _ _ _ _ _ _ _)
                · exact Box.drew ((XM.set1 _).other12 hmk _ _ _ _ _ _ _ _ _ _ _ _)
                · rw [HTJ.out]
                  exact Box.drew ((XK.other (p := ⟨m, 0, none⟩) (fun e => hmk e.symm) _).set12 _ _ _ _ _ _ _ _ _ _ _ _)
                · exact Sl.drew (Sl.put12 (Sl.setOther (p := ⟨m, 0, none⟩) HS7.out Fm.out _) Fk.out _ _ _ _ _ _ _ _ _ _ _ _)
                · exact Ls.drew ((HL7.out.putAt APm.out 0 _).put12 APk.out _ _ _ _ _ _ _ _ _ _ _ _)
                · intro g hg e
                  have := HF5.out g hg
                  have := HWL.out g e
                  omega
                · intro g hg
                  exact HG5.out.apart (by have := HWL.out g hg; omega)
                · simp only [szC, szD]; exact hBs7
                · exact Below.drew (bel_set12 (by omega) (bel_set (p := ⟨m, 0, none⟩) (by dsimp only; omega) B7.out _) _ _ _ _ _ _ _ _ _ _ _ _)
              clear XM XK X13 X14 HS7 HL7 HO7 B7 APm APk Fm Fk
              go_wp2
              go_region
              go_wp2
              exact ⟨⟨j + 1, by omega, by go_num, HRN.out _ rfl⟩, by simp [intOf]; omega⟩
          · subst hlo
            have HM1 : Hid (_ = _) := hM1
            have HFn : Hid (FState zs fp fh n0 (wt ++ [(y1, y2, y3, y4)]) zn) := hFn
            have H7 : Hid (n0 + wt.length < 7) := h7
            have HLEN : Hid (lenR fh tj = n0 + wt.length) := hlen
            obtain ⟨tn, htn⟩ : ∃ t, tlj fh (n0 + (wt ++ [((y1, y2, y3, y4) : Fl)]).length) = t := ⟨_, rfl⟩
            rw [htn] at hB1
            have HTN : Hid (_ = _) := htn
            have HB1 : Hid (_ = _) := hB1
            have HCn : Hid (chkB ⟨mo, ba, l, op, oh, ot, st, fe, fp, fh, tn, false⟩ = 0) := by show _ = _; rw [← hB1]; exact (tl_good y4 HE.out).2.1
            clear hM1 hFn h7 hlen htn hB1
            go_wp2_with fail
            refine (tell_atF (HSj.out.alloc _) (HLj.out.alloc _) HE.out HB1.out HM1.out).mono ?_
            rintro e w5 ⟨na5, nc5, va5, vk5, rfl, hS5, hL5, b5, hF5, hG5⟩
            have b5' := bel_trans (bel_alloc (Below.refl wr.heap.size wr) (.cells #[.int .i64 y1, .int .i64 y2, .int .i64 y3, .bool y4] 25)) b5
            have zw : wr.heap.size < w5.heap.size := by have := b5.size; simp at this; omega
            have XF := ((((Box.newAt (w := wr) rfl 25 #[.int .i64 y1, .int .i64 y2, .int .i64 y3, .bool y4]).keep b5).past (.cells #[.slice na5 zn.length nc5] 39)).past (.cells #[.int .i64 mo, .int .i64 ba, .slice va5 l.length vk5, .int .i64 op, .int .i64 oh, .int .i64 ot, .bool st, .int .i64 fe, .int .i64 fp, .int .i64 fh, .int .i64 tn, .bool false] 44))
            have X13 := (Box.newAt (w := w5) rfl 39 #[.slice na5 zn.length nc5]).past (.cells #[.int .i64 mo, .int .i64 ba, .slice va5 l.length vk5, .int .i64 op, .int .i64 oh, .int .i64 ot, .bool st, .int .i64 fe, .int .i64 fp, .int .i64 fh, .int .i64 tn, .bool false] 44)
            have X14 := Box.newAt (w := w5.alloc (.cells #[.slice na5 zn.length nc5] 39)) (n := w5.heap.size + 1) (by simp) 44 #[.int .i64 mo, .int .i64 ba, .slice va5 l.length vk5, .int .i64 op, .int .i64 oh, .int .i64 ot, .bool st, .int .i64 fe, .int .i64 fp, .int .i64 fh, .int .i64 tn, .bool false]
            have b6 := bel_alloc (bel_alloc b5' (.cells #[.slice na5 zn.length nc5] 39)) (.cells #[.int .i64 mo, .int .i64 ba, .slice va5 l.length vk5, .int .i64 op, .int .i64 oh, .int .i64 ot, .bool st, .int .i64 fe, .int .i64 fp, .int .i64 fh, .int .i64 tn, .bool false] 44)
            replace XM := XM.keep b6
            replace XK := XK.keep b6
            have HS6 : Hid (Sl _ _ zn) := (hS5.alloc (.cells #[.slice na5 zn.length nc5] 39)).alloc (.cells #[.int .i64 mo, .int .i64 ba, .slice va5 l.length vk5, .int .i64 op, .int .i64 oh, .int .i64 ot, .bool st, .int .i64 fe, .int .i64 fp, .int .i64 fh, .int .i64 tn, .bool false] 44)
            have HSo : Hid (Sl _ _ zj) := HSj.out.keep b6
            have HL6 : Hid (Ls _ _ l) := (hL5.alloc (.cells #[.slice na5 zn.length nc5] 39)).alloc (.cells #[.int .i64 mo, .int .i64 ba, .slice va5 l.length vk5, .int .i64 op, .int .i64 oh, .int .i64 ot, .bool st, .int .i64 fe, .int .i64 fp, .int .i64 fh, .int .i64 tn, .bool false] 44)
            have HO6 : Hid (OwnF _ _ _ wt) := HO.out.below b6
            have HF5 : Hid (Fresh (wr.heap.size + 1) (.slice na5 zn.length nc5)) := by show Fresh _ _; simpa using hF5
            have HG5 : Hid (Fresh (wr.heap.size + 1) (.slice va5 l.length vk5)) := by show Fresh _ _; simpa using hG5
            have HWL : Hid (∀ g, (Value.slice a8 wt.length c8).ownBlock = some g → g < wr.heap.size) := HO.out.lt
            have B6 : Hid (Below w.heap.size w _) := bel_trans HBr.out b6
            have hBs6 := Nat.le_trans hBs b6.size
            have hrow : ∀ n, wr.heap.size ≤ n → some n ≠ (Value.slice a8 wt.length c8).ownBlock := fun n hn e => by have := HWL.out n e.symm; omega
            have hlow : ∀ n, n < wA.heap.size → some n ≠ (Value.slice a8 wt.length c8).ownBlock := fun n hn e => by have := HO.out.base n e.symm; omega
            have HROW : Hid (∀ n, wr.heap.size ≤ n → some n ≠ (Value.slice a8 wt.length c8).ownBlock) := hrow
            have HLOW : Hid (∀ n, n < wA.heap.size → some n ≠ (Value.slice a8 wt.length c8).ownBlock) := hlow
            clear b5 b5' b6 hS5 hL5 hF5 hG5 m0 m1 s0 q0 q1 q2 q3 q4 q5 q6 q7 q8 q9 q10 q11 sq g0 g1 g2 g3 HSj HLj HO HBr zf hrow hlow
            obtain ⟨⟨-, -, -, -, -, -, -, -, -, -, -, e11⟩, se⟩ := X14.twelve
            obtain ⟨f0, f1, f2, f3, -, -, -, -, sf⟩ := XF.four
            go_upto_region 12 with fail
            generalize ((w5.alloc (.cells #[.slice na5 zn.length nc5] 39)).alloc (.cells #[.int .i64 mo, .int .i64 ba, .slice va5 l.length vk5, .int .i64 op, .int .i64 oh, .int .i64 ot, .bool st, .int .i64 fe, .int .i64 fp, .int .i64 fh, .int .i64 tn, .bool false] 44)) = W6 at *
            have zP : wr.heap.size < w5.heap.size := zw
            generalize w5.heap.size = P at *
            generalize hPf : wr.heap.size = Pf at *
            go_wp2_with (at_builtin; refine wpList_append_F rfl (.tmp 64) (.tmp 66) rfl wA.heap.size _ _ wt [(y1, y2, y3, y4)] rfl rfl (HO6.out.alloc _) (fs_oneAt (by simp) _ _ _ _ _) (by simp; omega) (by simp; omega) (.inr (by simp)) ?_)
            intro g4 c4 w7 hown hgr hbel hat
            have zW : W6.heap.size ≤ w7.heap.size := by have := hgr.size; simp at this; omega
            replace XM := (XM.past _).grownF hgr (HLOW.out m hmc)
            replace XK := (XK.past _).grownF hgr (HLOW.out k hkc)
            replace X13 := (X13.past _).grownF hgr (HROW.out P (by omega))
            replace X14 := (X14.past _).grownF hgr (HROW.out (P + 1) (by omega))
            have hbz : ∀ g, (Value.slice na5 zn.length nc5).ownBlock = some g → g < W6.heap.size := by
              intro g hg
              obtain ⟨b', o', c', e', hb', _⟩ := HS6.out.open512 (chk_ok HFn.out.1).1
              simp only [Value.slice.injEq] at e'
              obtain ⟨rfl, _, rfl⟩ := e'
              simp [Value.ownBlock] at hg
              omega
            have HG4 : Hid (∀ g, (Value.slice na5 zn.length nc5).ownBlock = some g → g4 ≠ g) := by
              intro g hg e
              have h1 := HF5.out g hg
              have h2 := hbz g hg
              rcases hat with h | h
              · have := HWL.out g4 h; omega
              · omega
            have HA4 : Hid (Apart (.slice va5 l.length vk5) l g4) := by
              rcases hat with h | h
              · exact HG5.out.apart (by have := HWL.out g4 h; omega)
              · exact Apart.lt HL6.out (by omega)
            have HS7 : Hid (Sl w7 _ zn) := (HS6.out.alloc _).grown hgr (fun g hg e => HROW.out g (by have := HF5.out g hg; omega) e.symm)
            have HL7 : Hid (Ls w7 _ l) := (HL6.out.alloc _).grownA hgr (fun g hg => HG5.out.apart (by have := HWL.out g hg; omega))
            have HO7 : Hid (OwnF w7 _ _ (wt ++ [(y1, y2, y3, y4)])) := hown
            have B7 : Hid (Below w.heap.size w w7) := (bel_alloc B6.out _).trans (hbel.mono (by omega))
            have hBs7 : wA.heap.size ≤ w7.heap.size := by omega
            clear hown hgr hbel hat hbz HS6 HL6 HO6 B6 hBs6 HSo f0 f1 f2 f3 sf e11 se XF
            go_upto_region 13 with fail
            go_cut [88] from 68 to 88 (fun s wx => s = .bool false ∧ Below w7.heap.size w7 wx)
            case first =>
              obtain ⟨⟨-, -, -, -, -, -, -, -, k8, k9, k10, k11⟩, sk⟩ := XK.twelve
              obtain ⟨⟨-, -, -, -, -, -, -, -, -, -, -, e11⟩, se⟩ := X14.twelve
              obtain ⟨m0, -, s0⟩ := XM.one
              obtain ⟨p0, -, s1⟩ := X13.one
              have HRTJ : Hid (0 ≤ tj ∧ tj < 8) := by show _ ∧ _; rw [← HTJ.out]; exact stepR_in (step_in fh (n0 + wt.length))
              have hl7 : (lenR fh tj == 7) = false := by rw [HLEN.out]; have := H7.out; simp; omega
              clear X13 X14 XM XK HL7 HO7 B7 HS7 HG4 HA4
              refine wp_region_held_drew (S := (fun w' => w'.cell? ⟨P + 1, 11, none⟩ = some (.bool false) ∧ w'.cell? ⟨k, 8, none⟩ = some (.int .i64 fp) ∧ w'.cell? ⟨k, 9, none⟩ = some (.int .i64 fh) ∧ w'.cell? ⟨k, 10, none⟩ = some (.int .i64 tj) ∧ w'.cell? ⟨k, 11, none⟩ = some (.bool false) ∧ w'.cell? ⟨m, 0, none⟩ = some (.slice aj zj.length cj) ∧ w'.cell? ⟨P, 0, none⟩ = some (.slice na5 zn.length nc5) ∧ Below w7.heap.size w7 w')) (by kernel_rfl) (keep7 e11 k8 k9 k10 k11 m0 p0 se sk s0 s1 (Below.drew (Below.refl _ _))) (fun hHeld => ?_)
              refine wpHeld_takeL (i := 0) (v := ?_) rfl (by kernel_rfl) (by kernel_rfl) (by kernel_rfl) (fun _ _ _ h => h) (Or.inl ⟨by kernel_rfl, ?_⟩) (by assumption) ?_
              rotate_left 1
              focus (intro wz hSz; (try dsimp only at hSz); go_simp; (try with_reducible rfl))
              simp only [Act.put, List.setIfInBounds_toArray, List.set_cons_zero, List.set_cons_succ]
              refine wpHeld_takeL (i := 1) (v := ?_) rfl (by kernel_rfl) (by kernel_rfl) (by kernel_rfl) (fun _ _ _ h => h) (Or.inl ⟨by kernel_rfl, ?_⟩) (by assumption) ?_
              rotate_left 1
              focus (intro wz hSz; (try dsimp only at hSz); go_simp; (try with_reducible rfl))
              simp only [Act.put, List.setIfInBounds_toArray, List.set_cons_zero, List.set_cons_succ]
              refine wpHeld_takeL (i := 2) (v := ?_) rfl (by kernel_rfl) (by kernel_rfl) (by kernel_rfl) (fun _ _ _ h => h) (Or.inl ⟨by kernel_rfl, ?_⟩) (by assumption) ?_
              rotate_left 1
              focus (intro wz hSz; (try dsimp only at hSz); go_simp; (try with_reducible rfl))
              simp only [Act.put, List.setIfInBounds_toArray, List.set_cons_zero, List.set_cons_succ]
              refine wpHeld_takeL (i := 3) (v := ?_) rfl (by kernel_rfl) (by kernel_rfl) (by kernel_rfl) (fun _ _ _ h => h) (Or.inl ⟨by kernel_rfl, ?_⟩) (by assumption) ?_
              rotate_left 1
              focus (intro wz hSz; (try dsimp only at hSz); go_simp; (try with_reducible rfl))
              simp only [Act.put, List.setIfInBounds_toArray, List.set_cons_zero, List.set_cons_succ]
              refine wpHeld_takeL (i := 4) (v := ?_) rfl (by kernel_rfl) (by kernel_rfl) (by kernel_rfl) (fun _ _ _ h => h) (Or.inl ⟨by kernel_rfl, ?_⟩) (by assumption) ?_
              rotate_left 1
              focus (intro wz hSz; (try dsimp only at hSz); go_simp; (try with_reducible rfl))
              simp only [Act.put, List.setIfInBounds_toArray, List.set_cons_zero, List.set_cons_succ]
              refine wpHeld_takeL (i := 5) (v := ?_) rfl (by kernel_rfl) (by kernel_rfl) (by kernel_rfl) (fun _ _ _ h => h) (Or.inl ⟨by kernel_rfl, ?_⟩) (by assumption) ?_
              rotate_left 1
              focus (intro wz hSz; (try dsimp only at hSz); go_simp; (try with_reducible rfl))
              simp only [Act.put, List.setIfInBounds_toArray, List.set_cons_zero, List.set_cons_succ]
              refine wpHeld_takeL (i := 6) (v := ?_) rfl (by kernel_rfl) (by kernel_rfl) (by kernel_rfl) (fun _ _ _ h => h) (Or.inl ⟨by kernel_rfl, ?_⟩) (by assumption) ?_
              rotate_left 1
              focus (intro wz hSz; (try dsimp only at hSz); go_simp; (try with_reducible rfl))
              simp only [Act.put, List.setIfInBounds_toArray, List.set_cons_zero, List.set_cons_succ]
              refine wpHeld_oneL (i := 7) (by kernel_rfl) (by rfl) (fun K hK => ?_)
              go_simp
              refine (length_any fp fh tj _ Rh.out HRTJ.out).mono ?_
              rintro e w7 ⟨rfl, rfl⟩
              go_wp2_with fail
              refine hK.out _ _ ?_ (fun hHeld2 => ?_)
              · refine keep7 e11 k8 k9 k10 k11 m0 p0 se sk s0 s1 ?_; exact bel_alloc (limb8 hHeld) _
              clear hK K hHeld
              have hHeld := hHeld2
              clear hHeld2
              refine wpHeld_takeL (i := 8) (v := ?_) rfl (by kernel_rfl) (by kernel_rfl) (by kernel_rfl) (fun _ _ _ h => h) (Or.inl ⟨by kernel_rfl, ?_⟩) (by assumption) ?_
              rotate_left 1
              focus (intro wz hSz; (try dsimp only at hSz); go_simp; (try with_reducible rfl))
              simp only [Act.put, List.setIfInBounds_toArray, List.set_cons_zero, List.set_cons_succ]
              refine wpHeld_takeL (i := 9) (v := ?_) rfl (by kernel_rfl) (by kernel_rfl) (by kernel_rfl) (fun _ _ _ h => h) (Or.inl ⟨by kernel_rfl, ?_⟩) (by assumption) ?_
              rotate_left 1
              focus (intro wz hSz; (try dsimp only at hSz); go_simp; (try with_reducible rfl))
              simp only [Act.put, List.setIfInBounds_toArray, List.set_cons_zero, List.set_cons_succ]
              refine wpHeld_takeL (i := 10) (v := ?_) rfl (by kernel_rfl) (by kernel_rfl) (by kernel_rfl) (fun _ _ _ h => h) (Or.inl ⟨by kernel_rfl, ?_⟩) (by assumption) ?_
              rotate_left 1
              focus (intro wz hSz; (try dsimp only at hSz); go_simp; (try with_reducible rfl))
              simp only [Act.put, List.setIfInBounds_toArray, List.set_cons_zero, List.set_cons_succ]
              refine wpHeld_takeL (i := 11) (v := ?_) rfl (by kernel_rfl) (by kernel_rfl) (by kernel_rfl) (fun _ _ _ h => h) (Or.inl ⟨by kernel_rfl, ?_⟩) (by assumption) ?_
              rotate_left 1
              focus (intro wz hSz; (try dsimp only at hSz); go_simp; (try with_reducible rfl))
              simp only [Act.put, List.setIfInBounds_toArray, List.set_cons_zero, List.set_cons_succ]
              refine wpHeld_takeL (i := 12) (v := ?_) rfl (by kernel_rfl) (by kernel_rfl) (by kernel_rfl) (fun _ _ _ h => h) (Or.inl ⟨by kernel_rfl, ?_⟩) (by assumption) ?_
              rotate_left 1
              focus (intro wz hSz; (try dsimp only at hSz); go_simp; (try with_reducible rfl))
              simp only [Act.put, List.setIfInBounds_toArray, List.set_cons_zero, List.set_cons_succ]
              refine wpHeld_takeL (i := 13) (v := ?_) rfl (by kernel_rfl) (by kernel_rfl) (by kernel_rfl) (fun _ _ _ h => h) (Or.inl ⟨by kernel_rfl, ?_⟩) (by assumption) ?_
              rotate_left 1
              focus (intro wz hSz; (try dsimp only at hSz); go_simp; (try with_reducible rfl))
              simp only [Act.put, List.setIfInBounds_toArray, List.set_cons_zero, List.set_cons_succ]
              refine wpHeld_takeL (i := 14) (v := ?_) rfl (by kernel_rfl) (by kernel_rfl) (by kernel_rfl) (fun _ _ _ h => h) (Or.inl ⟨by kernel_rfl, ?_⟩) (by assumption) ?_
              rotate_left 1
              focus (intro wz hSz; (try dsimp only at hSz); go_simp; (try with_reducible rfl))
              simp only [Act.put, List.setIfInBounds_toArray, List.set_cons_zero, List.set_cons_succ]
              refine wpHeld_takeL (i := 15) (v := undef) rfl (by kernel_rfl) (by kernel_rfl) (by kernel_rfl) (fun _ _ _ h => h) (Or.inr ⟨by kernel_rfl, rfl⟩) (by assumption) ?_
              simp only [Act.put, List.setIfInBounds_toArray, List.set_cons_zero, List.set_cons_succ]
              refine wpHeld_takeL (i := 16) (v := undef) rfl (by kernel_rfl) (by kernel_rfl) (by kernel_rfl) (fun _ _ _ h => h) (Or.inr ⟨by kernel_rfl, rfl⟩) (by assumption) ?_
              simp only [Act.put, List.setIfInBounds_toArray, List.set_cons_zero, List.set_cons_succ]
              refine wpHeld_takeL (i := 17) (v := undef) rfl (by kernel_rfl) (by kernel_rfl) (by kernel_rfl) (fun _ _ _ h => h) (Or.inr ⟨by kernel_rfl, rfl⟩) (by assumption) ?_
              simp only [Act.put, List.setIfInBounds_toArray, List.set_cons_zero, List.set_cons_succ]
              refine wpHeld_takeL (i := 18) (v := undef) rfl (by kernel_rfl) (by kernel_rfl) (by kernel_rfl) (fun _ _ _ h => h) (Or.inr ⟨by kernel_rfl, rfl⟩) (by assumption) ?_
              simp only [Act.put, List.setIfInBounds_toArray, List.set_cons_zero, List.set_cons_succ]
              refine wpHeld_takeL (i := 19) (v := ?_) rfl (by kernel_rfl) (by kernel_rfl) (by kernel_rfl) (fun _ _ _ h => h) (Or.inl ⟨by kernel_rfl, ?_⟩) (by assumption) ?_
              rotate_left 1
              focus (intro wz hSz; (try dsimp only at hSz); go_simp; (try with_reducible rfl))
              simp only [Act.put, List.setIfInBounds_toArray, List.set_cons_zero, List.set_cons_succ]
              refine wpHeld_takeL (i := 20) (v := ?_) rfl (by kernel_rfl) (by kernel_rfl) (by kernel_rfl) (fun _ _ _ h => h) (Or.inl ⟨by kernel_rfl, ?_⟩) (by assumption) ?_
              rotate_left 1
              focus (intro wz hSz; (try dsimp only at hSz); go_simp; (try with_reducible rfl))
              simp only [Act.put, List.setIfInBounds_toArray, List.set_cons_zero, List.set_cons_succ]
              refine wpAnyH_done (by kernel_rfl) ?_ _
              have hB := limb8 hHeld
              clear hHeld
              go_wp2_with fail
              go_meet
              exact ⟨rfl, hB⟩
            case rest =>
              obtain ⟨rfl, bc⟩ := hcut
              obtain ⟨wB, rfl⟩ : ∃ wB, wB = wc := ⟨wc, rfl⟩
              replace XM := XM.keep bc
              replace XK := XK.keep bc
              replace X13 := X13.keep bc
              replace X14 := X14.keep bc
              have HS8 : Hid (Sl wB _ zn) := HS7.out.keep bc
              have HL8 : Hid (Ls wB _ l) := HL7.out.keep bc
              have HO8 : Hid (OwnF wB _ _ (wt ++ [(y1, y2, y3, y4)])) := HO7.out.below bc
              have B8 : Hid (Below w.heap.size w wB) := bel_trans B7.out bc
              have hBs8 := Nat.le_trans hBs7 bc.size
              have APm : Hid (Apart _ _ _) := HL8.out.apart1 XM
              have APk : Hid (Apart _ _ _) := HL8.out.apart XK
              have Fm : Hid ((Value.slice na5 zn.length nc5).ownBlock ≠ some m) := HF5.out.ne (by omega)
              have Fk : Hid ((Value.slice na5 zn.length nc5).ownBlock ≠ some k) := HF5.out.ne (by omega)
              clear bc HS7 HL7 HO7 B7 hBs7
              obtain ⟨m0, m1, s0⟩ := XM.one
              obtain ⟨p0, -, s1⟩ := X13.one
              obtain ⟨⟨q0, q1, q2, q3, q4, q5, q6, q7, q8, q9, q10, q11⟩, sq⟩ := XK.twelve
              obtain ⟨y0, y1', y2', y3', y4', y5, y6, y7, y8, y9, y10, y11⟩ := XK.marks
              obtain ⟨⟨e0, e1, e2, e3, e4, e5, e6, e7, e8, e9, e10, e11⟩, se⟩ := X14.twelve
              have HRN : Hid (∀ wz, wz = (((((((((((((wB.setCell ⟨m, 0, none⟩ (.slice na5 zn.length nc5)).setCell ⟨k, 0, none⟩ (.int .i64 mo)).setCell ⟨k, 1, none⟩ (.int .i64 ba)).setCell ⟨k, 2, none⟩ (.slice va5 l.length vk5)).setCell ⟨k, 3, none⟩ (.int .i64 op)).setCell ⟨k, 4, none⟩ (.int .i64 oh)).setCell ⟨k, 5, none⟩ (.int .i64 ot)).setCell ⟨k, 6, none⟩ (.bool st)).setCell ⟨k, 7, none⟩ (.int .i64 fe)).setCell ⟨k, 8, none⟩ (.int .i64 fp)).setCell ⟨k, 9, none⟩ (.int .i64 fh)).setCell ⟨k, 10, none⟩ (.int .i64 tn)).setCell ⟨k, 11, none⟩ (.bool false)).drew → RelF w wA.heap.size m k zs mo ba op oh ot fe fp fh st l n0 (.slice (some ⟨g4, 0, none⟩) (wt.length + 1) c4) wz) := by
                intro wz hwz
                subst hwz
                refine ⟨wt ++ [(y1, y2, y3, y4)], zn, na5, nc5, false, va5, vk5, ?_, ?_, ?_, ?_, ?_, ?_, ?_, HFn.out, ?_, ?_, ?_⟩
                · exact OwnF.drew ((HO8.out.set (p := ⟨m, 0, none⟩) rfl hmc _).set12 hkc _ _ _ _ _ _ _ _ _ _ _ _)
                · exact Box.drew ((XM.set1 _).other12 hmk _ _ _ _ _ _ _ _ _ _ _ _)
                · rw [HTN.out]
                  exact Box.drew ((XK.other (p := ⟨m, 0, none⟩) (fun e => hmk e.symm) _).set12 _ _ _ _ _ _ _ _ _ _ _ _)
                · exact Sl.drew (Sl.put12 (Sl.setOther (p := ⟨m, 0, none⟩) HS8.out Fm.out _) Fk.out _ _ _ _ _ _ _ _ _ _ _ _)
                · exact Ls.drew ((HL8.out.putAt APm.out 0 _).put12 APk.out _ _ _ _ _ _ _ _ _ _ _ _)
                · intro g hg e
                  simp [Value.ownBlock] at e
                  exact HG4.out g hg e
                · intro g hg
                  simp [Value.ownBlock] at hg
                  subst hg
                  exact HA4.out
                · rw [HTN.out]; exact HCn.out
                · simp only [szC, szD]; exact hBs8
                · exact Below.drew (bel_set12 (by omega) (bel_set (p := ⟨m, 0, none⟩) (by dsimp only; omega) B8.out _) _ _ _ _ _ _ _ _ _ _ _ _)
              clear XM XK X13 X14 HS8 HL8 HO8 B8 APm APk Fm Fk
              go_wp2
              go_region
              go_wp2
              exact ⟨⟨j + 1, by omega, by go_num, HRN.out _ rfl⟩, by simp [intOf]; omega⟩
        · have nlt : ¬ (j : Int) < q := by omega
          obtain ⟨N, hN⟩ : ∃ N, N = n0 + wt.length := ⟨_, rfl⟩
          have HNN : Hid (N = n0 + wt.length) := hN
          obtain ⟨tj, htj⟩ : ∃ t, tlj fh (n0 + wt.length) = t := ⟨_, rfl⟩
          rw [htj] at XK
          have HTJ : Hid (tlj fh N = tj) := by show _ = _; rw [hN]; exact htj
          have hN7 : N ≤ 7 := by omega
          have HW : Hid (Fs wr (.slice a8 wt.length c8) wt) := HO.out.ls
          have HLI : Hid (Lies zj fp fh (wts zs fp fh n0 wt)) := HFS.out.2.1
          have HZJ : Hid (chk zj = 0) := HFS.out.1
          have HFE : Hid (∀ f ∈ wt, fE f.1 f.2.1 f.2.2.1 = 0) := HFS.out.2.2.2
          have HRG : Hid (pageR fp = true) := (chkR_ok (chkB_ok HCB.out).2.2.2.2.2).1
          have RTJ : Hid (stepR tj = true) := by show _ = _; rw [← htj]; exact step_in fh _
          have hsum : ((n0 : Int) + (wt.length : Int)) = (N : Int) := by omega
          have FR : Hid ((Value.slice aj zj.length cj).ownBlock ≠ some wr.heap.size) := by
            intro e
            obtain ⟨b', o', c', e', hb', _⟩ := HSj.out.open512 (chk_ok HZJ.out).1
            simp only [Value.slice.injEq] at e'
            obtain ⟨rfl, _, rfl⟩ := e'
            simp [Value.ownBlock] at e
            omega
          have FW : Hid ((Value.slice a8 wt.length c8).ownBlock ≠ some wr.heap.size) := fun e => absurd (HO.out.lt _ e) (Nat.lt_irrefl _)
          have HSm : Hid (Sl (wr.alloc (.cells #[.int .i64 fp, .int .i64 fh, .int .i64 tj] 42)) _ zj) := HSj.out.alloc _
          have HWm : Hid (Fs (wr.alloc (.cells #[.int .i64 fp, .int .i64 fh, .int .i64 tj] 42)) _ wt) := HW.out.alloc _
          have XM1 := XM.past (.cells #[.int .i64 fp, .int .i64 fh, .int .i64 tj] 42)
          have XR1 := Box.newAt (w := wr) rfl 42 #[.int .i64 fp, .int .i64 fh, .int .i64 tj]
          have B1 : Hid (Below w.heap.size w (wr.alloc (.cells #[.int .i64 fp, .int .i64 fh, .int .i64 tj] 42))) := bel_alloc HBr.out _
          have hmR : m ≠ wr.heap.size := by omega
          have zR : w.heap.size ≤ wr.heap.size := HBr.out.size
          clear hN htj HO HSj HLj HAP HAL HFS HCB HBr HW hBs
          obtain ⟨⟨q0, q1, q2, q3, q4, q5, q6, q7, q8, q9, q10, q11⟩, sq⟩ := XK.twelve
          go_wp2
          clear q0 q1 q2 q3 q4 q5 q6 q7 q8 q9 q10 q11 sq XK XM
          generalize wr.alloc (.cells #[.int .i64 fp, .int .i64 fh, .int .i64 tj] 42) = W1 at *
          generalize wr.heap.size = R at *
          go_loopw [17, 18, 19, 20, 21, 22, 98] (fun _ _ _ _ _ _ i98 wx => ∃ i : Nat, i ≤ N ∧ i98 = .int .i64 i ∧ Box wx R 42 #[.int .i64 fp, .int .i64 (tlj fh i), .int .i64 tj] ∧ Box wx m 39 #[.slice aj zj.length cj] ∧ Sl wx (.slice aj zj.length cj) zj ∧ Fs wx (.slice a8 wt.length c8) wt ∧ Below w.heap.size w wx) (fun _ _ _ _ _ _ i98 _ => N - (intOf i98).toNat)
          case atStart =>
            refine ⟨0, Nat.zero_le _, rfl, ?_, XM1, HSm.out, HWm.out, B1.out⟩
            rw [show tlj fh 0 = fh from step_zero Rh.out]
            exact XR1
          case round =>
            clear XM1 XR1 HSm HWm B1
            obtain ⟨i, hi, rfl, XR, XM, hSx, hWx, hBx⟩ := hrel
            have HSx : Hid (Sl _ _ zj) := hSx
            have HWx : Hid (Fs _ _ wt) := hWx
            have HBx : Hid (Below w.heap.size w wr) := hBx
            clear hSx hWx hBx
            obtain ⟨hh, hhh⟩ : ∃ t, tlj fh i = t := ⟨_, rfl⟩
            rw [hhh] at XR
            have HHH : Hid (tlj fh i = hh) := hhh
            have RHH : Hid (stepR hh = true) := by show _ = _; rw [← hhh]; exact step_in fh i
            clear hhh
            obtain ⟨m0, -, s0⟩ := XM.one
            obtain ⟨r0, r1, r2, t0, t1, t2, sr⟩ := XR.three
            by_cases hlt2 : i < N
            · have hlt3 : (i : Int) < N := by omega
              obtain ⟨h2, hh2⟩ : ∃ t, (hh + 1) % 8 = t := ⟨_, rfl⟩
              have HH2 : Hid (tlj fh (i + 1) = h2) := by show _ = _; rw [← hh2, ← HHH.out]; exact (step_next fh i).symm
              obtain ⟨z, hz⟩ : ∃ z, nth zj (fp * 8 + hh).toNat = z := ⟨_, rfl⟩
              have HZ2 : Hid (nth (wts zs fp fh n0 wt) i = z) := by
                show _ = _
                rw [← hz, ← HHH.out]
                exact (HLI.out i (by rw [wts_len, ← HNN.out]; exact hlt2)).symm
              have CP := pop_ok (p := fp) (h := hh) (t := tj) HSx.out HZJ.out (chkR_mk HRG.out RHH.out RTJ.out) (by rw [← HHH.out, ← HTJ.out]; exact step_ne hlt2 (by omega))
              rw [hz, hh2] at CP
              clear hz hh2
              go_wp2_with fail
              refine CP.mono ?_
              rintro e w5 ⟨rfl, b5⟩
              clear CP m0 s0 r0 r1 r2 t0 t1 t2 sr
              have XMk := XM.keep b5
              have HSk : Hid (Sl w5 _ zj) := HSx.out.keep b5
              have HWk : Hid (Fs w5 _ wt) := HWx.out.keep b5
              have HBk : Hid (Below w.heap.size w w5) := bel_trans HBx.out b5
              have zz : R < w5.heap.size := Nat.lt_of_lt_of_le XR.lt b5.size
              have Y := XR.keep b5
              clear b5 XR XM HSx HWx HBx
              obtain ⟨r0, r1, r2, t0, t1, t2, sr⟩ := Y.three
              have Y3 : Box ((((w5.setCell ⟨R, 0, none⟩ (.int .i64 fp)).setCell ⟨R, 1, none⟩ (.int .i64 h2)).setCell ⟨R, 2, none⟩ (.int .i64 tj)).alloc (.cells #[.int .i64 fp, .int .i64 h2, .int .i64 tj] 42)) R 42 #[.int .i64 fp, .int .i64 h2, .int .i64 tj] := (Y.set3 _ _ _).past _
              have YM : Box ((((w5.setCell ⟨R, 0, none⟩ (.int .i64 fp)).setCell ⟨R, 1, none⟩ (.int .i64 h2)).setCell ⟨R, 2, none⟩ (.int .i64 tj)).alloc (.cells #[.int .i64 fp, .int .i64 h2, .int .i64 tj] 42)) m 39 #[.slice aj zj.length cj] := ((XMk.other3 hmR _ _ _).past _)
              have S3 : Hid (Sl ((((w5.setCell ⟨R, 0, none⟩ (.int .i64 fp)).setCell ⟨R, 1, none⟩ (.int .i64 h2)).setCell ⟨R, 2, none⟩ (.int .i64 tj)).alloc (.cells #[.int .i64 fp, .int .i64 h2, .int .i64 tj] 42)) (.slice aj zj.length cj) zj) := Sl.alloc (Sl.setOther (p := ⟨R, 2, none⟩) (Sl.setOther (p := ⟨R, 1, none⟩) (Sl.setOther (p := ⟨R, 0, none⟩) HSk.out FR.out _) FR.out _) FR.out _) _
              have F3 : Hid (Fs ((((w5.setCell ⟨R, 0, none⟩ (.int .i64 fp)).setCell ⟨R, 1, none⟩ (.int .i64 h2)).setCell ⟨R, 2, none⟩ (.int .i64 tj)).alloc (.cells #[.int .i64 fp, .int .i64 h2, .int .i64 tj] 42)) (.slice a8 wt.length c8) wt) := Fs.alloc (Fs.setOther (p := ⟨R, 2, none⟩) (Fs.setOther (p := ⟨R, 1, none⟩) (Fs.setOther (p := ⟨R, 0, none⟩) HWk.out FW.out _) FW.out _) FW.out _) _
              have B3 : Hid (Below w.heap.size w ((((w5.setCell ⟨R, 0, none⟩ (.int .i64 fp)).setCell ⟨R, 1, none⟩ (.int .i64 h2)).setCell ⟨R, 2, none⟩ (.int .i64 tj)).alloc (.cells #[.int .i64 fp, .int .i64 h2, .int .i64 tj] 42))) := bel_alloc (bel_set3 (by omega) HBk.out _ _ _) _
              by_cases hn0 : i < n0
              · have hn1 : (i : Int) < n0 := by omega
                go_wp2
                exact ⟨⟨i + 1, by omega, by go_num, by rw [HH2.out]; exact Y3, YM, S3.out, F3.out, B3.out⟩, by simp [intOf]; omega⟩
              · have hn1 : ¬ (i : Int) < n0 := by omega
                have hiw : i - n0 < wt.length := by have := HNN.out; omega
                obtain ⟨f, hf⟩ : ∃ f, f = fth wt (i - n0) := ⟨_, rfl⟩
                have hfm : f ∈ wt := by rw [hf, fth_get hiw]; exact List.getElem_mem hiw
                have hfe := HFE.out f hfm
                have hzf : z = fw f := by
                  rw [← HZ2.out, hf, ← wts_at (zs := zs) (fp := fp) (fh := fh) (n0 := n0) hiw]
                  congr 1; omega
                obtain ⟨y1, y2, y3, y4⟩ := f
                obtain ⟨e1, e2⟩ := f_back (x := y4) hfe
                have HR1 : Hid (rfE z = 0) := by show _ = _; rw [hzf]; exact e1
                have HR2 : Hid (rfF z = (y1, y2, y3, y4)) := by show _ = _; rw [hzf]; exact e2
                have HY : Hid ((y1, y2, y3, y4) = fth wt (i - n0)) := hf
                have hki : ((i : Int) - n0) = ((i - n0 : Nat) : Int) := by omega
                clear hf hfm hfe hzf e1 e2
                go_wp2_with fail
                clear r0 r1 r2 t0 t1 t2 sr Y
                generalize ((((w5.setCell ⟨R, 0, none⟩ (.int .i64 fp)).setCell ⟨R, 1, none⟩ (.int .i64 h2)).setCell ⟨R, 2, none⟩ (.int .i64 tj)).alloc (.cells #[.int .i64 fp, .int .i64 h2, .int .i64 tj] 42)) = W3 at *
                refine (readFault_at HR1.out HR2.out).mono ?_
                rintro e w6 ⟨rfl, b6⟩
                have Y6 := (Y3.keep b6).past (.cells #[.int .i64 y1, .int .i64 y2, .int .i64 y3, .bool y4] 25)
                have YM6 := (YM.keep b6).past (.cells #[.int .i64 y1, .int .i64 y2, .int .i64 y3, .bool y4] 25)
                have S6 : Hid (Sl _ _ zj) := (S3.out.keep b6).alloc (.cells #[.int .i64 y1, .int .i64 y2, .int .i64 y3, .bool y4] 25)
                have F6 : Hid (Fs _ _ wt) := (F3.out.keep b6).alloc (.cells #[.int .i64 y1, .int .i64 y2, .int .i64 y3, .bool y4] 25)
                have B6 : Hid (Below w.heap.size w _) := bel_alloc (bel_trans B3.out b6) (.cells #[.int .i64 y1, .int .i64 y2, .int .i64 y3, .bool y4] 25)
                have XF := Box.newAt (w := w6) rfl 25 #[.int .i64 y1, .int .i64 y2, .int .i64 y3, .bool y4]
                clear b6 Y3 YM S3 F3 B3
                obtain ⟨b2, o2, cc, he2, hb2, hat⟩ := F6.out.at hiw
                simp only [Value.slice.injEq, true_and] at he2
                obtain ⟨rfl, rfl⟩ := he2
                rw [← HY.out] at hat
                obtain ⟨g0, g1, g2, g3⟩ := hat
                simp only at g0 g1 g2 g3
                go_upto_region 27 with fail
                generalize (w6.alloc (.cells #[.int .i64 y1, .int .i64 y2, .int .i64 y3, .bool y4] 25)) = W6 at *
                generalize w6.heap.size = Q6 at *
                obtain ⟨f0, f1, f2, f3, -, -, -, -, sf⟩ := XF.four
                have hk0 : (0 : Int) ≤ ((i - n0 : Nat) : Int) := by omega
                have hk1 : ((i - n0 : Nat) : Int) < wt.length := by omega
                generalize hkk : i - n0 = kk at *
                go_quiet (fail)
                go_wp2
                exact ⟨⟨i + 1, by omega, by go_num, by rw [HH2.out]; exact Box.drewN Y6 _, Box.drewN YM6 _, Sl.drewN S6.out _, Fs.drewN F6.out _, bel_drewN B6.out _⟩, by simp [intOf]; omega⟩
            · obtain rfl : i = N := by omega
              have nl : ¬ (i : Int) < i := by omega
              have het : hh = tj := by rw [← HHH.out]; exact HTJ.out
              subst het
              have Rhh := stepR_in RHH.out
              go_wp2_with fail
              refine (length_any fp hh hh _ Rhh Rhh).mono ?_
              rintro e w5 ⟨rfl, rfl⟩
              rw [(lenR_zero Rhh Rhh).2 rfl]
              go_wp2
              go_ret
              exact ⟨rfl, bel_alloc HBx.out _⟩
end Go.Proofs.Ytefcdcneenjbgab
