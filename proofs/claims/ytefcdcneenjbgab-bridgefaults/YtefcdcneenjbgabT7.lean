/-
  Laid together: Apart, WhileOn, WhileT, CopyN, Through, PlainB, Crossed.
-/
import Derived.Test.YtefcdcneenjbgabT6
/-
  No line lies in a block that holds a bridge: so a store into a bridge turns no line.
-/
namespace Go.Proofs.Ytefcdcneenjbgab
open Go.RowKit

/-- No line of these lies in this block. -/
def Apart (v : Value) (l : List Ln) (n : Nat) : Prop := l = [] ∨ ∀ b o k c, v = .slice (some ⟨b, o, none⟩) k c → b ≠ n

/-- The cells of a bridge are no line's. -/
theorem atL_bridge {w : World} {n o : Nat} {t : TypeId} {x : Ln} {i0 i1 i3 i4 i5 i7 i8 i9 i10 : Int} {p6 p11 : Bool} {sa : Option Addr} {sn sc : Nat}
    (h : Box w n t #[.int .i64 i0, .int .i64 i1, .slice sa sn sc, .int .i64 i3, .int .i64 i4, .int .i64 i5, .bool p6, .int .i64 i7, .int .i64 i8, .int .i64 i9, .int .i64 i10, .bool p11]) (hx : AtL w n o x) : False := by
  obtain ⟨_, _, h2, h3, h4⟩ := hx
  rw [h.cell] at h2 h3 h4
  by_cases ho : o < 8
  · obtain rfl | rfl | rfl | rfl | rfl | rfl | rfl | rfl : o = 0 ∨ o = 1 ∨ o = 2 ∨ o = 3 ∨ o = 4 ∨ o = 5 ∨ o = 6 ∨ o = 7 := by omega
    all_goals simp at h2 h3 h4
  · rw [Array.getElem?_eq_none (by simp; omega)] at h4
    simp at h4
theorem Ls.apart {w : World} {v : Value} {l : List Ln} (hl : Ls w v l) {n : Nat} {t : TypeId} {i0 i1 i3 i4 i5 i7 i8 i9 i10 : Int} {p6 p11 : Bool} {sa : Option Addr} {sn sc : Nat}
    (h : Box w n t #[.int .i64 i0, .int .i64 i1, .slice sa sn sc, .int .i64 i3, .int .i64 i4, .int .i64 i5, .bool p6, .int .i64 i7, .int .i64 i8, .int .i64 i9, .int .i64 i10, .bool p11]) : Apart v l n := by
  obtain ⟨a, cap, rfl, _, _, hl⟩ := hl
  rcases hl with rfl | ⟨b, o, rfl, _, hc⟩
  · exact .inl rfl
  · by_cases h0 : l = []
    · exact .inl h0
    · refine .inr fun b' o' k c e => ?_
      simp only [Value.slice.injEq, Option.some.injEq, Addr.mk.injEq, and_true] at e
      obtain ⟨⟨rfl, rfl⟩, -⟩ := e
      rintro rfl
      exact atL_bridge h (hc 0 (List.length_pos_iff.2 h0))
/-- New memory is apart from what was there. -/
theorem Ls.putAt {w : World} {v : Value} {l : List Ln} (h : Ls w v l) {n : Nat} (ha : Apart v l n) (i : Nat) (u : Value) : Ls (w.setCell ⟨n, i, none⟩ u) v l := by
  obtain ⟨a, cap, rfl, hl, hm, h⟩ := h
  refine ⟨a, cap, rfl, hl, hm, ?_⟩
  rcases h with h | ⟨b, o, rfl, hlt, hc⟩
  · exact .inl h
  · rcases ha with ha | ha
    · exact .inl ha
    · refine .inr ⟨b, o, rfl, by simpa [World.setCell] using hlt, fun j hj => (hc j hj).other fun j' _ e => ?_⟩
      simp only [Addr.mk.injEq] at e
      exact ha b o _ _ rfl e.1.symm
theorem Ls.put12 {w : World} {v : Value} {l : List Ln} (h : Ls w v l) {n : Nat} (ha : Apart v l n) (u0 u1 u2 u3 u4 u5 u6 u7 u8 u9 u10 u11 : Value) :
    Ls ((((((((((((w.setCell ⟨n, 0, none⟩ u0).setCell ⟨n, 1, none⟩ u1).setCell ⟨n, 2, none⟩ u2).setCell ⟨n, 3, none⟩ u3).setCell ⟨n, 4, none⟩ u4).setCell ⟨n, 5, none⟩ u5).setCell ⟨n, 6, none⟩ u6).setCell ⟨n, 7, none⟩ u7).setCell ⟨n, 8, none⟩ u8).setCell ⟨n, 9, none⟩ u9).setCell ⟨n, 10, none⟩ u10).setCell ⟨n, 11, none⟩ u11) v l :=
  (((((((((((h.putAt ha 0 u0).putAt ha 1 u1).putAt ha 2 u2).putAt ha 3 u3).putAt ha 4 u4).putAt ha 5 u5).putAt ha 6 u6).putAt ha 7 u7).putAt ha 8 u8).putAt ha 9 u9).putAt ha 10 u10).putAt ha 11 u11
theorem Apart.lt {v : Value} {l : List Ln} {w : World} {n : Nat} (h : Ls w v l) (hn : w.heap.size ≤ n) : Apart v l n := by
  obtain ⟨a, cap, rfl, _, _, h⟩ := h
  rcases h with rfl | ⟨b, o, rfl, hlt, _⟩
  · exact .inl rfl
  · refine .inr fun b' o' k c e => ?_
    simp only [Value.slice.injEq, Option.some.injEq, Addr.mk.injEq, and_true] at e
    omega
theorem Ls.drew {w : World} {v : Value} {l : List Ln} (h : Ls w v l) : Ls w.drew v l := h
theorem Ls.drewN {w : World} {v : Value} {l : List Ln} (h : Ls w v l) (n : Nat) : Ls (w.drewN n) v l := h
end Go.Proofs.Ytefcdcneenjbgab
/-
  Package bridge: whileOn: Through of right things, by what is remembered or by the tables; nothing that was there turns.
-/
namespace Go.Proofs.Ytefcdcneenjbgab
open Go.RowKit

theorem fnd_nat {l : List Ln} {d p : Int} (h : 0 ≤ fndC l d p) : ∃ k : Nat, fndC l d p = k ∧ k < l.length ∧ lineC l d p = lth l k := by
  refine ⟨(fndC l d p).toNat, by omega, (fnd_line h).1, rfl⟩
/-- The cells of a line. -/
theorem Ls.at {w : World} {v : Value} {l : List Ln} (h : Ls w v l) {k : Nat} (hk : k < l.length) : ∃ b o cap, v = .slice (some ⟨b, o, none⟩) l.length cap ∧ b < w.heap.size ∧ AtL w b (o + k * 5) (lth l k) := by
  obtain ⟨a, cap, rfl, _, _, h⟩ := h
  rcases h with rfl | ⟨b, o, rfl, hb, hc⟩
  · exact absurd hk (Nat.not_lt_zero _)
  · exact ⟨b, o, cap, rfl, hb, hc k hk⟩

set_option maxHeartbeats 4000000 in
/-- By a line that is remembered. -/
theorem whileOn_found (v : Value) (zs : List Int) (mo ba op oh ot fe fp fh ft : Int) (st lo : Bool) (vc : Value) (l : List Ln) (d p : Int) (wr : Bool) (w : World) (hs : Sl w v zs) (h : Ls w vc l) (hf : 0 ≤ fndC l d p) :
    Calls Try.prog 63 #[.agg #[v], .agg #[.int .i64 mo, .int .i64 ba, vc, .int .i64 op, .int .i64 oh, .int .i64 ot, .bool st, .int .i64 fe, .int .i64 fp, .int .i64 fh, .int .i64 ft, .bool lo], .int .i64 d, .int .i64 p, .bool wr] w fun e w' =>
      e = .returned (.tuple #[.agg #[.int .i64 mo, .int .i64 ba, vc, .int .i64 op, .int .i64 oh, .int .i64 ot, .bool st, .int .i64 fe, .int .i64 fp, .int .i64 fh, .int .i64 ft, .bool lo], .int .i64 (if (wr && !(lineC l d p).2.2.2.2) = true then 0 else (lineC l d p).2.2.1), .int .i64 (if (wr && !(lineC l d p).2.2.2.2) = true then 5 else 0)]) ∧ Ls w' vc l ∧ Below w.heap.size w w' := by
  have HS : Hid (Ls w vc l) := h
  obtain ⟨va, vk, rfl, -⟩ := h.shape
  obtain ⟨k, hk, hkl, hli⟩ := fnd_nat hf
  obtain ⟨b, o, cap, he, hb, hat⟩ := h.at hkl
  simp only [Value.slice.injEq, true_and] at he
  obtain ⟨rfl, rfl⟩ := he
  rw [hli]
  clear h hf hli
  generalize lth l k = y at *
  obtain ⟨dy, py, ay, ry, xy⟩ := y
  dsimp only
  generalize hr1 : (if (wr && !xy) = true then 0 else ay) = r1
  generalize hr2 : (if (wr && !xy) = true then (5 : Int) else 0) = r2
  have HR1 : Hid (_ = _) := hr1
  have HR2 : Hid (_ = _) := hr2
  clear hr1 hr2
  obtain ⟨ma, mc, rfl⟩ := hs.shape
  go_enter Try.func63, Try.ntmps63
  go_wp2_with fail
  refine (cFind_any _ l d p _ (HS.out.keep (bel_alloc (bel_alloc (bel_alloc (Below.refl _ _) _) _) _))).mono ?_
  rintro e w1 ⟨rfl, b1⟩
  rw [hk]
  have X1 := ((Box.newAt (n := w.heap.size + 1) (by simp) 44 #[.int .i64 mo, .int .i64 ba, .slice (some ⟨b, o, none⟩) l.length vk, .int .i64 op, .int .i64 oh, .int .i64 ot, .bool st, .int .i64 fe, .int .i64 fp, .int .i64 fh, .int .i64 ft, .bool lo]).past _).keep b1
  have X2 := (Box.newAt (n := w.heap.size + 1 + 1) (by simp) 44 #[.int .i64 0, .int .i64 0, .slice none 0 0, .int .i64 0, .int .i64 0, .int .i64 0, .bool false, .int .i64 0, .int .i64 0, .int .i64 0, .int .i64 0, .bool false]).keep b1
  have B1 : Hid (Below w.heap.size w w1) := bel_trans (bel_alloc (bel_alloc (bel_alloc (Below.refl _ _) _) _) _) b1
  clear b1
  obtain ⟨⟨q0, q1, q2, q3, q4, q5, q6, q7, q8, q9, q10, q11⟩, s1⟩ := X1.twelve
  obtain ⟨⟨u0, u1, u2, u3, u4, u5, u6, u7, u8, u9, u10, u11⟩, s2⟩ := X2.twelve
  obtain ⟨y0, y1, y2, y3, y4, y5, y6, y7, y8, y9, y10, y11⟩ := X2.marks
  obtain ⟨g0, g1, g2, g3, g4⟩ := hat.keep B1.out hb
  have hb1 : b < w1.heap.size := Nat.lt_of_lt_of_le hb B1.out.size
  simp only at g0 g1 g2 g3 g4
  have hk0 : (0 : Int) ≤ k := by omega
  have hk1 : (k : Int) < l.length := by omega
  clear hk hat
  go_wp2_with fail
  refine (byLine_any dy py ay ry xy wr _).mono ?_
  rintro e w2 ⟨rfl, b2⟩
  rw [HR1.out, HR2.out]
  clear q0 q1 q2 q3 q4 q5 q6 q7 q8 q9 q10 q11 u0 u1 u2 u3 u4 u5 u6 u7 u8 u9 u10 u11 y0 y1 y2 y3 y4 y5 y6 y7 y8 y9 y10 y11 g0 g1 g2 g3 g4 s1 s2
  have X1 := X1.keep b2
  have X2 := X2.keep b2
  have B2 : Hid (Below w.heap.size w w2) := bel_trans B1.out b2
  clear b2 B1
  obtain ⟨⟨q0, q1, q2, q3, q4, q5, q6, q7, q8, q9, q10, q11⟩, s1⟩ := X1.twelve
  obtain ⟨⟨u0, u1, u2, u3, u4, u5, u6, u7, u8, u9, u10, u11⟩, s2⟩ := X2.twelve
  obtain ⟨y0, y1, y2, y3, y4, y5, y6, y7, y8, y9, y10, y11⟩ := X2.marks
  go_wp2
  have BE : Hid (Below w.heap.size w _) := bel_set12 (a := w) (w := w2) (m := w.heap.size + 1 + 1) (by omega) B2.out (.int .i64 mo) (.int .i64 ba) (.slice (some ⟨b, o, none⟩) l.length vk) (.int .i64 op) (.int .i64 oh) (.int .i64 ot) (.bool st) (.int .i64 fe) (.int .i64 fp) (.int .i64 fh) (.int .i64 ft) (.bool lo)
  refine bodyPost_ret (v := .tuple #[.agg #[.int .i64 mo, .int .i64 ba, .slice (some ⟨b, o, none⟩) l.length vk, .int .i64 op, .int .i64 oh, .int .i64 ot, .bool st, .int .i64 fe, .int .i64 fp, .int .i64 fh, .int .i64 ft, .bool lo], .int .i64 r1, .int .i64 r2]) (by simp [results, Try.results63, go_sem, *]) rfl ⟨rfl, HS.out.keep BE.out, BE.out⟩
end Go.Proofs.Ytefcdcneenjbgab
/-
  Package bridge: whileOn by the tables.
-/
namespace Go.Proofs.Ytefcdcneenjbgab
open Go.RowKit

set_option maxHeartbeats 4000000 in
/-- By the tables. -/
theorem whileOn_table (v : Value) (zs : List Int) (mo ba op oh ot fe fp fh ft : Int) (st lo : Bool) (vc : Value) (l : List Ln) (d p : Int) (wr : Bool) (w : World) (hs : Sl w v zs) (h : Ls w vc l) (hk : chk zs = 0) (hc : chkC l = 0) (hba : 0 ≤ ba ∧ ba ≤ 63) (hd : 0 ≤ d ∧ d ≤ 7) (hp : 0 ≤ p ∧ p ≤ 63) (hf : ¬ 0 ≤ fndC l d p) :
    Calls Try.prog 63 #[.agg #[v], .agg #[.int .i64 mo, .int .i64 ba, vc, .int .i64 op, .int .i64 oh, .int .i64 ot, .bool st, .int .i64 fe, .int .i64 fp, .int .i64 fh, .int .i64 ft, .bool lo], .int .i64 d, .int .i64 p, .bool wr] w fun e w' =>
      ∃ vc1 l1 k f, e = .returned (.tuple #[.agg #[.int .i64 mo, .int .i64 ba, vc1, .int .i64 op, .int .i64 oh, .int .i64 ot, .bool st, .int .i64 fe, .int .i64 fp, .int .i64 fh, .int .i64 ft, .bool lo], .int .i64 k, .int .i64 f]) ∧ byT zs ⟨mo, ba, l, op, oh, ot, st, fe, fp, fh, ft, lo⟩ d p wr = (⟨mo, ba, l1, op, oh, ot, st, fe, fp, fh, ft, lo⟩, k, f) ∧ Ls w' vc1 l1 ∧ Below w.heap.size w w' ∧ ∀ N, N ≤ w.heap.size → Fresh N vc → Fresh N vc1 := by
  have HFN : Hid (fndC l d p < 0) := show _ < _ by omega
  have HS : Hid (Ls w vc l) := h
  obtain ⟨va, vk, rfl, -⟩ := h.shape
  have HM : Hid (Sl w v zs) := hs
  obtain ⟨b, o, cap, rfl, hb, hcs⟩ := hs.open512 (chk_ok hk).1
  obtain ⟨ba0, ba1⟩ := hba
  obtain ⟨d0, d1⟩ := hd
  have gk := hcs (ba * 8 + d).toNat (by omega)
  obtain ⟨z, hz⟩ : ∃ z, nth zs (ba * 8 + d).toNat = z := ⟨_, rfl⟩
  rw [hz] at gk
  have HZ : Hid (ctxW zs ⟨mo, ba, l, op, oh, ot, st, fe, fp, fh, ft, lo⟩ d = z) := by show _ = _; rw [← hz, ctxW, Int.mul_comm]
  have HK : Hid (chk zs = 0) := hk
  have HC : Hid (chkC l = 0) := hc
  have HP : Hid (0 ≤ p ∧ p ≤ 63) := hp
  have HD : Hid (0 ≤ d ∧ d ≤ 7) := ⟨d0, d1⟩
  have k0 : 0 ≤ ba * 8 + d := by omega
  have k1 : ba * 8 + d < 512 := by omega
  clear h hs hcs hz hk hc hp
  go_enter Try.func63, Try.ntmps63
  go_wp2_with fail
  refine (cFind_any _ l d p _ (HS.out.keep (bel_alloc (bel_alloc (bel_alloc (Below.refl _ _) _) _) _))).mono ?_
  rintro e w1 ⟨rfl, b1⟩
  have X0 := (((Box.newAt (n := w.heap.size) rfl 39 #[.slice (some ⟨b, o, none⟩) 512 cap]).past _).past _).keep b1
  have X1 := ((Box.newAt (n := w.heap.size + 1) (by simp) 44 #[.int .i64 mo, .int .i64 ba, .slice va l.length vk, .int .i64 op, .int .i64 oh, .int .i64 ot, .bool st, .int .i64 fe, .int .i64 fp, .int .i64 fh, .int .i64 ft, .bool lo]).past _).keep b1
  have X2 := (Box.newAt (n := w.heap.size + 1 + 1) (by simp) 44 #[.int .i64 0, .int .i64 0, .slice none 0 0, .int .i64 0, .int .i64 0, .int .i64 0, .bool false, .int .i64 0, .int .i64 0, .int .i64 0, .int .i64 0, .bool false]).keep b1
  have B1 : Hid (Below w.heap.size w w1) := bel_trans (bel_alloc (bel_alloc (bel_alloc (Below.refl _ _) _) _) _) b1
  clear b1
  obtain ⟨qm, -, s0⟩ := X0.one
  obtain ⟨⟨q0, q1, q2, q3, q4, q5, q6, q7, q8, q9, q10, q11⟩, s1⟩ := X1.twelve
  obtain ⟨⟨u0, u1, u2, u3, u4, u5, u6, u7, u8, u9, u10, u11⟩, s2⟩ := X2.twelve
  obtain ⟨y0, y1, y2, y3, y4, y5, y6, y7, y8, y9, y10, y11⟩ := X2.marks
  rw [← B1.out.cell (p := ⟨b, o + (ba * 8 + d).toNat, none⟩) hb] at gk
  have hb1 : b < w1.heap.size := Nat.lt_of_lt_of_le hb B1.out.size
  have hfn : (decide (0 ≤ fndC l d p)) = false := by simpa using hf
  go_wp2_with fail
  refine (eReadContext_any z _).mono ?_
  rintro e w2 ⟨rfl, b2⟩
  clear q0 q1 q2 q3 q4 q5 q6 q7 q8 q9 q10 q11 u0 u1 u2 u3 u4 u5 u6 u7 u8 u9 u10 u11 y0 y1 y2 y3 y4 y5 y6 y7 y8 y9 y10 y11 s1 s2
  clear qm s0 gk hb1 hb k0 k1
  have X0 := X0.keep b2
  have X1 := X1.keep b2
  have X2 := X2.keep b2
  have B2 : Hid (Below w.heap.size w w2) := bel_trans B1.out b2
  clear b2 B1
  obtain ⟨qm, -, s0⟩ := X0.one
  obtain ⟨⟨q0, q1, q2, q3, q4, q5, q6, q7, q8, q9, q10, q11⟩, s1⟩ := X1.twelve
  obtain ⟨⟨u0, u1, u2, u3, u4, u5, u6, u7, u8, u9, u10, u11⟩, s2⟩ := X2.twelve
  obtain ⟨y0, y1, y2, y3, y4, y5, y6, y7, y8, y9, y10, y11⟩ := X2.marks
  have BX := B2
  cases hv : vC z
  · have HT : Hid (byT zs ⟨mo, ba, l, op, oh, ot, st, fe, fp, fh, ft, lo⟩ d p wr = (⟨mo, ba, l, op, oh, ot, st, fe, fp, fh, ft, lo⟩, 0, 2)) := by show _ = _; rw [byT, HZ.out, hv]; rfl
    cases ho : okC z
    all_goals
      go_wp2
      refine bodyPost_ret (v := .tuple #[.agg #[.int .i64 mo, .int .i64 ba, .slice va l.length vk, .int .i64 op, .int .i64 oh, .int .i64 ot, .bool st, .int .i64 fe, .int .i64 fp, .int .i64 fh, .int .i64 ft, .bool lo], .int .i64 0, .int .i64 2]) (by simp [results, Try.results63, go_sem, *]) rfl ⟨_, _, _, _, rfl, HT.out, HS.out.keep ?_, ?_, fun _ _ h => h⟩
      all_goals (repeat (first | with_reducible exact BX.out | with_reducible refine bel_alloc ?_ _ | (with_reducible refine bel_set12 ?_ ?_ _ _ _ _ _ _ _ _ _ _ _ _; (focus omega))))
  have ho : okC z = true := by
    cases ho : okC z
    · simp [vC, ho] at hv
    · rfl
  cases ha : aC z
  rotate_left
  · have HT : Hid (byT zs ⟨mo, ba, l, op, oh, ot, st, fe, fp, fh, ft, lo⟩ d p wr = (⟨mo, ba, l, op, oh, ot, st, fe, fp, fh, ft, lo⟩, p, 0)) := by show _ = _; rw [byT, HZ.out, if_pos hv, if_pos ha]
    go_wp2
    refine bodyPost_ret (v := .tuple #[.agg #[.int .i64 mo, .int .i64 ba, .slice va l.length vk, .int .i64 op, .int .i64 oh, .int .i64 ot, .bool st, .int .i64 fe, .int .i64 fp, .int .i64 fh, .int .i64 ft, .bool lo], .int .i64 p, .int .i64 0]) (by simp [results, Try.results63, go_sem, *]) rfl ⟨_, _, _, _, rfl, HT.out, HS.out.keep ?_, ?_, fun _ _ h => h⟩
    all_goals (repeat (first | with_reducible exact BX.out | with_reducible refine bel_alloc ?_ _ | (with_reducible refine bel_set12 ?_ ?_ _ _ _ _ _ _ _ _ _ _ _ _; (focus omega))))
  have HA : Hid (¬ aC z = true) := by show ¬ _; rw [ha]; decide
  have HV : Hid (vC z = true) := hv
  rcases wkd_two (wr := wr) HK.out (pC_page z) (page_of HP.out) with ⟨f, hff, hwk⟩ | ⟨x, a, haa, hx, hwk⟩
  · have HT : Hid (byT zs ⟨mo, ba, l, op, oh, ot, st, fe, fp, fh, ft, lo⟩ d p wr = (⟨mo, ba, l, op, oh, ot, st, fe, fp, fh, ft, lo⟩, 0, f)) := by
      show _ = _; rw [byT, HZ.out, if_pos HV.out, if_neg HA.out, hwk]; exact if_neg (show ¬ f = 0 by omega)
    have hfq : (f != 0) = true := by simp; omega
    have HW : Hid (_ = _) := hwk
    clear hwk hff
    go_wp2_with fail
    refine (walk_at HW.out (HM.out.keep (bel_alloc B2.out _))).mono ?_
    rintro e w3 ⟨rfl, b3⟩
    clear q0 q1 q2 q3 q4 q5 q6 q7 q8 q9 q10 q11 u0 u1 u2 u3 u4 u5 u6 u7 u8 u9 u10 u11 y0 y1 y2 y3 y4 y5 y6 y7 y8 y9 y10 y11 s1 s2
    clear qm s0
    have X1 := (X1.past _).keep b3
    have X2 := (X2.past _).keep b3
    have B3 : Hid (Below w.heap.size w w3) := bel_trans (bel_alloc B2.out _) b3
    clear b3 B2
    have BX := B3
    obtain ⟨⟨q0, q1, q2, q3, q4, q5, q6, q7, q8, q9, q10, q11⟩, s1⟩ := X1.twelve
    obtain ⟨⟨u0, u1, u2, u3, u4, u5, u6, u7, u8, u9, u10, u11⟩, s2⟩ := X2.twelve
    obtain ⟨y0, y1, y2, y3, y4, y5, y6, y7, y8, y9, y10, y11⟩ := X2.marks
    go_wp2
    refine bodyPost_ret (v := .tuple #[.agg #[.int .i64 mo, .int .i64 ba, .slice va l.length vk, .int .i64 op, .int .i64 oh, .int .i64 ot, .bool st, .int .i64 fe, .int .i64 fp, .int .i64 fh, .int .i64 ft, .bool lo], .int .i64 0, .int .i64 f]) (by simp [results, Try.results63, go_sem, *]) rfl ⟨_, _, _, _, rfl, HT.out, HS.out.keep ?_, ?_, fun _ _ h => h⟩
    all_goals (repeat (first | with_reducible exact BX.out | with_reducible refine bel_alloc ?_ _ | (with_reducible refine bel_set12 ?_ ?_ _ _ _ _ _ _ _ _ _ _ _ _; (focus omega))))
  obtain ⟨c, hfc⟩ : ∃ c, flC l (d, p, a, true, x) = c := ⟨_, rfl⟩
  have HT : Hid (byT zs ⟨mo, ba, l, op, oh, ot, st, fe, fp, fh, ft, lo⟩ d p wr = (⟨mo, ba, c, op, oh, ot, st, fe, fp, fh, ft, lo⟩, a, 0)) := by
    show _ = _; rw [byT, HZ.out, if_pos HV.out, if_neg HA.out, hwk]; simp only [if_true, hfc]; rfl
  have HF : Hid (flE l (d, p, a, true, x) = 0) := fl_ok HC.out HD.out HP.out haa (by have := HFN.out; omega)
  have HFC : Hid (flC l (d, p, a, true, x) = c) := hfc
  have HW : Hid (_ = _) := hwk
  clear hwk hx haa hfc
  go_wp2_with fail
  refine (walk_at HW.out (HM.out.keep (bel_alloc B2.out _))).mono ?_
  rintro e w3 ⟨rfl, b3⟩
  clear q0 q1 q2 q3 q4 q5 q6 q7 q8 q9 q10 q11 u0 u1 u2 u3 u4 u5 u6 u7 u8 u9 u10 u11 y0 y1 y2 y3 y4 y5 y6 y7 y8 y9 y10 y11 s1 s2
  clear qm s0
  have X1 := (X1.past _).keep b3
  have X2 := (X2.past _).keep b3
  have B3 : Hid (Below w.heap.size w w3) := bel_trans (bel_alloc B2.out _) b3
  clear b3 B2
  obtain ⟨⟨q0, q1, q2, q3, q4, q5, q6, q7, q8, q9, q10, q11⟩, s1⟩ := X1.twelve
  obtain ⟨⟨u0, u1, u2, u3, u4, u5, u6, u7, u8, u9, u10, u11⟩, s2⟩ := X2.twelve
  obtain ⟨y0, y1, y2, y3, y4, y5, y6, y7, y8, y9, y10, y11⟩ := X2.marks
  go_wp2_with fail
  refine (fill_atF (HS.out.keep (bel_alloc B3.out _)) HF.out HFC.out).mono ?_
  rintro e w4 ⟨b', cap', rfl, hS4, hN4, b4⟩
  have HN4 : Hid (Fresh w.heap.size (.slice b' c.length cap')) := hN4.mono (bel_alloc B3.out _).size
  clear hN4
  have n2 : ¬ w3.heap.size = w.heap.size + 1 + 1 := by omega
  have n1 : ¬ w3.heap.size = w.heap.size + 1 := by omega
  clear q0 q1 q2 q3 q4 q5 q6 q7 q8 q9 q10 q11 u0 u1 u2 u3 u4 u5 u6 u7 u8 u9 u10 u11 y0 y1 y2 y3 y4 y5 y6 y7 y8 y9 y10 y11 s1 s2
  have X1 := (X1.past _).keep b4
  have X2 := (X2.past _).keep b4
  have X3 := (Box.newAt (w := w3) rfl 108 #[.bool true, .bool true, .bool x, .bool true, .int .i64 a]).keep b4
  have B4 : Hid (Below w.heap.size w w4) := bel_trans (bel_alloc B3.out _) b4
  clear b4 B3
  have AP1 : Hid (Apart _ _ _) := hS4.apart X1
  have AP2 : Hid (Apart _ _ _) := hS4.apart X2
  have H4 : Hid (Ls _ _ _) := hS4
  clear hS4
  obtain ⟨⟨q0, q1, q2, q3, q4, q5, q6, q7, q8, q9, q10, q11⟩, s1⟩ := X1.twelve
  obtain ⟨⟨u0, u1, u2, u3, u4, u5, u6, u7, u8, u9, u10, u11⟩, s2⟩ := X2.twelve
  obtain ⟨y0, y1, y2, y3, y4, y5, y6, y7, y8, y9, y10, y11⟩ := X2.marks
  obtain ⟨-, -, z2, -⟩ := X1.marks
  have e4 : w4.cell? ⟨w3.heap.size, 4, none⟩ = some (.int .i64 a) := X3.cell 4
  have s3 := X3.lt
  go_wp2
  go_region
  go_wp2
  refine bodyPost_ret (v := .tuple #[.agg #[.int .i64 mo, .int .i64 ba, .slice b' c.length cap', .int .i64 op, .int .i64 oh, .int .i64 ot, .bool st, .int .i64 fe, .int .i64 fp, .int .i64 fh, .int .i64 ft, .bool lo], .int .i64 a, .int .i64 0]) (by simp [results, Try.results63, go_sem, *]) rfl ⟨_, _, _, _, rfl, HT.out, ?_, ?_, fun _ h _ => HN4.out.mono h⟩
  · (repeat (first | with_reducible exact H4.out | with_reducible refine Ls.drew ?_ | with_reducible refine Ls.put12 ?_ AP2.out _ _ _ _ _ _ _ _ _ _ _ _ | with_reducible refine Ls.putAt ?_ AP1.out _ _))
  · (repeat (first | with_reducible exact B4.out | with_reducible refine Below.drew ?_ | (with_reducible refine bel_set12 ?_ ?_ _ _ _ _ _ _ _ _ _ _ _ _; (focus omega)) | (with_reducible refine bel_set ?_ ?_ _; (focus (dsimp only; omega)))))
end Go.Proofs.Ytefcdcneenjbgab
/-
  Package bridge: copyOf's lines lie in new memory.
-/
namespace Go.Proofs.Ytefcdcneenjbgab
open Go.RowKit

set_option maxHeartbeats 2000000 in
theorem copyOf_anyN (mo ba op oh ot fe fp fh ft : Int) (st lo : Bool) (vc : Value) (l : List Ln) (w : World) (h : Ls w vc l) (hn : l.length ≤ 6) :
    Calls Try.prog 62 #[.agg #[.int .i64 mo, .int .i64 ba, vc, .int .i64 op, .int .i64 oh, .int .i64 ot, .bool st, .int .i64 fe, .int .i64 fp, .int .i64 fh, .int .i64 ft, .bool lo]] w fun e w' => ∃ g, w.heap.size ≤ g ∧ e = .returned (.agg #[.int .i64 mo, .int .i64 ba, .slice (some ⟨g, 0, none⟩) l.length l.length, .int .i64 op, .int .i64 oh, .int .i64 ot, .bool st, .int .i64 fe, .int .i64 fp, .int .i64 fh, .int .i64 ft, .bool lo]) ∧ Ls w' (.slice (some ⟨g, 0, none⟩) l.length l.length) l ∧ Below w.heap.size w w' := by
  have HS : Hid (Ls w vc l) := h
  obtain ⟨va, vk, rfl, -⟩ := h.shape
  clear h
  have HN : Hid (l.length ≤ 6) := hn
  obtain ⟨N, hN⟩ : ∃ N, N = l.length := ⟨_, rfl⟩
  have HE : Hid (N = l.length) := hN
  rw [← hN]
  have hN6 : N ≤ 6 := by omega
  have HV : Hid (Ls w (.slice va N vk) l) := by show Ls _ _ _; rw [hN]; exact HS.out
  clear hN hn
  have hW : Below w.heap.size w ((w.alloc (.cells #[.int .i64 mo, .int .i64 ba, .slice va N vk, .int .i64 op, .int .i64 oh, .int .i64 ot, .bool st, .int .i64 fe, .int .i64 fp, .int .i64 fh, .int .i64 ft, .bool lo] 44)).alloc (.cells #[.int .i64 0, .int .i64 0, .slice none 0 0, .int .i64 0, .int .i64 0, .int .i64 0, .bool false, .int .i64 0, .int .i64 0, .int .i64 0, .int .i64 0, .bool false] 44)) := bel_alloc (bel_alloc (Below.refl _ _) _) _
  obtain ⟨cur, hmk, hcs⟩ := makeLines ((w.alloc (.cells #[.int .i64 mo, .int .i64 ba, .slice va N vk, .int .i64 op, .int .i64 oh, .int .i64 ot, .bool st, .int .i64 fe, .int .i64 fp, .int .i64 fh, .int .i64 ft, .bool lo] 44)).alloc (.cells #[.int .i64 0, .int .i64 0, .slice none 0 0, .int .i64 0, .int .i64 0, .int .i64 0, .bool false, .int .i64 0, .int .i64 0, .int .i64 0, .int .i64 0, .bool false] 44)) N hN6
  have hg0 : (((w.alloc (.cells #[.int .i64 mo, .int .i64 ba, .slice va N vk, .int .i64 op, .int .i64 oh, .int .i64 ot, .bool st, .int .i64 fe, .int .i64 fp, .int .i64 fh, .int .i64 ft, .bool lo] 44)).alloc (.cells #[.int .i64 0, .int .i64 0, .slice none 0 0, .int .i64 0, .int .i64 0, .int .i64 0, .bool false, .int .i64 0, .int .i64 0, .int .i64 0, .int .i64 0, .bool false] 44)).alloc (.cells cur 68)).heap[w.heap.size + 1 + 1]? = some (.cells cur 68 (0, 0)) := heap_at (by simp)
  obtain ⟨w3, hcp, hg3, ho3, hs3, hb3⟩ := copyLines _ 3 (.slice va N vk) (w.heap.size + 1 + 1) l cur hg0 (by rw [hcs, HE.out]) (HV.out.keep (bel_alloc hW _))
  rw [← HE.out] at hcp
  have X0 : Box w3 w.heap.size 44 #[.int .i64 mo, .int .i64 ba, .slice va N vk, .int .i64 op, .int .i64 oh, .int .i64 ot, .bool st, .int .i64 fe, .int .i64 fp, .int .i64 fh, .int .i64 ft, .bool lo] := by
    unfold Box; rw [ho3 _ (by omega)]
    exact ((Box.newAt (n := w.heap.size) rfl 44 _).past _).past _
  have X1 : Box w3 (w.heap.size + 1) 44 #[.int .i64 0, .int .i64 0, .slice none 0 0, .int .i64 0, .int .i64 0, .int .i64 0, .bool false, .int .i64 0, .int .i64 0, .int .i64 0, .int .i64 0, .bool false] := by
    unfold Box; rw [ho3 _ (by omega)]
    exact (Box.newAt (n := w.heap.size + 1) (by simp) 44 _).past _
  have B3 : Hid (Below w.heap.size w w3) := (bel_alloc hW _).trans (hb3.mono (by omega))
  obtain ⟨⟨q0, q1, q2, q3, q4, q5, q6, q7, q8, q9, q10, q11⟩, s0⟩ := X0.twelve
  obtain ⟨-, -, z2, -⟩ := X0.marks
  obtain ⟨⟨u0, u1, u2, u3, u4, u5, u6, u7, u8, u9, u10, u11⟩, s1⟩ := X1.twelve
  obtain ⟨y0, y1, y2, y3, y4, y5, y6, y7, y8, y9, y10, y11⟩ := X1.marks
  have HG : Hid _ := hg3
  clear hg3 ho3 hs3 hb3 hg0 hW hcs
  have n1 : ¬ w.heap.size + 1 + 1 = w.heap.size := by omega
  have n2 : ¬ w.heap.size + 1 + 1 = w.heap.size + 1 := by omega
  go_enter Try.func62, Try.ntmps62
  go_wp2
  refine bodyPost_ret (v := .agg #[.int .i64 mo, .int .i64 ba, .slice (some ⟨w.heap.size + 1 + 1, 0, none⟩) N N, .int .i64 op, .int .i64 oh, .int .i64 ot, .bool st, .int .i64 fe, .int .i64 fp, .int .i64 fh, .int .i64 ft, .bool lo]) (by simp [results, Try.results62, go_sem, *]) rfl ⟨_, by omega, rfl, ?_, ?_⟩
  · rw [HE.out]
    refine ls_block ?_ HN.out
    exact (Box.other (p := ⟨w.heap.size, 2, none⟩) HG.out (by dsimp only; omega) _).other12 (by omega) _ _ _ _ _ _ _ _ _ _ _ _
  · exact bel_set12 (by omega) (bel_set (by dsimp only; omega) B3.out _) _ _ _ _ _ _ _ _ _ _ _ _

end Go.Proofs.Ytefcdcneenjbgab
/-
  Package bridge: Through and Plain: what they answer, of anything; nothing that was there turns.
-/
namespace Go.Proofs.Ytefcdcneenjbgab
open Go.RowKit

theorem chkC_len {l : List Ln} (h : chkC l = 0) : l.length ≤ 6 := (chkC_zero.1 h).1

theorem whileOn_any (v : Value) (zs : List Int) (mo ba op oh ot fe fp fh ft : Int) (st lo : Bool) (vc : Value) (l : List Ln) (d p : Int) (wr : Bool) (w : World) (hs : Sl w v zs) (h : Ls w vc l) (hE : thE zs ⟨mo, ba, l, op, oh, ot, st, fe, fp, fh, ft, lo⟩ d p = 0) (hm : mo = 2) :
    Calls Try.prog 63 #[.agg #[v], .agg #[.int .i64 mo, .int .i64 ba, vc, .int .i64 op, .int .i64 oh, .int .i64 ot, .bool st, .int .i64 fe, .int .i64 fp, .int .i64 fh, .int .i64 ft, .bool lo], .int .i64 d, .int .i64 p, .bool wr] w fun e w' =>
      ∃ vc1 l1 k f, e = .returned (.tuple #[.agg #[.int .i64 mo, .int .i64 ba, vc1, .int .i64 op, .int .i64 oh, .int .i64 ot, .bool st, .int .i64 fe, .int .i64 fp, .int .i64 fh, .int .i64 ft, .bool lo], .int .i64 k, .int .i64 f]) ∧ goT zs ⟨mo, ba, l, op, oh, ot, st, fe, fp, fh, ft, lo⟩ d p wr = (⟨mo, ba, l1, op, oh, ot, st, fe, fp, fh, ft, lo⟩, k, f) ∧ Ls w' vc1 l1 ∧ Below w.heap.size w w' ∧ ∀ N, N ≤ w.heap.size → Fresh N vc → Fresh N vc1 := by
  obtain ⟨hk, hb, hd, hp⟩ := thE_ok hE
  obtain ⟨_, g2, _, g4, _, _⟩ := chkB_ok hb
  have hg : ∀ X, goT zs ⟨mo, ba, l, op, oh, ot, st, fe, fp, fh, ft, lo⟩ d p wr = X ↔ (if 0 ≤ fndC l d p then (if (wr && !(lineC l d p).2.2.2.2) = true then (⟨mo, ba, l, op, oh, ot, st, fe, fp, fh, ft, lo⟩, 0, 5) else (⟨mo, ba, l, op, oh, ot, st, fe, fp, fh, ft, lo⟩, (lineC l d p).2.2.1, 0)) else byT zs ⟨mo, ba, l, op, oh, ot, st, fe, fp, fh, ft, lo⟩ d p wr) = X := fun X => by
    rw [goT, if_neg (by show ¬ mo = 0; omega), if_neg (by show ¬ mo = 1; omega)]
  by_cases hf : 0 ≤ fndC l d p
  · refine (whileOn_found v zs mo ba op oh ot fe fp fh ft st lo vc l d p wr w hs h hf).mono ?_
    rintro e w' ⟨rfl, hl, hb⟩
    refine ⟨_, l, _, _, rfl, (hg _).2 ?_, hl, hb, fun _ _ h => h⟩
    rw [if_pos hf]
    cases hq : (wr && !(lineC l d p).2.2.2.2) <;> rfl
  · refine (whileOn_table v zs mo ba op oh ot fe fp fh ft st lo vc l d p wr w hs h hk g4 g2 hd hp hf).mono ?_
    rintro e w' ⟨vc1, l1, k, f, rfl, hT, hl, hb, hN⟩
    exact ⟨vc1, l1, k, f, rfl, (hg _).2 (by rw [if_neg hf]; exact hT), hl, hb, hN⟩

theorem whoB_ways (d p : Int) : (whoB d p = true ∧ stepR d = true ∧ pageR p = true) ∨ (whoB d p = false ∧ (stepR d = false ∨ (stepR d = true ∧ pageR p = false))) := by
  simp only [whoB, stepR, pageR]
  by_cases h1 : 0 ≤ d ∧ d < 8
  · by_cases h2 : 0 ≤ p ∧ p < 64
    · exact .inl ⟨by simp; omega, by simp [h1], by simp [h2]⟩
    · exact .inr ⟨by simp; omega, .inr ⟨by simp [h1], by simpa using h2⟩⟩
  · exact .inr ⟨by simp; omega, .inl (by simpa using h1)⟩

/-- What comes out of Through, as letters. -/
abbrev ThOut (zs : List Int) (b : Br) (d p : Int) (wr : Bool) (w : World) (e : Ending) (w' : World) : Prop :=
  ∃ mo1 ba1 op1 oh1 ot1 fe1 fp1 fh1 ft1 st1 lo1 va1 vk1 l1 k f, e = .returned (.tuple #[.agg #[.int .i64 mo1, .int .i64 ba1, .slice va1 l1.length vk1, .int .i64 op1, .int .i64 oh1, .int .i64 ot1, .bool st1, .int .i64 fe1, .int .i64 fp1, .int .i64 fh1, .int .i64 ft1, .bool lo1], .int .i64 k, .int .i64 f, .int .i64 (thE zs b d p)]) ∧ thR zs b d p wr = (⟨mo1, ba1, l1, op1, oh1, ot1, st1, fe1, fp1, fh1, ft1, lo1⟩, k, f) ∧ Ls w' (.slice va1 l1.length vk1) l1 ∧ Below w.heap.size w w'

/-- The same, and that the lines lie in new memory. -/
abbrev ThOutF (zs : List Int) (b : Br) (d p : Int) (wr : Bool) (w : World) (e : Ending) (w' : World) : Prop :=
  ∃ mo1 ba1 op1 oh1 ot1 fe1 fp1 fh1 ft1 st1 lo1 va1 vk1 l1 k f, e = .returned (.tuple #[.agg #[.int .i64 mo1, .int .i64 ba1, .slice va1 l1.length vk1, .int .i64 op1, .int .i64 oh1, .int .i64 ot1, .bool st1, .int .i64 fe1, .int .i64 fp1, .int .i64 fh1, .int .i64 ft1, .bool lo1], .int .i64 k, .int .i64 f, .int .i64 (thE zs b d p)]) ∧ thR zs b d p wr = (⟨mo1, ba1, l1, op1, oh1, ot1, st1, fe1, fp1, fh1, ft1, lo1⟩, k, f) ∧ Ls w' (.slice va1 l1.length vk1) l1 ∧ Below w.heap.size w w' ∧ Fresh w.heap.size (.slice va1 l1.length vk1)

set_option maxHeartbeats 4000000 in
theorem through_anyF (v : Value) (zs : List Int) (mo ba op oh ot fe fp fh ft : Int) (st lo : Bool) (vc : Value) (l : List Ln) (d p : Int) (wr : Bool) (w : World) (hs : Sl w v zs) (h : Ls w vc l) :
    Calls Try.prog 24 #[.agg #[v], .agg #[.int .i64 mo, .int .i64 ba, vc, .int .i64 op, .int .i64 oh, .int .i64 ot, .bool st, .int .i64 fe, .int .i64 fp, .int .i64 fh, .int .i64 ft, .bool lo], .int .i64 d, .int .i64 p, .bool wr] w fun e w' => ThOutF zs ⟨mo, ba, l, op, oh, ot, st, fe, fp, fh, ft, lo⟩ d p wr w e w' := by
  have HS : Hid (Ls w vc l) := h
  obtain ⟨va, vk, rfl, -⟩ := h.shape
  have HM : Hid (Sl w v zs) := hs
  obtain ⟨ma, mc, rfl⟩ := hs.shape
  clear h hs
  go_enter Try.func24, Try.ntmps24
  go_wp2_with fail
  refine (checkBothB_any _ zs mo ba op oh ot fe fp fh ft st lo (.slice va l.length vk) l _ (HM.out.keep (bel_alloc (bel_alloc (bel_alloc (Below.refl _ _) _) _) _)) (HS.out.keep (bel_alloc (bel_alloc (bel_alloc (Below.refl _ _) _) _) _))).mono ?_
  rintro e w1 ⟨rfl, b1⟩
  have X0 := (((Box.newAt (n := w.heap.size) rfl 39 #[.slice ma zs.length mc]).past _).past _).keep b1
  have X1 := ((Box.newAt (n := w.heap.size + 1) (by simp) 44 #[.int .i64 mo, .int .i64 ba, .slice va l.length vk, .int .i64 op, .int .i64 oh, .int .i64 ot, .bool st, .int .i64 fe, .int .i64 fp, .int .i64 fh, .int .i64 ft, .bool lo]).past _).keep b1
  have X2 := (Box.newAt (n := w.heap.size + 1 + 1) (by simp) 44 #[.int .i64 0, .int .i64 0, .slice none 0 0, .int .i64 0, .int .i64 0, .int .i64 0, .bool false, .int .i64 0, .int .i64 0, .int .i64 0, .int .i64 0, .bool false]).keep b1
  have B1 : Hid (Below w.heap.size w w1) := bel_trans (bel_alloc (bel_alloc (bel_alloc (Below.refl _ _) _) _) _) b1
  clear b1
  obtain ⟨qm, -, s0⟩ := X0.one
  obtain ⟨⟨q0, q1, q2, q3, q4, q5, q6, q7, q8, q9, q10, q11⟩, s1⟩ := X1.twelve
  obtain ⟨⟨u0, u1, u2, u3, u4, u5, u6, u7, u8, u9, u10, u11⟩, s2⟩ := X2.twelve
  obtain ⟨y0, y1, y2, y3, y4, y5, y6, y7, y8, y9, y10, y11⟩ := X2.marks
  by_cases hk : bothB zs ⟨mo, ba, l, op, oh, ot, st, fe, fp, fh, ft, lo⟩ = 0
  rotate_left
  · have HE : Hid (thE zs ⟨mo, ba, l, op, oh, ot, st, fe, fp, fh, ft, lo⟩ d p = bothB zs ⟨mo, ba, l, op, oh, ot, st, fe, fp, fh, ft, lo⟩) := if_neg hk
    have HR : Hid (thR zs ⟨mo, ba, l, op, oh, ot, st, fe, fp, fh, ft, lo⟩ d p wr = (B0, 0, 0)) := if_neg (by rw [HE.out]; exact hk)
    generalize bothB zs ⟨mo, ba, l, op, oh, ot, st, fe, fp, fh, ft, lo⟩ = E at *
    have hq : (E != 0) = true := by simpa using hk
    go_wp2
    refine bodyPost_ret (v := .tuple #[.agg #[.int .i64 0, .int .i64 0, .slice none 0 0, .int .i64 0, .int .i64 0, .int .i64 0, .bool false, .int .i64 0, .int .i64 0, .int .i64 0, .int .i64 0, .bool false], .int .i64 0, .int .i64 0, .int .i64 E]) (by simp [results, Try.results24, go_sem, *]) rfl ⟨_, _, _, _, _, _, _, _, _, _, _, _, _, [], _, _, by rw [HE.out]; rfl, HR.out, Ls.nothing _, ?_, Fresh.none _ _ _⟩
    (repeat (first | with_reducible exact B1.out | with_reducible refine bel_alloc ?_ _ | (with_reducible refine bel_set12 ?_ ?_ _ _ _ _ _ _ _ _ _ _ _ _; (focus omega))))
  rcases whoB_ways d p with ⟨hw, hw1, hw2⟩ | ⟨hw, hww⟩
  rotate_left
  · have HE : Hid (thE zs ⟨mo, ba, l, op, oh, ot, st, fe, fp, fh, ft, lo⟩ d p = 4) := by show _ = _; rw [thE, if_pos hk, hw]; rfl
    have HR : Hid (thR zs ⟨mo, ba, l, op, oh, ot, st, fe, fp, fh, ft, lo⟩ d p wr = (B0, 0, 0)) := if_neg (by rw [HE.out]; decide)
    rw [hk]
    clear hw hk
    rcases hww with hw1 | ⟨hw1, hw2⟩
    all_goals
      go_wp2_with (first | (go_at_call 61; refine (isPageB_any _ _).mono ?_; rintro e w' ⟨rfl, rfl⟩) | (go_at_call 60; refine (isDevB_any _ _).mono ?_; rintro e w' ⟨rfl, rfl⟩))
      refine bodyPost_ret (v := .tuple #[.agg #[.int .i64 0, .int .i64 0, .slice none 0 0, .int .i64 0, .int .i64 0, .int .i64 0, .bool false, .int .i64 0, .int .i64 0, .int .i64 0, .int .i64 0, .bool false], .int .i64 0, .int .i64 0, .int .i64 4]) (by simp [results, Try.results24, go_sem, *]) rfl ⟨_, _, _, _, _, _, _, _, _, _, _, _, _, [], _, _, by rw [HE.out]; rfl, HR.out, Ls.nothing _, ?_, Fresh.none _ _ _⟩
      (repeat (first | with_reducible exact B1.out | with_reducible refine bel_alloc ?_ _ | (with_reducible refine bel_set12 ?_ ?_ _ _ _ _ _ _ _ _ _ _ _ _; (focus omega))))
  have HE : Hid (thE zs ⟨mo, ba, l, op, oh, ot, st, fe, fp, fh, ft, lo⟩ d p = 0) := by show _ = _; rw [thE, if_pos hk, if_pos hw]
  have HR : Hid (thR zs ⟨mo, ba, l, op, oh, ot, st, fe, fp, fh, ft, lo⟩ d p wr = goT zs ⟨mo, ba, l, op, oh, ot, st, fe, fp, fh, ft, lo⟩ d p wr) := if_pos HE.out
  have hmo : 0 ≤ mo ∧ mo ≤ 2 := (chkB_ok (bothB_ok hk).2).1
  have hl6 : l.length ≤ 6 := chkC_len (chkB_ok (bothB_ok hk).2).2.2.2.1
  rw [hk]
  clear hk hw
  go_wp2_with (first | (go_at_call 61; refine (isPageB_any _ _).mono ?_; rintro e w' ⟨rfl, rfl⟩) | (go_at_call 60; refine (isDevB_any _ _).mono ?_; rintro e w' ⟨rfl, rfl⟩))
  refine (copyOf_anyN mo ba op oh ot fe fp fh ft st lo (.slice va l.length vk) l _ (HS.out.keep B1.out) hl6).mono ?_
  rintro e w2 ⟨g, hgn, rfl, hS2, b2⟩
  have GN : Hid (w.heap.size ≤ g) := Nat.le_trans B1.out.size hgn
  clear hgn
  clear q0 q1 q2 q3 q4 q5 q6 q7 q8 q9 q10 q11 u0 u1 u2 u3 u4 u5 u6 u7 u8 u9 u10 u11 y0 y1 y2 y3 y4 y5 y6 y7 y8 y9 y10 y11 s0 s1 s2 qm X1
  have X0 := X0.keep b2
  have X2 := X2.keep b2
  have B2 : Hid (Below w.heap.size w w2) := bel_trans B1.out b2
  have AP : Hid (Apart _ _ _) := hS2.apart X2
  have H2 : Hid (Ls _ _ _) := hS2
  clear b2 B1 hS2
  obtain ⟨qm, -, s0⟩ := X0.one
  obtain ⟨⟨u0, u1, u2, u3, u4, u5, u6, u7, u8, u9, u10, u11⟩, s2⟩ := X2.twelve
  obtain ⟨y0, y1, y2, y3, y4, y5, y6, y7, y8, y9, y10, y11⟩ := X2.marks
  have z1 : w.heap.size < w2.heap.size := by omega
  obtain hm | hm | hm : mo = 0 ∨ mo = 1 ∨ mo = 2 := by omega
  · subst hm
    have HG : Hid (goT zs ⟨0, ba, l, op, oh, ot, st, fe, fp, fh, ft, lo⟩ d p wr = (⟨0, ba, l, op, oh, ot, st, fe, fp, fh, ft, lo⟩, 0, 1)) := rfl
    go_wp2
    refine bodyPost_ret (v := .tuple #[.agg #[.int .i64 0, .int .i64 ba, .slice (some ⟨g, 0, none⟩) l.length l.length, .int .i64 op, .int .i64 oh, .int .i64 ot, .bool st, .int .i64 fe, .int .i64 fp, .int .i64 fh, .int .i64 ft, .bool lo], .int .i64 0, .int .i64 1, .int .i64 0]) (by simp [results, Try.results24, go_sem, *]) rfl ⟨_, _, _, _, _, _, _, _, _, _, _, _, _, l, _, _, by rw [HE.out], HR.out.trans HG.out, ?_, ?_, fresh_at GN.out _ _ _⟩
    · (repeat (first | with_reducible exact H2.out | with_reducible refine Ls.alloc ?_ _ | with_reducible refine Ls.put12 ?_ AP.out _ _ _ _ _ _ _ _ _ _ _ _))
    · (repeat (first | with_reducible exact B2.out | with_reducible refine bel_alloc ?_ _ | (with_reducible refine bel_set12 ?_ ?_ _ _ _ _ _ _ _ _ _ _ _ _; (focus omega))))
  · subst hm
    have HG : Hid (goT zs ⟨1, ba, l, op, oh, ot, st, fe, fp, fh, ft, lo⟩ d p wr = (⟨1, ba, l, op, oh, ot, st, fe, fp, fh, ft, lo⟩, p, 0)) := rfl
    go_wp2
    refine bodyPost_ret (v := .tuple #[.agg #[.int .i64 1, .int .i64 ba, .slice (some ⟨g, 0, none⟩) l.length l.length, .int .i64 op, .int .i64 oh, .int .i64 ot, .bool st, .int .i64 fe, .int .i64 fp, .int .i64 fh, .int .i64 ft, .bool lo], .int .i64 p, .int .i64 0, .int .i64 0]) (by simp [results, Try.results24, go_sem, *]) rfl ⟨_, _, _, _, _, _, _, _, _, _, _, _, _, l, _, _, by rw [HE.out], HR.out.trans HG.out, ?_, ?_, fresh_at GN.out _ _ _⟩
    · (repeat (first | with_reducible exact H2.out | with_reducible refine Ls.alloc ?_ _ | with_reducible refine Ls.put12 ?_ AP.out _ _ _ _ _ _ _ _ _ _ _ _))
    · (repeat (first | with_reducible exact B2.out | with_reducible refine bel_alloc ?_ _ | (with_reducible refine bel_set12 ?_ ?_ _ _ _ _ _ _ _ _ _ _ _ _; (focus omega))))
  subst hm
  go_wp2_with fail
  refine (whileOn_any _ zs 2 ba op oh ot fe fp fh ft st lo (.slice (some ⟨g, 0, none⟩) l.length l.length) l d p wr _ (HM.out.keep (bel_alloc B2.out _)) (H2.out.alloc _) HE.out rfl).mono ?_
  rintro e w3 ⟨vc1, l1, k, f, rfl, hG, hL, b3, hN3⟩
  obtain ⟨va1, vk1, rfl, -⟩ := hL.shape
  have FN : Hid (Fresh w.heap.size (.slice va1 l1.length vk1)) := hN3 _ (bel_alloc B2.out _).size (fresh_at GN.out _ _ _)
  clear hN3
  have X2 := (X2.past _).keep b3
  have X3 := (Box.newAt (w := w2) rfl 44 #[.int .i64 2, .int .i64 ba, .slice (some ⟨g, 0, none⟩) l.length l.length, .int .i64 op, .int .i64 oh, .int .i64 ot, .bool st, .int .i64 fe, .int .i64 fp, .int .i64 fh, .int .i64 ft, .bool lo]).keep b3
  have B3 : Hid (Below w.heap.size w w3) := bel_trans (bel_alloc B2.out _) b3
  have AP2 : Hid (Apart _ _ _) := hL.apart X2
  have AP3 : Hid (Apart _ _ _) := hL.apart X3
  have H3 : Hid (Ls _ _ _) := hL
  have HG : Hid (_ = _) := hG
  clear b3 B2 hL hG u0 u1 u2 u3 u4 u5 u6 u7 u8 u9 u10 u11 y0 y1 y2 y3 y4 y5 y6 y7 y8 y9 y10 y11 qm X0
  have n2 : ¬ w2.heap.size = w.heap.size + 1 + 1 := by omega
  clear s2
  obtain ⟨⟨u0, u1, u2, u3, u4, u5, u6, u7, u8, u9, u10, u11⟩, s2⟩ := X2.twelve
  obtain ⟨y0, y1, y2, y3, y4, y5, y6, y7, y8, y9, y10, y11⟩ := X2.marks
  obtain ⟨⟨t0, t1, t2, t3, t4, t5, t6, t7, t8, t9, t10, t11⟩, s3⟩ := X3.twelve
  obtain ⟨x0, x1, x2, x3, x4, x5, x6, x7, x8, x9, x10, x11⟩ := X3.marks
  go_wp2
  refine bodyPost_ret (v := .tuple #[.agg #[.int .i64 2, .int .i64 ba, .slice va1 l1.length vk1, .int .i64 op, .int .i64 oh, .int .i64 ot, .bool st, .int .i64 fe, .int .i64 fp, .int .i64 fh, .int .i64 ft, .bool lo], .int .i64 k, .int .i64 f, .int .i64 0]) (by simp [results, Try.results24, go_sem, *]) rfl ⟨_, _, _, _, _, _, _, _, _, _, _, _, _, l1, _, _, by rw [HE.out], HR.out.trans HG.out, ?_, ?_, FN.out⟩
  · (repeat (first | with_reducible exact H3.out | with_reducible refine Ls.put12 ?_ AP2.out _ _ _ _ _ _ _ _ _ _ _ _ | with_reducible refine Ls.put12 ?_ AP3.out _ _ _ _ _ _ _ _ _ _ _ _))
  · (repeat (first | with_reducible exact B3.out | (with_reducible refine bel_set12 ?_ ?_ _ _ _ _ _ _ _ _ _ _ _ _; (focus omega))))

theorem through_any (v : Value) (zs : List Int) (mo ba op oh ot fe fp fh ft : Int) (st lo : Bool) (vc : Value) (l : List Ln) (d p : Int) (wr : Bool) (w : World) (hs : Sl w v zs) (h : Ls w vc l) :
    Calls Try.prog 24 #[.agg #[v], .agg #[.int .i64 mo, .int .i64 ba, vc, .int .i64 op, .int .i64 oh, .int .i64 ot, .bool st, .int .i64 fe, .int .i64 fp, .int .i64 fh, .int .i64 ft, .bool lo], .int .i64 d, .int .i64 p, .bool wr] w fun e w' => ThOut zs ⟨mo, ba, l, op, oh, ot, st, fe, fp, fh, ft, lo⟩ d p wr w e w' := by
  refine (through_anyF v zs mo ba op oh ot fe fp fh ft st lo vc l d p wr w hs h).mono ?_
  rintro e w' ⟨mo2, ba2, op2, oh2, ot2, fe2, fp2, fh2, ft2, st2, lo2, va2, vk2, l2, k2, f2, he, hR2, hl, hb, -⟩
  exact ⟨mo2, ba2, op2, oh2, ot2, fe2, fp2, fh2, ft2, st2, lo2, va2, vk2, l2, k2, f2, he, hR2, hl, hb⟩
end Go.Proofs.Ytefcdcneenjbgab
/-
  Package bridge: Plain; and the forms of Through and Plain where what they answer is known.
-/
namespace Go.Proofs.Ytefcdcneenjbgab
open Go.RowKit

theorem through_at {v : Value} {zs : List Int} {mo ba op oh ot fe fp fh ft : Int} {st lo : Bool} {vc : Value} {l : List Ln} {d p : Int} {wr : Bool} {w : World} {mo1 ba1 op1 oh1 ot1 fe1 fp1 fh1 ft1 : Int} {st1 lo1 : Bool} {l1 : List Ln} {k f e0 : Int} (hs : Sl w v zs) (h : Ls w vc l) (hE : thE zs ⟨mo, ba, l, op, oh, ot, st, fe, fp, fh, ft, lo⟩ d p = e0) (hR : thR zs ⟨mo, ba, l, op, oh, ot, st, fe, fp, fh, ft, lo⟩ d p wr = (⟨mo1, ba1, l1, op1, oh1, ot1, st1, fe1, fp1, fh1, ft1, lo1⟩, k, f)) :
    Calls Try.prog 24 #[.agg #[v], .agg #[.int .i64 mo, .int .i64 ba, vc, .int .i64 op, .int .i64 oh, .int .i64 ot, .bool st, .int .i64 fe, .int .i64 fp, .int .i64 fh, .int .i64 ft, .bool lo], .int .i64 d, .int .i64 p, .bool wr] w fun e w' =>
      ∃ va1 vk1, e = .returned (.tuple #[.agg #[.int .i64 mo1, .int .i64 ba1, .slice va1 l1.length vk1, .int .i64 op1, .int .i64 oh1, .int .i64 ot1, .bool st1, .int .i64 fe1, .int .i64 fp1, .int .i64 fh1, .int .i64 ft1, .bool lo1], .int .i64 k, .int .i64 f, .int .i64 e0]) ∧ Ls w' (.slice va1 l1.length vk1) l1 ∧ Below w.heap.size w w' := by
  refine (through_any v zs mo ba op oh ot fe fp fh ft st lo vc l d p wr w hs h).mono ?_
  rintro e w' ⟨mo2, ba2, op2, oh2, ot2, fe2, fp2, fh2, ft2, st2, lo2, va2, vk2, l2, k2, f2, rfl, hR2, hl, hb⟩
  rw [hR] at hR2
  simp only [Prod.mk.injEq, Br.mk.injEq] at hR2
  obtain ⟨⟨rfl, rfl, rfl, rfl, rfl, rfl, rfl, rfl, rfl, rfl, rfl, rfl⟩, rfl, rfl⟩ := hR2
  rw [hE]
  exact ⟨va2, vk2, rfl, hl, hb⟩

set_option maxHeartbeats 4000000 in
theorem plain_at {v : Value} {zs : List Int} {mo ba op oh ot fe fp fh ft : Int} {st lo : Bool} {vc : Value} {l : List Ln} {d p : Int} {wr : Bool} {w : World} {c : Br} {k f e0 : Int} (hs : Sl w v zs) (h : Ls w vc l) (hE : thE zs ⟨mo, ba, [], op, oh, ot, st, fe, fp, fh, ft, lo⟩ d p = e0) (hR : thR zs ⟨mo, ba, [], op, oh, ot, st, fe, fp, fh, ft, lo⟩ d p wr = (c, k, f)) :
    Calls Try.prog 25 #[.agg #[v], .agg #[.int .i64 mo, .int .i64 ba, vc, .int .i64 op, .int .i64 oh, .int .i64 ot, .bool st, .int .i64 fe, .int .i64 fp, .int .i64 fh, .int .i64 ft, .bool lo], .int .i64 d, .int .i64 p, .bool wr] w fun e w' =>
      e = .returned (.tuple #[.int .i64 k, .int .i64 f, .int .i64 e0]) ∧ Below w.heap.size w w' := by
  obtain ⟨va, vk, rfl, -⟩ := h.shape
  have HM : Hid (Sl w v zs) := hs
  obtain ⟨ma, mc, rfl⟩ := hs.shape
  obtain ⟨mo1, ba1, l1, op1, oh1, ot1, st1, fe1, fp1, fh1, ft1, lo1⟩ := c
  have HE : Hid (_ = _) := hE
  have HR : Hid (_ = _) := hR
  clear h hs hE hR
  go_enter Try.func25, Try.ntmps25
  go_wp2_with fail
  have B1 : Hid (Below w.heap.size w _) := bel_alloc (bel_alloc (Below.refl w.heap.size w) (.cells #[.slice ma zs.length mc] 39)) (.cells #[.int .i64 mo, .int .i64 ba, .slice none 0 0, .int .i64 op, .int .i64 oh, .int .i64 ot, .bool st, .int .i64 fe, .int .i64 fp, .int .i64 fh, .int .i64 ft, .bool lo] 44)
  refine (through_at (HM.out.keep B1.out) (Ls.nothing _) HE.out HR.out).mono ?_
  rintro e w2 ⟨va1, vk1, rfl, hl, hb⟩
  have B2 : Hid (Below w.heap.size w w2) := bel_trans B1.out hb
  clear hb hl
  go_wp2
  refine bodyPost_ret (v := .tuple #[.int .i64 k, .int .i64 f, .int .i64 e0]) (by simp [results, Try.results25, go_sem, *]) rfl ⟨rfl, ?_⟩
  (repeat (first | with_reducible exact B2.out | with_reducible refine bel_alloc ?_ _ | (with_reducible refine bel_set12 ?_ ?_ _ _ _ _ _ _ _ _ _ _ _ _; (focus omega))))
end Go.Proofs.Ytefcdcneenjbgab
/-
  The closed fact 'crossed' of the statements answers true; nothing that was there turns.
-/
namespace Go.Proofs.Ytefcdcneenjbgab
open Go.RowKit
def tab : List Int := wth [9, 33, 10, 3, 16, 49, 24, 159, 25, 139] 5
def tab2 : List Int := tab.set 24 0
theorem cr1 : thE tab ⟨2, 1, [], 40, 0, 0, false, 0, 41, 0, 0, false⟩ 1 0 = 0 := by kernel_rfl
theorem cr2 : thR tab ⟨2, 1, [], 40, 0, 0, false, 0, 41, 0, 0, false⟩ 1 0 true = (⟨2, 1, [(1, 0, 9, true, true)], 40, 0, 0, false, 0, 41, 0, 0, false⟩, 9, 0) := by kernel_rfl
theorem cr3 : thE tab2 ⟨2, 1, [(1, 0, 9, true, true)], 40, 0, 0, false, 0, 41, 0, 0, false⟩ 1 0 = 0 := by kernel_rfl
theorem cr4 : thR tab2 ⟨2, 1, [(1, 0, 9, true, true)], 40, 0, 0, false, 0, 41, 0, 0, false⟩ 1 0 true = (⟨2, 1, [(1, 0, 9, true, true)], 40, 0, 0, false, 0, 41, 0, 0, false⟩, 9, 0) := by kernel_rfl
theorem cr5 : thE tab2 ⟨2, 1, [], 40, 0, 0, false, 0, 41, 0, 0, false⟩ 1 0 = 0 := by kernel_rfl
theorem cr6 : thR tab2 ⟨2, 1, [], 40, 0, 0, false, 0, 41, 0, 0, false⟩ 1 0 true = (⟨2, 1, [], 40, 0, 0, false, 0, 41, 0, 0, false⟩, 0, 3) := by kernel_rfl
theorem cr7 : thR tab2 ⟨2, 1, [], 40, 0, 0, false, 0, 41, 0, 0, false⟩ 2 7 true = (⟨2, 1, [], 40, 0, 0, false, 0, 41, 0, 0, false⟩, 7, 0) := by kernel_rfl
theorem cr8 : thR tab2 ⟨2, 1, [], 40, 0, 0, false, 0, 41, 0, 0, false⟩ 3 7 true = (⟨2, 1, [], 40, 0, 0, false, 0, 41, 0, 0, false⟩, 0, 2) := by kernel_rfl
theorem cr9 : thE tab2 ⟨2, 1, [], 40, 0, 0, false, 0, 41, 0, 0, false⟩ 2 7 = 0 := by kernel_rfl
theorem cr10 : thE tab2 ⟨2, 1, [], 40, 0, 0, false, 0, 41, 0, 0, false⟩ 3 7 = 0 := by kernel_rfl

theorem tab_len : tab.length = 512 := wth_len _ _
theorem tab2_len : tab2.length = 512 := by rw [tab2, List.length_set, tab_len]

set_option maxHeartbeats 4000000 in
theorem tables_own (w : World) : Calls Try.prog 66 #[] w fun e w' =>
    ∃ g, e = .returned (.tuple #[.agg #[.slice (some ⟨g, 0, none⟩) 512 512], .agg #[.int .i64 2, .int .i64 1, .slice none 0 0, .int .i64 40, .int .i64 0, .int .i64 0, .bool false, .int .i64 0, .int .i64 41, .int .i64 0, .int .i64 0, .bool false]]) ∧ w'.heap[g]? = some (.cells (intCells tab) 3 (0, 0)) ∧ w.heap.size ≤ g ∧ Below w.heap.size w w' := by
  go_enter Try.func66, Try.ntmps66
  go_wp2_with fail
  refine (with_own _ 0 10 [9, 33, 10, 3, 16, 49, 24, 159, 25, 139] 5 _ ?_ rfl (by decide) (by decide)).mono ?_
  · exact sl_block (heap_at (by simp)) rfl rfl (by simp [maxLen])
  rintro e w1 ⟨g, rfl, hS, b1, hg, cs, hgc, hcs⟩
  have X0 := (((Box.newAt (n := w.heap.size) rfl 39 #[.slice none 0 0]).past _).past _).keep b1
  have X1 := ((Box.newAt (n := w.heap.size + 1) (by simp) 44 #[.int .i64 0, .int .i64 0, .slice none 0 0, .int .i64 0, .int .i64 0, .int .i64 0, .bool false, .int .i64 0, .int .i64 0, .int .i64 0, .int .i64 0, .bool false]).past _).keep b1
  have B1 : Hid (Below w.heap.size w w1) := bel_trans (bel_alloc (bel_alloc (bel_alloc (Below.refl _ _) _) _) _) b1
  have hg' : w.heap.size + 1 + 1 + 1 ≤ g := by simpa using hg
  have hcc : cs = intCells tab := by
    apply Array.ext'
    rw [hcs, intCells_list]; rfl
  have HG : Hid (w1.heap[g]? = some (.cells (intCells tab) 3 (0, 0))) := by show _ = _; rw [hgc, hcc]
  clear b1 hS hg hgc hcs hcc
  obtain ⟨r0, r1, s0⟩ := X0.one
  obtain ⟨⟨u0, u1, u2, u3, u4, u5, u6, u7, u8, u9, u10, u11⟩, s1⟩ := X1.twelve
  obtain ⟨y0, y1, y2, y3, y4, y5, y6, y7, y8, y9, y10, y11⟩ := X1.marks
  go_wp2
  refine bodyPost_ret (v := .tuple #[.agg #[.slice (some ⟨g, 0, none⟩) 512 512], .agg #[.int .i64 2, .int .i64 1, .slice none 0 0, .int .i64 40, .int .i64 0, .int .i64 0, .bool false, .int .i64 0, .int .i64 41, .int .i64 0, .int .i64 0, .bool false]]) (by simp [results, Try.results66, go_sem, *]) rfl ⟨g, rfl, ?_, by omega, ?_⟩
  · exact (Box.other (p := ⟨w.heap.size, 0, none⟩) HG.out (by dsimp only; omega) _).other12 (by omega) _ _ _ _ _ _ _ _ _ _ _ _
  · exact bel_set12 (by omega) (bel_set (p := ⟨w.heap.size, 0, none⟩) (Nat.le_refl _) B1.out _) _ _ _ _ _ _ _ _ _ _ _ _

theorem sl_tab {w : World} {g : Nat} {zs : List Int} (h : w.heap[g]? = some (.cells (intCells zs) 3 (0, 0))) (hl : zs.length = 512) : Sl w (.slice (some ⟨g, 0, none⟩) 512 512) zs :=
  sl_block h (intCells_list _) hl.symm (by rw [hl]; simp [maxLen])

set_option maxHeartbeats 4000000 in
theorem crossed_true (w : World) : Calls Try.prog 28 #[] w fun e w' => e = .returned (.bool true) ∧ Below w.heap.size w w' := by
  go_enter Try.func28, Try.ntmps28
  go_wp2_with fail
  refine (tables_own _).mono ?_
  rintro e w1 ⟨g, rfl, hg1, hg, b1⟩
  have hgl : g < w1.heap.size := Box.lt hg1
  have z1 : w.heap.size ≤ w1.heap.size := b1.size
  have HG : Hid _ := hg1
  have B1 : Hid (Below w.heap.size w w1) := b1
  clear hg1 b1
  have G2 := heap_past (o := .cells #[.int .i64 2, .int .i64 1, .slice none 0 0, .int .i64 40, .int .i64 0, .int .i64 0, .bool false, .int .i64 0, .int .i64 41, .int .i64 0, .int .i64 0, .bool false] 44) (by simp; omega) (heap_past (o := .cells #[.slice (some ⟨g, 0, none⟩) 512 512] 39) hgl HG.out)
  go_wp2_with fail
  refine (through_at (sl_tab G2 tab_len) (Ls.nothing _) cr1 cr2).mono ?_
  rintro e w2 ⟨va, vk, rfl, hL2, b2⟩
  have X1 := ((Box.newAt (w := w1) rfl 39 #[.slice (some ⟨g, 0, none⟩) 512 512]).past (.cells #[.int .i64 2, .int .i64 1, .slice none 0 0, .int .i64 40, .int .i64 0, .int .i64 0, .bool false, .int .i64 0, .int .i64 41, .int .i64 0, .int .i64 0, .bool false] 44)).keep b2
  have X2 := (Box.newAt (w := w1.alloc (.cells #[.slice (some ⟨g, 0, none⟩) 512 512] 39)) (n := w1.heap.size + 1) (by simp) 44 #[.int .i64 2, .int .i64 1, .slice none 0 0, .int .i64 40, .int .i64 0, .int .i64 0, .bool false, .int .i64 0, .int .i64 41, .int .i64 0, .int .i64 0, .bool false]).keep b2
  have G2 := heap_kept b2 (by simp; omega) G2
  have B2 : Hid (Below w.heap.size w w2) := bel_trans (bel_alloc (bel_alloc B1.out _) _) b2
  clear b2 B1 HG
  have zA : w.heap.size ≤ w1.heap.size := z1
  have zg : g < w2.heap.size := Box.lt G2
  have nA : ¬ g = w1.heap.size := by omega
  have nA1 : ¬ g = w1.heap.size + 1 := by omega
  generalize w1.heap.size = A at *
  clear z1 hgl
  have hL2 : Ls w2 (.slice va 1 vk) [(1, 0, 9, true, true)] := hL2
  have HS2 : Hid (Sl w2 (.slice (some ⟨g, 0, none⟩) 512 512) tab) := sl_tab G2 tab_len
  have HL3 : Hid (Ls ((w2.setCell ⟨g, 24, none⟩ (.int .i64 0)).alloc (.cells #[.int .i64 2, .int .i64 1, .slice va 1 vk, .int .i64 40, .int .i64 0, .int .i64 0, .bool false, .int .i64 0, .int .i64 41, .int .i64 0, .int .i64 0, .bool false] 44)) (.slice va 1 vk) [(1, 0, 9, true, true)]) := by
    have := hL2.setSl HS2.out (k := 24) (by rw [tab_len]; decide) (.int .i64 0)
    rw [Nat.zero_add] at this
    exact this.alloc _
  have g24 : w2.cell? ⟨g, 24, none⟩ = some (.int .i64 (nth tab 24)) := by rw [cell_of_row w2 g _ _ _ _ G2, intCells_at (by rw [tab_len]; decide)]
  have f24 : w2.frozen? ⟨g, 24, none⟩ = false := frozen_of_row w2 g _ _ _ G2
  have G3 : ((w2.setCell ⟨g, 24, none⟩ (.int .i64 0)).alloc (.cells #[.int .i64 2, .int .i64 1, .slice va 1 vk, .int .i64 40, .int .i64 0, .int .i64 0, .bool false, .int .i64 0, .int .i64 41, .int .i64 0, .int .i64 0, .bool false] 44)).heap[g]? = some (.cells (intCells tab2) 3 (0, 0)) := by
    refine heap_past (by simpa [World.setCell] using zg) ?_
    rw [heap_setCell_same _ _ _ _ _ _ G2, intCells_set]; rfl
  have X1' := (X1.other (p := ⟨g, 24, none⟩) (by dsimp only; omega) (.int .i64 0)).past (.cells #[.int .i64 2, .int .i64 1, .slice va 1 vk, .int .i64 40, .int .i64 0, .int .i64 0, .bool false, .int .i64 0, .int .i64 41, .int .i64 0, .int .i64 0, .bool false] 44)
  have X2' := (X2.other (p := ⟨g, 24, none⟩) (by dsimp only; omega) (.int .i64 0)).past (.cells #[.int .i64 2, .int .i64 1, .slice va 1 vk, .int .i64 40, .int .i64 0, .int .i64 0, .bool false, .int .i64 0, .int .i64 41, .int .i64 0, .int .i64 0, .bool false] 44)
  have X3' : Box ((w2.setCell ⟨g, 24, none⟩ (.int .i64 0)).alloc (.cells #[.int .i64 2, .int .i64 1, .slice va 1 vk, .int .i64 40, .int .i64 0, .int .i64 0, .bool false, .int .i64 0, .int .i64 41, .int .i64 0, .int .i64 0, .bool false] 44)) w2.heap.size 44 #[.int .i64 2, .int .i64 1, .slice va 1 vk, .int .i64 40, .int .i64 0, .int .i64 0, .bool false, .int .i64 0, .int .i64 41, .int .i64 0, .int .i64 0, .bool false] := Box.newAt (by simp) _ _
  have B3 : Hid (Below w.heap.size w ((w2.setCell ⟨g, 24, none⟩ (.int .i64 0)).alloc (.cells #[.int .i64 2, .int .i64 1, .slice va 1 vk, .int .i64 40, .int .i64 0, .int .i64 0, .bool false, .int .i64 0, .int .i64 41, .int .i64 0, .int .i64 0, .bool false] 44))) := bel_alloc (bel_set hg B2.out _) _
  obtain ⟨m0, -, s1⟩ := X1.one
  have HG3 : Hid _ := G3
  clear G2 G3 hL2 B2
  go_wp2_with fail
  clear g24 f24 m0 s1 X1 X2 zg
  generalize ((w2.setCell ⟨g, 24, none⟩ (.int .i64 0)).alloc (.cells #[.int .i64 2, .int .i64 1, .slice va 1 vk, .int .i64 40, .int .i64 0, .int .i64 0, .bool false, .int .i64 0, .int .i64 41, .int .i64 0, .int .i64 0, .bool false] 44)) = W3 at *
  generalize w2.heap.size = N at *
  refine (through_at (sl_tab HG3.out tab2_len) HL3.out cr3 cr4).mono ?_
  rintro e w4 ⟨va4, vk4, rfl, -, b4⟩
  have X1 := (X1'.keep b4).past (.cells #[.int .i64 2, .int .i64 1, .slice va4 1 vk4, .int .i64 40, .int .i64 0, .int .i64 0, .bool false, .int .i64 0, .int .i64 41, .int .i64 0, .int .i64 0, .bool false] 44)
  have X2 := (X2'.keep b4).past (.cells #[.int .i64 2, .int .i64 1, .slice va4 1 vk4, .int .i64 40, .int .i64 0, .int .i64 0, .bool false, .int .i64 0, .int .i64 41, .int .i64 0, .int .i64 0, .bool false] 44)
  have X3 := (X3'.keep b4).past (.cells #[.int .i64 2, .int .i64 1, .slice va4 1 vk4, .int .i64 40, .int .i64 0, .int .i64 0, .bool false, .int .i64 0, .int .i64 41, .int .i64 0, .int .i64 0, .bool false] 44)
  have HL4 : Hid (Ls _ (.slice va 1 vk) [(1, 0, 9, true, true)]) := (HL3.out.keep b4).alloc (.cells #[.int .i64 2, .int .i64 1, .slice va4 1 vk4, .int .i64 40, .int .i64 0, .int .i64 0, .bool false, .int .i64 0, .int .i64 41, .int .i64 0, .int .i64 0, .bool false] 44)
  have HG4 : Hid _ := heap_past (o := .cells #[.int .i64 2, .int .i64 1, .slice va4 1 vk4, .int .i64 40, .int .i64 0, .int .i64 0, .bool false, .int .i64 0, .int .i64 41, .int .i64 0, .int .i64 0, .bool false] 44) (Box.lt (heap_kept b4 (Box.lt HG3.out) HG3.out)) (heap_kept b4 (Box.lt HG3.out) HG3.out)
  have B4 : Hid (Below w.heap.size w (w4.alloc (.cells #[.int .i64 2, .int .i64 1, .slice va4 1 vk4, .int .i64 40, .int .i64 0, .int .i64 0, .bool false, .int .i64 0, .int .i64 41, .int .i64 0, .int .i64 0, .bool false] 44))) := bel_alloc (bel_trans B3.out b4) _
  have Y1 := X1'.keep b4
  have Y3 := X3'.keep b4
  clear b4 X1' X2' X3' HL3 HG3 B3
  obtain ⟨m0, -, s1⟩ := Y1.one
  obtain ⟨⟨n0, n1, n2, n3, n4, n5, n6, n7, n8, n9, n10, n11⟩, s3⟩ := Y3.twelve
  go_wp2_with fail
  clear m0 s1 n0 n1 n2 n3 n4 n5 n6 n7 n8 n9 n10 n11 s3 Y1 Y3
  generalize (w4.alloc (.cells #[.int .i64 2, .int .i64 1, .slice va4 1 vk4, .int .i64 40, .int .i64 0, .int .i64 0, .bool false, .int .i64 0, .int .i64 41, .int .i64 0, .int .i64 0, .bool false] 44)) = W5 at *
  refine (plain_at (sl_tab HG4.out tab2_len) HL4.out cr5 cr6).mono ?_
  rintro e w6 ⟨rfl, b6⟩
  have X1 := X1.keep b6
  have X2 := X2.keep b6
  have X3 := X3.keep b6
  have HG6 : Hid _ := heap_kept b6 (Box.lt HG4.out) HG4.out
  have B6 : Hid (Below w.heap.size w w6) := bel_trans B4.out b6
  clear b6 HL4 HG4 B4
  obtain ⟨m0, -, s1⟩ := X1.one
  obtain ⟨⟨n0, n1, n2, n3, n4, n5, n6, n7, n8, n9, n10, n11⟩, s3⟩ := X2.twelve
  go_wp2_with fail
  clear m0 s1 n0 n1 n2 n3 n4 n5 n6 n7 n8 n9 n10 n11 s3
  refine (through_at (sl_tab HG6.out tab2_len) (Ls.nothing _) cr9 cr7).mono ?_
  rintro e w7 ⟨va7, vk7, rfl, -, b7⟩
  have X1 := X1.keep b7
  have X2 := X2.keep b7
  have X3 := X3.keep b7
  have HG7 : Hid _ := heap_past (o := .cells #[.int .i64 2, .int .i64 1, .slice va7 0 vk7, .int .i64 40, .int .i64 0, .int .i64 0, .bool false, .int .i64 0, .int .i64 41, .int .i64 0, .int .i64 0, .bool false] 44) (Box.lt (heap_kept b7 (Box.lt HG6.out) HG6.out)) (heap_kept b7 (Box.lt HG6.out) HG6.out)
  have B7 : Hid (Below w.heap.size w w7) := bel_trans B6.out b7
  clear b7 HG6 B6
  obtain ⟨m0, -, s1⟩ := X1.one
  obtain ⟨⟨n0, n1, n2, n3, n4, n5, n6, n7, n8, n9, n10, n11⟩, s3⟩ := X2.twelve
  go_wp2_with fail
  clear m0 s1 n0 n1 n2 n3 n4 n5 n6 n7 n8 n9 n10 n11 s3
  refine (through_at (sl_tab HG7.out tab2_len) (Ls.nothing _) cr10 cr8).mono ?_
  rintro e w8 ⟨va8, vk8, rfl, -, b8⟩
  have X3 := (X3.past _).keep b8
  have B8 : Hid (Below w.heap.size w w8) := bel_trans (bel_alloc B7.out _) b8
  clear b8 HG7 B7
  obtain ⟨⟨n0, n1, n2, n3, n4, n5, n6, n7, n8, n9, n10, n11⟩, s3⟩ := X3.twelve
  go_wp2
  go_ret
  exact ⟨rfl, bel_alloc B8.out _⟩
end Go.Proofs.Ytefcdcneenjbgab
