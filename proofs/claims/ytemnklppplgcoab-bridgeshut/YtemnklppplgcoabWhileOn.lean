/-
  Package bridge: whileOn: Through of right things, by what is remembered or by the tables; nothing that was there turns.
-/
import Derived.Test.YtemnklppplgcoabCopyB
import Derived.Test.YtemnklppplgcoabWith
import Derived.Test.YtemnklppplgcoabApart
namespace Go.Proofs.Ytemnklppplgcoab
open Go.RowKit

theorem fnd_nat {l : List Ln} {d p : Int} (h : 0 ≤ fndC l d p) : ∃ k : Nat, fndC l d p = k ∧ k < l.length ∧ lineC l d p = lth l k := by
  refine ⟨(fndC l d p).toNat, by omega, (fnd_line h).1, rfl⟩
/-- The cells of a line. -/
theorem Ls.at {w : World} {v : Value} {l : List Ln} (h : Ls w v l) {k : Nat} (hk : k < l.length) : ∃ b o cap, v = .slice (some ⟨b, o, none⟩) l.length cap ∧ b < w.heap.size ∧ AtL w b (o + k * 5) (lth l k) := by
  obtain ⟨a, cap, rfl, _, _, h⟩ := h
  rcases h with rfl | ⟨b, o, rfl, hb, hc⟩
  · exact absurd hk (Nat.not_lt_zero _)
  · exact ⟨b, o, cap, rfl, hb, hc k hk⟩

set_option maxHeartbeats 4000000 in
/-- By a line that is remembered. -/
theorem whileOn_found (v : Value) (zs : List Int) (mo ba op oh ot fe fp fh ft : Int) (st lo : Bool) (vc : Value) (l : List Ln) (d p : Int) (wr : Bool) (w : World) (hs : Sl w v zs) (h : Ls w vc l) (hf : 0 ≤ fndC l d p) :
    Calls Try.prog 52 #[.agg #[v], .agg #[.int .i64 mo, .int .i64 ba, vc, .int .i64 op, .int .i64 oh, .int .i64 ot, .bool st, .int .i64 fe, .int .i64 fp, .int .i64 fh, .int .i64 ft, .bool lo], .int .i64 d, .int .i64 p, .bool wr] w fun e w' =>
      e = .returned (.tuple #[.agg #[.int .i64 mo, .int .i64 ba, vc, .int .i64 op, .int .i64 oh, .int .i64 ot, .bool st, .int .i64 fe, .int .i64 fp, .int .i64 fh, .int .i64 ft, .bool lo], .int .i64 (if (wr && !(lineC l d p).2.2.2.2) = true then 0 else (lineC l d p).2.2.1), .int .i64 (if (wr && !(lineC l d p).2.2.2.2) = true then 5 else 0)]) ∧ Ls w' vc l ∧ Below w.heap.size w w' := by
  have HS : Hid (Ls w vc l) := h
  obtain ⟨va, vk, rfl, -⟩ := h.shape
  obtain ⟨k, hk, hkl, hli⟩ := fnd_nat hf
  obtain ⟨b, o, cap, he, hb, hat⟩ := h.at hkl
  simp only [Value.slice.injEq, true_and] at he
  obtain ⟨rfl, rfl⟩ := he
  rw [hli]
  clear h hf hli
  generalize lth l k = y at *
  obtain ⟨dy, py, ay, ry, xy⟩ := y
  dsimp only
  generalize hr1 : (if (wr && !xy) = true then 0 else ay) = r1
  generalize hr2 : (if (wr && !xy) = true then (5 : Int) else 0) = r2
  have HR1 : Hid (_ = _) := hr1
  have HR2 : Hid (_ = _) := hr2
  clear hr1 hr2
  obtain ⟨ma, mc, rfl⟩ := hs.shape
  go_enter Try.func52, Try.ntmps52
  go_wp2_with fail
  refine (cFind_any _ l d p _ (HS.out.keep (bel_alloc (bel_alloc (bel_alloc (Below.refl _ _) _) _) _))).mono ?_
  rintro e w1 ⟨rfl, b1⟩
  rw [hk]
  have X1 := ((Box.newAt (n := w.heap.size + 1) (by simp) 44 #[.int .i64 mo, .int .i64 ba, .slice (some ⟨b, o, none⟩) l.length vk, .int .i64 op, .int .i64 oh, .int .i64 ot, .bool st, .int .i64 fe, .int .i64 fp, .int .i64 fh, .int .i64 ft, .bool lo]).past _).keep b1
  have X2 := (Box.newAt (n := w.heap.size + 1 + 1) (by simp) 44 #[.int .i64 0, .int .i64 0, .slice none 0 0, .int .i64 0, .int .i64 0, .int .i64 0, .bool false, .int .i64 0, .int .i64 0, .int .i64 0, .int .i64 0, .bool false]).keep b1
  have B1 : Hid (Below w.heap.size w w1) := bel_trans (bel_alloc (bel_alloc (bel_alloc (Below.refl _ _) _) _) _) b1
  clear b1
  obtain ⟨⟨q0, q1, q2, q3, q4, q5, q6, q7, q8, q9, q10, q11⟩, s1⟩ := X1.twelve
  obtain ⟨⟨u0, u1, u2, u3, u4, u5, u6, u7, u8, u9, u10, u11⟩, s2⟩ := X2.twelve
  obtain ⟨y0, y1, y2, y3, y4, y5, y6, y7, y8, y9, y10, y11⟩ := X2.marks
  obtain ⟨g0, g1, g2, g3, g4⟩ := hat.keep B1.out hb
  have hb1 : b < w1.heap.size := Nat.lt_of_lt_of_le hb B1.out.size
  simp only at g0 g1 g2 g3 g4
  have hk0 : (0 : Int) ≤ k := by omega
  have hk1 : (k : Int) < l.length := by omega
  clear hk hat
  go_wp2_with fail
  refine (byLine_any dy py ay ry xy wr _).mono ?_
  rintro e w2 ⟨rfl, b2⟩
  rw [HR1.out, HR2.out]
  clear q0 q1 q2 q3 q4 q5 q6 q7 q8 q9 q10 q11 u0 u1 u2 u3 u4 u5 u6 u7 u8 u9 u10 u11 y0 y1 y2 y3 y4 y5 y6 y7 y8 y9 y10 y11 g0 g1 g2 g3 g4 s1 s2
  have X1 := X1.keep b2
  have X2 := X2.keep b2
  have B2 : Hid (Below w.heap.size w w2) := bel_trans B1.out b2
  clear b2 B1
  obtain ⟨⟨q0, q1, q2, q3, q4, q5, q6, q7, q8, q9, q10, q11⟩, s1⟩ := X1.twelve
  obtain ⟨⟨u0, u1, u2, u3, u4, u5, u6, u7, u8, u9, u10, u11⟩, s2⟩ := X2.twelve
  obtain ⟨y0, y1, y2, y3, y4, y5, y6, y7, y8, y9, y10, y11⟩ := X2.marks
  go_wp2
  have BE : Hid (Below w.heap.size w _) := bel_set12 (a := w) (w := w2) (m := w.heap.size + 1 + 1) (by omega) B2.out (.int .i64 mo) (.int .i64 ba) (.slice (some ⟨b, o, none⟩) l.length vk) (.int .i64 op) (.int .i64 oh) (.int .i64 ot) (.bool st) (.int .i64 fe) (.int .i64 fp) (.int .i64 fh) (.int .i64 ft) (.bool lo)
  refine bodyPost_ret (v := .tuple #[.agg #[.int .i64 mo, .int .i64 ba, .slice (some ⟨b, o, none⟩) l.length vk, .int .i64 op, .int .i64 oh, .int .i64 ot, .bool st, .int .i64 fe, .int .i64 fp, .int .i64 fh, .int .i64 ft, .bool lo], .int .i64 r1, .int .i64 r2]) (by simp [results, Try.results52, go_sem, *]) rfl ⟨rfl, HS.out.keep BE.out, BE.out⟩
end Go.Proofs.Ytemnklppplgcoab
