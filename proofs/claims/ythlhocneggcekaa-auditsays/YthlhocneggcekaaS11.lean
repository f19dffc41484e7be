/-
  Laid together: GoesR, ASaysR.
-/
import Derived.Test.YthlhocneggcekaaS1
import Derived.Test.YthlhocneggcekaaS2
import Derived.Test.YthlhocneggcekaaS3
import Derived.Test.YthlhocneggcekaaS4
import Derived.Test.YthlhocneggcekaaS5
import Derived.Test.YthlhocneggcekaaS6
import Derived.Test.YthlhocneggcekaaS7
import Derived.Test.YthlhocneggcekaaS8
import Derived.Test.YthlhocneggcekaaS9
import Derived.Test.YthlhocneggcekaaS10
import Derived.Laws.CopyOwn
import Derived.Deep.RegionHeld3
import Derived.Deep.DrawnRows
import Derived.Deep.RegionWith
import Derived.Maps.OwnOps
import Derived.Maps.OwnSet
import Derived.LoopN
import Derived.Deep.CutRange
import Derived.Deep.AppendLies
import Derived.Test.YthlhocneggcekaaRows
import Derived.WalkKit
import Derived.WalkSpells
import Derived.WalkLawsBesides
import Derived.Below
import Derived.WalkSmall
import Derived.Deep.QuietTactic
import Derived.BigQuiet
import Derived.Deep.Draws
import Derived.Deep.RegionHeld
namespace Go.Proofs.Ythlhocneggcekaa
open Go.RowKit
theorem filled_at2 {v : Value} {l : List Ln} {d p a : Int} {r x : Bool} {w : World} (h : Ls w v l) {e0 : Int} {c : List Ln} (hE : flE l (d, p, a, r, x) = e0) (hC : flC l (d, p, a, r, x) = c) :
    Calls Try.prog 32 #[v, .agg #[.int .i64 d, .int .i64 p, .int .i64 a, .bool r, .bool x]] w fun e w' => ∃ b cap, e = .returned (.tuple #[.slice b c.length cap, .int .i64 e0]) ∧ Ls w' (.slice b c.length cap) c ∧ Below w.heap.size w w' ∧ Fresh w.heap.size (.slice b c.length cap) := by
  subst hE hC
  refine (filled_any v l d p a r x w h).mono ?_
  rintro e w' ⟨⟨v', rfl, hs, hn⟩, hb⟩
  obtain ⟨b, cap, rfl, hs'⟩ := hs.shape
  exact ⟨b, cap, rfl, hs', hb, hn⟩
set_option maxHeartbeats 8000000 in
theorem goesTo_anyF (v : Value) (zs : List Int) (mo ba op oh ot fe fp fh ft : Int) (st lo : Bool) (vc : Value) (l : List Ln) (d p : Int) (wt : Bool) (w : World) (hs : Sl w v zs) (h : Ls w vc l) (hE : thE zs ⟨mo, ba, l, op, oh, ot, st, fe, fp, fh, ft, lo⟩ d p = 0) :
    Calls Try.prog 22 #[.agg #[v], .agg #[.int .i64 mo, .int .i64 ba, vc, .int .i64 op, .int .i64 oh, .int .i64 ot, .bool st, .int .i64 fe, .int .i64 fp, .int .i64 fh, .int .i64 ft, .bool lo], .int .i64 d, .int .i64 p, .bool wt] w fun e w' =>
      ∃ vc1 l1 k f, e = .returned (.tuple #[.agg #[.int .i64 mo, .int .i64 ba, vc1, .int .i64 op, .int .i64 oh, .int .i64 ot, .bool st, .int .i64 fe, .int .i64 fp, .int .i64 fh, .int .i64 ft, .bool lo], .int .i64 k, .int .i64 f]) ∧ goT zs ⟨mo, ba, l, op, oh, ot, st, fe, fp, fh, ft, lo⟩ d p wt = (⟨mo, ba, l1, op, oh, ot, st, fe, fp, fh, ft, lo⟩, k, f) ∧ Ls w' vc1 l1 ∧ Below w.heap.size w w' ∧ (vc1 = vc ∨ Fresh w.heap.size vc1) := by
  obtain ⟨hk, hb, hd, hp⟩ := thE_ok hE
  obtain ⟨hmo, hba, _, hc, _, _⟩ := chkB_ok hb
  dsimp only at hmo hba hc
  have HS : Hid (Ls w vc l) := h
  obtain ⟨va, vk, rfl, -⟩ := h.shape
  have HM : Hid (Sl w v zs) := hs
  obtain ⟨b, o, cap, rfl, hbb, hcs⟩ := hs.open512 (chk_ok hk).1
  have HC : Hid (chkC l = 0) := hc
  have HK : Hid (chk zs = 0) := hk
  have HP : Hid (0 ≤ p ∧ p ≤ 63) := hp
  have HD : Hid (0 ≤ d ∧ d ≤ 7) := hd
  have HB : Hid (0 ≤ ba ∧ ba ≤ 63) := hba
  have HCS : Hid (∀ i, i < 512 → w.cell? ⟨b, o + i, none⟩ = some (.int .i64 (nth zs i))) := hcs
  have hl6 : l.length ≤ 6 := chkC_len hc
  clear h hs hcs hk hc hp hd hba hE hb
  by_cases hm0 : mo = 0
  · subst hm0
    have HT : Hid (goT zs ⟨0, ba, l, op, oh, ot, st, fe, fp, fh, ft, lo⟩ d p wt = (⟨0, ba, l, op, oh, ot, st, fe, fp, fh, ft, lo⟩, 0, 1)) := rfl
    have B1 : Hid (Below w.heap.size w w) := Below.refl _ _
    go_enter Try.func22, Try.ntmps22
    go_wp2
    refine bodyPost_ret (v := .tuple #[.agg #[.int .i64 0, .int .i64 ba, .slice va l.length vk, .int .i64 op, .int .i64 oh, .int .i64 ot, .bool st, .int .i64 fe, .int .i64 fp, .int .i64 fh, .int .i64 ft, .bool lo], .int .i64 0, .int .i64 1]) (by simp [results, Try.results22, go_sem, *]) rfl ⟨_, _, _, _, rfl, HT.out, HS.out.keep ?_, ?_, .inl rfl⟩
    all_goals (repeat (first | with_reducible exact B1.out | with_reducible refine Below.drew ?_ | with_reducible refine bel_alloc ?_ _ | (with_reducible refine bel_set12 ?_ ?_ _ _ _ _ _ _ _ _ _ _ _ _; (focus omega))))
  by_cases hm1 : mo = 1
  · subst hm1
    have HT : Hid (goT zs ⟨1, ba, l, op, oh, ot, st, fe, fp, fh, ft, lo⟩ d p wt = (⟨1, ba, l, op, oh, ot, st, fe, fp, fh, ft, lo⟩, p, 0)) := rfl
    have B1 : Hid (Below w.heap.size w w) := Below.refl _ _
    clear hm0
    go_enter Try.func22, Try.ntmps22
    go_wp2
    refine bodyPost_ret (v := .tuple #[.agg #[.int .i64 1, .int .i64 ba, .slice va l.length vk, .int .i64 op, .int .i64 oh, .int .i64 ot, .bool st, .int .i64 fe, .int .i64 fp, .int .i64 fh, .int .i64 ft, .bool lo], .int .i64 p, .int .i64 0]) (by simp [results, Try.results22, go_sem, *]) rfl ⟨_, _, _, _, rfl, HT.out, HS.out.keep ?_, ?_, .inl rfl⟩
    all_goals (repeat (first | with_reducible exact B1.out | with_reducible refine Below.drew ?_ | with_reducible refine bel_alloc ?_ _ | (with_reducible refine bel_set12 ?_ ?_ _ _ _ _ _ _ _ _ _ _ _ _; (focus omega))))
  have hm2 : mo = 2 := by omega
  subst hm2
  have HG : Hid (∀ X, goT zs ⟨2, ba, l, op, oh, ot, st, fe, fp, fh, ft, lo⟩ d p wt = X ↔ (if 0 ≤ fndC l d p then (if (wt && !(lineC l d p).2.2.2.2) = true then (⟨2, ba, l, op, oh, ot, st, fe, fp, fh, ft, lo⟩, 0, 5) else (⟨2, ba, l, op, oh, ot, st, fe, fp, fh, ft, lo⟩, (lineC l d p).2.2.1, 0)) else byT zs ⟨2, ba, l, op, oh, ot, st, fe, fp, fh, ft, lo⟩ d p wt) = X) := fun X => Iff.rfl
  clear hm0 hm1 hmo
  go_enter Try.func22, Try.ntmps22
  go_wp2
  go_loopw [14, 32] (fun _ i wx => ∃ k : Nat, k ≤ l.length ∧ i = .int .i64 k ∧ (∀ j, j < k → hasB d p (lth l j) = false) ∧ Box wx w.heap.size 30 #[.slice (some ⟨b, o, none⟩) 512 cap] ∧ Box wx (w.heap.size + 1) 37 #[.int .i64 2, .int .i64 ba, .slice va l.length vk, .int .i64 op, .int .i64 oh, .int .i64 ot, .bool st, .int .i64 fe, .int .i64 fp, .int .i64 fh, .int .i64 ft, .bool lo] ∧ Box wx (w.heap.size + 1 + 1) 37 #[.int .i64 0, .int .i64 0, .slice none 0 0, .int .i64 0, .int .i64 0, .int .i64 0, .bool false, .int .i64 0, .int .i64 0, .int .i64 0, .int .i64 0, .bool false] ∧ Below w.heap.size w wx) (fun _ i _ => l.length - (intOf i).toNat)
  case atStart =>
    refine ⟨0, Nat.zero_le _, rfl, fun j hj => absurd hj (Nat.not_lt_zero _), ?_, ?_, ?_, bel_alloc (bel_alloc (bel_alloc (Below.refl _ _) _) _) _⟩
    · exact ((Box.newAt (n := w.heap.size) rfl 30 #[.slice (some ⟨b, o, none⟩) 512 cap]).past _).past _
    · exact (Box.newAt (n := w.heap.size + 1) (by simp) 37 #[.int .i64 2, .int .i64 ba, .slice va l.length vk, .int .i64 op, .int .i64 oh, .int .i64 ot, .bool st, .int .i64 fe, .int .i64 fp, .int .i64 fh, .int .i64 ft, .bool lo]).past _
    · exact Box.newAt (n := w.heap.size + 1 + 1) (by simp) 37 #[.int .i64 0, .int .i64 0, .slice none 0 0, .int .i64 0, .int .i64 0, .int .i64 0, .bool false, .int .i64 0, .int .i64 0, .int .i64 0, .int .i64 0, .bool false]
  case round =>
    obtain ⟨k, hk, rfl, hpre, X0, X1, X2, hB⟩ := hrel
    have HPR : Hid _ := hpre
    have B1 : Hid (Below w.heap.size w wr) := hB
    clear hpre
    obtain ⟨⟨q0, q1, q2, q3, q4, q5, q6, q7, q8, q9, q10, q11⟩, s1⟩ := X1.twelve
    obtain ⟨⟨u0, u1, u2, u3, u4, u5, u6, u7, u8, u9, u10, u11⟩, s2⟩ := X2.twelve
    obtain ⟨y0, y1, y2, y3, y4, y5, y6, y7, y8, y9, y10, y11⟩ := X2.marks
    by_cases hlt : k < l.length
    · obtain ⟨lb, lo', lk, he, hlb, hat⟩ := (HS.out.keep hB).at hlt
      simp only [Value.slice.injEq, true_and] at he
      obtain ⟨rfl, rfl⟩ := he
      obtain ⟨g0, g1, g2, g3, g4⟩ := hat
      obtain ⟨y, hy⟩ : ∃ y, y = lth l k := ⟨_, rfl⟩
      have HY : Hid _ := hy
      rw [← hy] at g0 g1 g2 g3 g4
      clear hy hB
      obtain ⟨d1, p1, a1, r1, x1⟩ := y
      simp only at g0 g1 g2 g3 g4
      have hlt1 : (k : Int) < l.length := by omega
      by_cases e1 : d1 = d
      · by_cases e2 : p1 = p
        · subst e1 e2
          have hF : fndC l d1 p1 = k := fndC_at hlt (by rw [← HY.out]; simp [hasB]) HPR.out
          have hL : lineC l d1 p1 = (d1, p1, a1, r1, x1) := by rw [lineC, hF, Int.toNat_natCast]; exact HY.out.symm
          have HT0 : Hid (∀ X, goT zs ⟨2, ba, l, op, oh, ot, st, fe, fp, fh, ft, lo⟩ d1 p1 wt = X ↔ (if (wt && !x1) = true then (⟨2, ba, l, op, oh, ot, st, fe, fp, fh, ft, lo⟩, 0, 5) else (⟨2, ba, l, op, oh, ot, st, fe, fp, fh, ft, lo⟩, a1, 0)) = X) := fun X => by
            rw [HG.out, if_pos (by rw [hF]; omega), hL]
          clear hF hL
          cases wt
          · have HT : Hid (goT zs ⟨2, ba, l, op, oh, ot, st, fe, fp, fh, ft, lo⟩ d1 p1 false = (⟨2, ba, l, op, oh, ot, st, fe, fp, fh, ft, lo⟩, a1, 0)) := (HT0.out _).2 rfl
            go_wp2
            go_region
            go_wp2
            refine bodyPost_ret (v := .tuple #[.agg #[.int .i64 2, .int .i64 ba, .slice (some ⟨lb, lo', none⟩) l.length vk, .int .i64 op, .int .i64 oh, .int .i64 ot, .bool st, .int .i64 fe, .int .i64 fp, .int .i64 fh, .int .i64 ft, .bool lo], .int .i64 a1, .int .i64 0]) (by simp [results, Try.results22, go_sem, *]) rfl ⟨_, _, _, _, rfl, HT.out, HS.out.keep ?_, ?_, .inl rfl⟩
            all_goals (repeat (first | with_reducible exact B1.out | with_reducible refine Below.drew ?_ | with_reducible refine bel_alloc ?_ _ | (with_reducible refine bel_set12 ?_ ?_ _ _ _ _ _ _ _ _ _ _ _ _; (focus omega))))
          · cases x1
            · have HT : Hid (goT zs ⟨2, ba, l, op, oh, ot, st, fe, fp, fh, ft, lo⟩ d1 p1 true = (⟨2, ba, l, op, oh, ot, st, fe, fp, fh, ft, lo⟩, 0, 5)) := (HT0.out _).2 rfl
              go_wp2
              refine bodyPost_ret (v := .tuple #[.agg #[.int .i64 2, .int .i64 ba, .slice (some ⟨lb, lo', none⟩) l.length vk, .int .i64 op, .int .i64 oh, .int .i64 ot, .bool st, .int .i64 fe, .int .i64 fp, .int .i64 fh, .int .i64 ft, .bool lo], .int .i64 0, .int .i64 5]) (by simp [results, Try.results22, go_sem, *]) rfl ⟨_, _, _, _, rfl, HT.out, HS.out.keep ?_, ?_, .inl rfl⟩
              all_goals (repeat (first | with_reducible exact B1.out | with_reducible refine Below.drew ?_ | with_reducible refine bel_alloc ?_ _ | (with_reducible refine bel_set12 ?_ ?_ _ _ _ _ _ _ _ _ _ _ _ _; (focus omega))))
            · have HT : Hid (goT zs ⟨2, ba, l, op, oh, ot, st, fe, fp, fh, ft, lo⟩ d1 p1 true = (⟨2, ba, l, op, oh, ot, st, fe, fp, fh, ft, lo⟩, a1, 0)) := (HT0.out _).2 rfl
              go_wp2
              go_region
              go_wp2
              refine bodyPost_ret (v := .tuple #[.agg #[.int .i64 2, .int .i64 ba, .slice (some ⟨lb, lo', none⟩) l.length vk, .int .i64 op, .int .i64 oh, .int .i64 ot, .bool st, .int .i64 fe, .int .i64 fp, .int .i64 fh, .int .i64 ft, .bool lo], .int .i64 a1, .int .i64 0]) (by simp [results, Try.results22, go_sem, *]) rfl ⟨_, _, _, _, rfl, HT.out, HS.out.keep ?_, ?_, .inl rfl⟩
              all_goals (repeat (first | with_reducible exact B1.out | with_reducible refine Below.drew ?_ | with_reducible refine bel_alloc ?_ _ | (with_reducible refine bel_set12 ?_ ?_ _ _ _ _ _ _ _ _ _ _ _ _; (focus omega))))
        · have q1' : (d1 == d) = true := by simpa using e1
          have q2' : (p1 == p) = false := by simpa using e2
          have HN : Hid (hasB d p (lth l k) = false) := by show _ = _; rw [← HY.out]; simp [hasB, e2]
          clear e1 e2
          go_wp2
          exact ⟨⟨k + 1, by omega, by go_num, upto_next HPR.out HN.out, X0.past _, X1.past _, X2.past _, bel_alloc B1.out _⟩, by simp [intOf]; omega⟩
      · have q1' : (d1 == d) = false := by simpa using e1
        have HN : Hid (hasB d p (lth l k) = false) := by show _ = _; rw [← HY.out]; simp [hasB, e1]
        clear e1
        go_wp2
        exact ⟨⟨k + 1, by omega, by go_num, upto_next HPR.out HN.out, X0.past _, X1.past _, X2.past _, bel_alloc B1.out _⟩, by simp [intOf]; omega⟩
    have hF : fndC l d p = -1 := fndC_none fun j hj => HPR.out j (by omega)
    have HFN : Hid (¬ 0 ≤ fndC l d p) := by show ¬ _; rw [hF]; decide
    have HT1 : Hid (∀ X, goT zs ⟨2, ba, l, op, oh, ot, st, fe, fp, fh, ft, lo⟩ d p wt = X ↔ byT zs ⟨2, ba, l, op, oh, ot, st, fe, fp, fh, ft, lo⟩ d p wt = X) := fun X => by rw [HG.out, if_neg HFN.out]
    clear hF
    obtain ⟨qm, -, s0⟩ := X0.one
    obtain ⟨ba0, ba1⟩ := HB.out
    obtain ⟨d0, d1⟩ := HD.out
    have gk := HCS.out (8 * ba + d).toNat (by omega)
    rw [← hB.cell (p := ⟨b, o + (8 * ba + d).toNat, none⟩) hbb] at gk
    obtain ⟨z, hz⟩ : ∃ z, nth zs (8 * ba + d).toNat = z := ⟨_, rfl⟩
    rw [hz] at gk
    have HZ : Hid (ctxW zs ⟨2, ba, l, op, oh, ot, st, fe, fp, fh, ft, lo⟩ d = z) := hz
    have k0 : 0 ≤ 8 * ba + d := by omega
    have k1 : 8 * ba + d < 512 := by omega
    have hb1 : b < wr.heap.size := Nat.lt_of_lt_of_le hbb hB.size
    clear hz hB
    go_wp2_with fail
    refine (contextOf_any z _).mono ?_
    rintro e w2 ⟨rfl, b2⟩
    clear q0 q1 q2 q3 q4 q5 q6 q7 q8 q9 q10 q11 u0 u1 u2 u3 u4 u5 u6 u7 u8 u9 u10 u11 y0 y1 y2 y3 y4 y5 y6 y7 y8 y9 y10 y11 s1 s2
    clear qm s0 gk hb1 k0 k1
    have X0 := X0.keep b2
    have X1 := X1.keep b2
    have X2 := X2.keep b2
    have B2 : Hid (Below w.heap.size w w2) := bel_trans B1.out b2
    clear b2 B1
    obtain ⟨qm, -, s0⟩ := X0.one
    obtain ⟨⟨q0, q1, q2, q3, q4, q5, q6, q7, q8, q9, q10, q11⟩, s1⟩ := X1.twelve
    obtain ⟨⟨u0, u1, u2, u3, u4, u5, u6, u7, u8, u9, u10, u11⟩, s2⟩ := X2.twelve
    obtain ⟨y0, y1, y2, y3, y4, y5, y6, y7, y8, y9, y10, y11⟩ := X2.marks
    cases hv : vC z
    · have HT : Hid (goT zs ⟨2, ba, l, op, oh, ot, st, fe, fp, fh, ft, lo⟩ d p wt = (⟨2, ba, l, op, oh, ot, st, fe, fp, fh, ft, lo⟩, 0, 2)) := by show _ = _; rw [HT1.out, byT, HZ.out, hv]; rfl
      cases ho : okC z
      all_goals
        go_wp2
        refine bodyPost_ret (v := .tuple #[.agg #[.int .i64 2, .int .i64 ba, .slice va l.length vk, .int .i64 op, .int .i64 oh, .int .i64 ot, .bool st, .int .i64 fe, .int .i64 fp, .int .i64 fh, .int .i64 ft, .bool lo], .int .i64 0, .int .i64 2]) (by simp [results, Try.results22, go_sem, *]) rfl ⟨_, _, _, _, rfl, HT.out, HS.out.keep ?_, ?_, .inl rfl⟩
        all_goals (repeat (first | with_reducible exact B2.out | with_reducible refine Below.drew ?_ | with_reducible refine bel_alloc ?_ _ | (with_reducible refine bel_set12 ?_ ?_ _ _ _ _ _ _ _ _ _ _ _ _; (focus omega))))
    have ho : okC z = true := by
      cases ho : okC z
      · simp [vC, ho] at hv
      · rfl
    cases ha : aC z
    rotate_left
    · have HT : Hid (goT zs ⟨2, ba, l, op, oh, ot, st, fe, fp, fh, ft, lo⟩ d p wt = (⟨2, ba, l, op, oh, ot, st, fe, fp, fh, ft, lo⟩, p, 0)) := by show _ = _; rw [HT1.out, byT, HZ.out, if_pos hv, if_pos ha]
      go_wp2
      refine bodyPost_ret (v := .tuple #[.agg #[.int .i64 2, .int .i64 ba, .slice va l.length vk, .int .i64 op, .int .i64 oh, .int .i64 ot, .bool st, .int .i64 fe, .int .i64 fp, .int .i64 fh, .int .i64 ft, .bool lo], .int .i64 p, .int .i64 0]) (by simp [results, Try.results22, go_sem, *]) rfl ⟨_, _, _, _, rfl, HT.out, HS.out.keep ?_, ?_, .inl rfl⟩
      all_goals (repeat (first | with_reducible exact B2.out | with_reducible refine Below.drew ?_ | with_reducible refine bel_alloc ?_ _ | (with_reducible refine bel_set12 ?_ ?_ _ _ _ _ _ _ _ _ _ _ _ _; (focus omega))))
    have HA : Hid (¬ aC z = true) := by show ¬ _; rw [ha]; decide
    have HV : Hid (vC z = true) := hv
    rcases wkd_two (wr := wt) HK.out (pC_page z) (page_of HP.out) with ⟨f, hff, hwk⟩ | ⟨x, a, haa, hx, hwk⟩
    · have HT : Hid (goT zs ⟨2, ba, l, op, oh, ot, st, fe, fp, fh, ft, lo⟩ d p wt = (⟨2, ba, l, op, oh, ot, st, fe, fp, fh, ft, lo⟩, 0, f)) := by
        show _ = _; rw [HT1.out, byT, HZ.out, if_pos HV.out, if_neg HA.out, hwk]; exact if_neg (show ¬ f = 0 by omega)
      have hfq : (f == 0) = false := by simp; omega
      have HW : Hid (_ = _) := hwk
      clear hwk hff
      go_wp2_with fail
      refine (walkedR_at HW.out (HM.out.keep (bel_alloc B2.out _)) HK.out).mono ?_
      rintro e w3 ⟨rfl, b3⟩
      clear q0 q1 q2 q3 q4 q5 q6 q7 q8 q9 q10 q11 u0 u1 u2 u3 u4 u5 u6 u7 u8 u9 u10 u11 y0 y1 y2 y3 y4 y5 y6 y7 y8 y9 y10 y11 s1 s2
      clear qm s0
      have X1 := (X1.past _).keep b3
      have X2 := (X2.past _).keep b3
      have B3 : Hid (Below w.heap.size w w3) := bel_trans (bel_alloc B2.out _) b3
      clear b3 B2
      obtain ⟨⟨q0, q1, q2, q3, q4, q5, q6, q7, q8, q9, q10, q11⟩, s1⟩ := X1.twelve
      obtain ⟨⟨u0, u1, u2, u3, u4, u5, u6, u7, u8, u9, u10, u11⟩, s2⟩ := X2.twelve
      obtain ⟨y0, y1, y2, y3, y4, y5, y6, y7, y8, y9, y10, y11⟩ := X2.marks
      go_wp2
      go_region
      go_wp2
      refine bodyPost_ret (v := .tuple #[.agg #[.int .i64 2, .int .i64 ba, .slice va l.length vk, .int .i64 op, .int .i64 oh, .int .i64 ot, .bool st, .int .i64 fe, .int .i64 fp, .int .i64 fh, .int .i64 ft, .bool lo], .int .i64 0, .int .i64 f]) (by simp [results, Try.results22, go_sem, *]) rfl ⟨_, _, _, _, rfl, HT.out, HS.out.keep ?_, ?_, .inl rfl⟩
      all_goals (repeat (first | with_reducible exact B3.out | with_reducible refine Below.drew ?_ | with_reducible refine bel_alloc ?_ _ | (with_reducible refine bel_set12 ?_ ?_ _ _ _ _ _ _ _ _ _ _ _ _; (focus omega))))
    obtain ⟨c, hfc⟩ : ∃ c, flC l (d, p, a, true, x) = c := ⟨_, rfl⟩
    have HT : Hid (goT zs ⟨2, ba, l, op, oh, ot, st, fe, fp, fh, ft, lo⟩ d p wt = (⟨2, ba, c, op, oh, ot, st, fe, fp, fh, ft, lo⟩, a, 0)) := by
      show _ = _; rw [HT1.out, byT, HZ.out, if_pos HV.out, if_neg HA.out, hwk]; simp only [if_true, hfc]; rfl
    have HF : Hid (flE l (d, p, a, true, x) = 0) := fl_ok HC.out HD.out HP.out haa (by have := HFN.out; omega)
    have HFC : Hid (flC l (d, p, a, true, x) = c) := hfc
    have HW : Hid (_ = _) := hwk
    clear hwk hx haa hfc
    go_wp2_with fail
    refine (walkedR_at HW.out (HM.out.keep (bel_alloc B2.out _)) HK.out).mono ?_
    rintro e w3 ⟨rfl, b3⟩
    clear q0 q1 q2 q3 q4 q5 q6 q7 q8 q9 q10 q11 u0 u1 u2 u3 u4 u5 u6 u7 u8 u9 u10 u11 y0 y1 y2 y3 y4 y5 y6 y7 y8 y9 y10 y11 s1 s2
    clear qm s0
    have X1 := (X1.past _).keep b3
    have X2 := (X2.past _).keep b3
    have B3 : Hid (Below w.heap.size w w3) := bel_trans (bel_alloc B2.out _) b3
    clear b3 B2
    obtain ⟨⟨q0, q1, q2, q3, q4, q5, q6, q7, q8, q9, q10, q11⟩, s1⟩ := X1.twelve
    obtain ⟨⟨u0, u1, u2, u3, u4, u5, u6, u7, u8, u9, u10, u11⟩, s2⟩ := X2.twelve
    obtain ⟨y0, y1, y2, y3, y4, y5, y6, y7, y8, y9, y10, y11⟩ := X2.marks
    go_wp2_with fail
    refine (filled_at2 (HS.out.keep (bel_alloc B3.out _)) HF.out HFC.out).mono ?_
    rintro e w4 ⟨b', cap', rfl, hS4, b4, hN4⟩
    have HN4 : Hid (Fresh w.heap.size (.slice b' c.length cap')) := hN4.mono (bel_alloc B3.out _).size
    clear hN4
    have n2 : ¬ w3.heap.size = w.heap.size + 1 + 1 := by omega
    have n1 : ¬ w3.heap.size = w.heap.size + 1 := by omega
    clear q0 q1 q2 q3 q4 q5 q6 q7 q8 q9 q10 q11 u0 u1 u2 u3 u4 u5 u6 u7 u8 u9 u10 u11 y0 y1 y2 y3 y4 y5 y6 y7 y8 y9 y10 y11 s1 s2
    have X1 := (X1.past _).keep b4
    have X2 := (X2.past _).keep b4
    have X3 := (Box.newAt (w := w3) rfl 69 #[.bool true, .bool true, .bool x, .bool true, .int .i64 a]).keep b4
    have B4 : Hid (Below w.heap.size w w4) := bel_trans (bel_alloc B3.out _) b4
    clear b4 B3
    have AP1 : Hid (Apart _ _ _) := hS4.apart X1
    have AP2 : Hid (Apart _ _ _) := hS4.apart X2
    have H4 : Hid (Ls _ _ _) := hS4
    clear hS4
    obtain ⟨⟨q0, q1, q2, q3, q4, q5, q6, q7, q8, q9, q10, q11⟩, s1⟩ := X1.twelve
    obtain ⟨⟨u0, u1, u2, u3, u4, u5, u6, u7, u8, u9, u10, u11⟩, s2⟩ := X2.twelve
    obtain ⟨y0, y1, y2, y3, y4, y5, y6, y7, y8, y9, y10, y11⟩ := X2.marks
    obtain ⟨-, -, z2, -⟩ := X1.marks
    have e4 : w4.cell? ⟨w3.heap.size, 4, none⟩ = some (.int .i64 a) := X3.cell 4
    have s3 := X3.lt
    go_wp2
    go_region
    go_wp2
    refine bodyPost_ret (v := .tuple #[.agg #[.int .i64 2, .int .i64 ba, .slice b' c.length cap', .int .i64 op, .int .i64 oh, .int .i64 ot, .bool st, .int .i64 fe, .int .i64 fp, .int .i64 fh, .int .i64 ft, .bool lo], .int .i64 a, .int .i64 0]) (by simp [results, Try.results22, go_sem, *]) rfl ⟨_, _, _, _, rfl, HT.out, ?_, ?_, .inr HN4.out⟩
    · (repeat (first | with_reducible exact H4.out | with_reducible refine Ls.drew ?_ | with_reducible refine Ls.put12 ?_ AP2.out _ _ _ _ _ _ _ _ _ _ _ _ | with_reducible refine Ls.putAt ?_ AP1.out _ _))
    · (repeat (first | with_reducible exact B4.out | with_reducible refine Below.drew ?_ | (with_reducible refine bel_set12 ?_ ?_ _ _ _ _ _ _ _ _ _ _ _ _; (focus omega)) | (with_reducible refine bel_set ?_ ?_ _; (focus (dsimp only; omega)))))
theorem goesTo_any (v : Value) (zs : List Int) (mo ba op oh ot fe fp fh ft : Int) (st lo : Bool) (vc : Value) (l : List Ln) (d p : Int) (wt : Bool) (w : World) (hs : Sl w v zs) (h : Ls w vc l) (hE : thE zs ⟨mo, ba, l, op, oh, ot, st, fe, fp, fh, ft, lo⟩ d p = 0) :
    Calls Try.prog 22 #[.agg #[v], .agg #[.int .i64 mo, .int .i64 ba, vc, .int .i64 op, .int .i64 oh, .int .i64 ot, .bool st, .int .i64 fe, .int .i64 fp, .int .i64 fh, .int .i64 ft, .bool lo], .int .i64 d, .int .i64 p, .bool wt] w fun e w' =>
      ∃ vc1 l1 k f, e = .returned (.tuple #[.agg #[.int .i64 mo, .int .i64 ba, vc1, .int .i64 op, .int .i64 oh, .int .i64 ot, .bool st, .int .i64 fe, .int .i64 fp, .int .i64 fh, .int .i64 ft, .bool lo], .int .i64 k, .int .i64 f]) ∧ goT zs ⟨mo, ba, l, op, oh, ot, st, fe, fp, fh, ft, lo⟩ d p wt = (⟨mo, ba, l1, op, oh, ot, st, fe, fp, fh, ft, lo⟩, k, f) ∧ Ls w' vc1 l1 ∧ Below w.heap.size w w' := by
  refine (goesTo_anyF v zs mo ba op oh ot fe fp fh ft st lo vc l d p wt w hs h hE).mono ?_
  rintro e w' ⟨vc1, l1, k, f, he, hg, hl, hb, -⟩
  exact ⟨vc1, l1, k, f, he, hg, hl, hb⟩
theorem checkMachine_row {m : Mc} {cs : Array Value} {w : World} (hm : IsM w m cs) : Calls Try.prog 6 #[.agg cs] w fun e w' => e = .returned (.int .i64 (chkM m)) ∧ Below w.heap.size w w' := by
  obtain ⟨zs, ⟨p, r, d⟩, ⟨mo, ba, l, op, oh, ot, st, fe, fp, fh, ft, lo⟩⟩ := m
  obtain ⟨a1, n1, c1, a2, n2, c2, a3, n3, c3, rfl, h1, h2, h3⟩ := hm
  exact checkMachine_any _ zs p _ r d mo ba op oh ot fe fp fh ft st lo _ l w h1 h2 h3
set_option maxHeartbeats 2000000 in
theorem checkTouch_any (d s a : Int) (f : Bool) (v : Int) (w : World) :
    Calls Try.prog 7 #[.agg #[.int .i64 d, .int .i64 s, .int .i64 a, .bool f, .int .i64 v]] w fun e w' => e = .returned (.int .i64 (ckT (d, s, a, f, v))) ∧ Below w.heap.size w w' := by
  have ways : (¬ 0 ≤ d) ∨ (0 ≤ d ∧ ¬ d ≤ 7) ∨ (0 ≤ d ∧ d ≤ 7 ∧ ¬ 0 ≤ s) ∨ (0 ≤ d ∧ d ≤ 7 ∧ 0 ≤ s ∧ ¬ s ≤ 511) ∨ (0 ≤ d ∧ d ≤ 7 ∧ 0 ≤ s ∧ s ≤ 511 ∧ ¬ 0 ≤ a) ∨ (0 ≤ d ∧ d ≤ 7 ∧ 0 ≤ s ∧ s ≤ 511 ∧ 0 ≤ a ∧ ¬ a ≤ 511) ∨ (0 ≤ d ∧ d ≤ 7 ∧ 0 ≤ s ∧ s ≤ 511 ∧ 0 ≤ a ∧ a ≤ 511) := by omega
  rcases ways with h1 | ⟨h1, h2⟩ | ⟨h1, h2, h3⟩ | ⟨h1, h2, h3, h4⟩ | ⟨h1, h2, h3, h4, h5⟩ | ⟨h1, h2, h3, h4, h5, h6⟩ | ⟨h1, h2, h3, h4, h5, h6⟩
  iterate 6
    focus
      rw [ckT_who (by omega)]
      go_enter Try.func7, Try.ntmps7
      go_wp2
      go_ret
      exact ⟨rfl, bel_alloc (Below.refl _ _) _⟩
  have ways : (¬ 0 ≤ v) ∨ (0 ≤ v ∧ ¬ v ≤ 65535) ∨ (0 ≤ v ∧ v ≤ 65535) := by omega
  rcases ways with k1 | ⟨k1, k2⟩ | ⟨k1, k2⟩
  iterate 2
    focus
      rw [ckT_rng (by omega) (by omega)]
      go_enter Try.func7, Try.ntmps7
      go_wp2
      go_ret
      exact ⟨rfl, bel_alloc (Below.refl _ _) _⟩
  have b1 : -511 ≤ s - a := by omega
  have b2 : s - a ≤ 511 := by omega
  by_cases q : s % 8 = a % 8
  · have e1 : (s - a).tmod 8 = 0 := by
      have h8 : (s - a) % 8 = 0 := by omega
      exact Int.tmod_eq_zero_of_dvd (Int.dvd_of_emod_eq_zero h8)
    rw [ckT_mk (t := (d, s, a, f, v)) (by show 0 ≤ d ∧ d ≤ 7; omega) (by show 0 ≤ s ∧ s ≤ 511; omega) (by show 0 ≤ a ∧ a ≤ 511; omega) ⟨k1, k2⟩ q]
    go_enter Try.func7, Try.ntmps7
    go_wp2
    go_ret
    exact ⟨rfl, bel_alloc (Below.refl _ _) _⟩
  · have e1 : ¬ (s - a).tmod 8 = 0 := fun e => by
      have := Int.emod_eq_zero_of_dvd (Int.dvd_of_tmod_eq_zero e)
      omega
    rw [ckT_frm (by omega) (by omega) q]
    go_enter Try.func7, Try.ntmps7
    go_wp2
    go_ret
    exact ⟨rfl, bel_alloc (Below.refl _ _) _⟩
theorem IsLast.none (t : Tc) : IsLast [] t (-1) := ⟨by simp, fun h => absurd h (by decide), fun j h1 h2 => absurd h2 (Nat.not_lt_zero _)⟩
theorem IsLast.step {l : List Mc} {t : Tc} {i : Nat} {k : Int} (h : IsLast (l.take i) t k) (hi : i < l.length) : IsLast (l.take (i + 1)) t (if lets (mth l i) t = true then (i : Int) else k) := by
  obtain ⟨h1, h2, h3⟩ := h
  rw [List.length_take] at h1 h3
  by_cases e : lets (mth l i) t = true
  · rw [if_pos e]
    refine ⟨by rw [List.length_take]; omega, fun _ => ?_, fun j j1 j2 => ?_⟩
    · rw [mth_take (by omega)]; exact e
    · rw [List.length_take] at j2; omega
  · rw [if_neg e]
    refine ⟨by rw [List.length_take]; omega, fun h0 => ?_, fun j j1 j2 => ?_⟩
    · have := h2 h0
      rw [mth_take (by omega)] at this ⊢
      exact this
    · rw [List.length_take] at j2
      by_cases e2 : j = i
      · subst e2
        rw [mth_take (by omega)]
        simpa using e
      · have := h3 j j1 (by omega)
        rw [mth_take (by omega)] at this ⊢
        exact this
set_option maxRecDepth 10000 in
set_option maxHeartbeats 4000000 in
theorem fairBy_any {v : Value} {l : List Mc} {d s a : Int} {f : Bool} {x : Int} {w : World} (hl : Ms w v l) (hE : frE l (d, s, a, f, x) = 0) :
    Calls Try.prog 10 #[v, .agg #[.int .i64 d, .int .i64 s, .int .i64 a, .bool f, .int .i64 x]] w fun e w' => ∃ k, e = .returned (.int .i64 k) ∧ IsLast l (d, s, a, f, x) k ∧ Below w.heap.size w w' := by
  obtain ⟨hlen, hmc, hct⟩ := frE_ok hE
  have HN : Hid (l.length ≤ 121) := hlen
  have HMC : Hid (mcE l = 0) := hmc
  have HT : Hid (ckT (d, s, a, f, x) = 0) := hct
  obtain ⟨k1, k2, k3, -, -⟩ := ckT_ok hct
  dsimp only at k1 k2 k3
  have HL : Hid (Ms w v l) := hl
  obtain ⟨va, vk, rfl, hc1, hc2⟩ := hl.shape
  have hs8 : s.tdiv 8 = s / 8 := Int.tdiv_eq_ediv_of_nonneg k2.1
  have ha8 : a.tdiv 8 = a / 8 := Int.tdiv_eq_ediv_of_nonneg k3.1
  obtain ⟨k21, k22⟩ := k2
  obtain ⟨k31, k32⟩ := k3
  clear hl hc1 hc2 hE hlen hmc hct k1
  have X1 := Box.newAt (w := w) (n := w.heap.size) rfl 24 #[.int .i64 d, .int .i64 s, .int .i64 a, .bool f, .int .i64 x]
  have BW : Hid (Below w.heap.size w (w.alloc (.cells #[.int .i64 d, .int .i64 s, .int .i64 a, .bool f, .int .i64 x] 24))) := bel_alloc (Below.refl w.heap.size w) _
  go_enter Try.func10, Try.ntmps10
  go_upto_region 1 with fail
  generalize (w.alloc (.cells #[.int .i64 d, .int .i64 s, .int .i64 a, .bool f, .int .i64 x] 24)) = W at *
  go_wp2
  go_loopw [5, 6, 7, 8, 9, 10, 13] (fun s5 _ _ _ _ _ s13 wx => ∃ (i : Nat) (k : Int), s5 = .int .i64 k ∧ s13 = .int .i64 i ∧ i ≤ l.length ∧ IsLast (l.take i) (d, s, a, f, x) k ∧ Below W.heap.size W wx) (fun _ _ _ _ _ _ s13 _ => l.length - (intOf s13).toNat)
  case atStart => exact ⟨0, -1, rfl, rfl, Nat.zero_le _, IsLast.none _, Below.refl _ _⟩
  case round =>
    obtain ⟨i, k, rfl, rfl, hi, hlast, hb⟩ := hrel
    have HK : Hid (IsLast (l.take i) (d, s, a, f, x) k) := hlast
    have HB : Hid (Below W.heap.size W wr) := hb
    have X1 := X1.keep hb
    clear hlast hb
    have i121 : i ≤ 121 := by have := HN.out; omega
    by_cases hlt : i < l.length
    rotate_left
    · obtain rfl : i = l.length := by omega
      have HK2 : Hid (IsLast l (d, s, a, f, x) k) := by
        have := HK.out
        rw [List.take_length] at this
        exact this
      clear HK
      go_wp2_with fail
      go_ret
      exact ⟨k, rfl, HK2.out, bel_trans BW.out HB.out⟩
    have hlt1 : (i : Int) < l.length := by omega
    obtain ⟨b, o, cs, hva, hbl, hM, hA⟩ := HL.out.at (bel_trans BW.out HB.out) hlt
    subst hva
    obtain ⟨hs, hal⟩ := hM.size
    have hgood := mcE_zero HMC.out i hlt
    have hth := thE_lets hgood HT.out
    have HI : (Try.prog.info? 39).map (·.size) = some cs.size := by rw [infoM, hs]
    obtain ⟨n7, hn7⟩ : ∃ n, wr.heap.size = n := ⟨_, rfl⟩
    have Z7 : Box (wr.alloc (.cells #[.slice none 0 0, .int .i64 0, .slice none 0 0, .bool false, .int .i64 0, .int .i64 0, .slice none 0 0, .int .i64 0, .int .i64 0, .int .i64 0, .bool false, .int .i64 0, .int .i64 0, .int .i64 0, .int .i64 0, .bool false] 39)) n7 39 #[.slice none 0 0, .int .i64 0, .slice none 0 0, .bool false, .int .i64 0, .int .i64 0, .slice none 0 0, .int .i64 0, .int .i64 0, .int .i64 0, .bool false, .int .i64 0, .int .i64 0, .int .i64 0, .int .i64 0, .bool false] := Box.newAt hn7.symm _ _
    have Y7 := Z7.setRow cs
    have s1 := X1.lt
    go_upto_region 5 with (first
      | fail
      | (refine wpList_load_off rfl 39 (.tmp 16) rfl b (o + i * 16) rfl cs _ hA Try.underlying39 rfl HI ?_)
      | (refine wpList_store_row rfl 39 (.tmp 7) (.tmp 17) rfl n7 cs rfl rfl _ _ Z7 HI (by rw [hs]; rfl) hal ?_))
    have BX : Hid (Below wr.heap.size wr ((wr.alloc (.cells #[.slice none 0 0, .int .i64 0, .slice none 0 0, .bool false, .int .i64 0, .int .i64 0, .slice none 0 0, .int .i64 0, .int .i64 0, .int .i64 0, .bool false, .int .i64 0, .int .i64 0, .int .i64 0, .int .i64 0, .bool false] 39)).setRow n7 cs)) := bel_setRow (by omega) (bel_alloc (Below.refl _ _) _) _
    have X1 := X1.keep BX.out
    clear Z7 hA HI
    generalize ((wr.alloc (.cells #[.slice none 0 0, .int .i64 0, .slice none 0 0, .bool false, .int .i64 0, .int .i64 0, .slice none 0 0, .int .i64 0, .int .i64 0, .int .i64 0, .bool false, .int .i64 0, .int .i64 0, .int .i64 0, .int .i64 0, .bool false] 39)).setRow n7 cs) = w3 at *
    obtain ⟨⟨zs, ⟨p, r, dn⟩, ⟨mo9, ba9, l9, op9, oh9, ot9, st9, fe9, fp9, fh9, ft9, lo9⟩⟩, hmm⟩ : ∃ m, mth l i = m := ⟨_, rfl⟩
    rw [hmm] at hM hth
    have HMM : Hid (mth l i = ⟨zs, ⟨p, r, dn⟩, ⟨mo9, ba9, l9, op9, oh9, ot9, st9, fe9, fp9, fh9, ft9, lo9⟩⟩) := hmm
    obtain ⟨a1, n1, c1, a2, n2, c2, a3, n3, c3, rfl, h1, h2, h3⟩ := hM
    dsimp only at h1 h2 h3 Y7 hth
    have H1 : Hid (Sl wr (.slice a1 n1 c1) zs) := h1
    have HE0 : Hid (thE zs (Br.with ⟨mo9, ba9, l9, op9, oh9, ot9, st9, fe9, fp9, fh9, ft9, lo9⟩ []) d (s / 8) = 0) := hth
    clear h1 h2 h3 hth hmm hgood
    obtain ⟨⟨i0, i1, i2, i3⟩, ⟨j0, j1, j2, j3, j4, j5, j6, j7, j8, j9, j10, j11⟩, s0⟩ := Y7.sixteen
    have mk := Y7.marksOf
    have X7 : Box (w3.setCell ⟨n7, 6, none⟩ (.slice none 0 0)) n7 39 #[.slice a1 n1 c1, .int .i64 p, .slice a2 n2 c2, .bool dn, .int .i64 mo9, .int .i64 ba9, .slice none 0 0, .int .i64 op9, .int .i64 oh9, .int .i64 ot9, .bool st9, .int .i64 fe9, .int .i64 fp9, .int .i64 fh9, .int .i64 ft9, .bool lo9] := Y7.set 6 _
    have BX : Hid (Below wr.heap.size wr (w3.setCell ⟨n7, 6, none⟩ (.slice none 0 0))) := bel_set (p := ⟨n7, 6, none⟩) (by dsimp only; omega) BX.out _
    have hne : w.heap.size ≠ n7 := by omega
    have X1 := X1.other (p := ⟨n7, 6, none⟩) hne (.slice none 0 0)
    go_upto_region 6 with fail
    clear i0 i1 i2 i3 j0 j1 j2 j3 j4 j5 j6 j7 j8 j9 j10 j11 s0 mk Y7
    generalize (w3.setCell ⟨n7, 6, none⟩ (.slice none 0 0)) = w4 at *
    obtain ⟨⟨i0, i1, i2, i3⟩, ⟨j0, j1, j2, j3, j4, j5, j6, j7, j8, j9, j10, j11⟩, s0⟩ := X7.sixteen
    obtain ⟨t0, t1, t2, t3, t4⟩ := X1.blk.five
    have sT := X1.lt
    go_wp2_with fail
    refine (goesTo_any _ zs mo9 ba9 op9 oh9 ot9 fe9 fp9 fh9 ft9 st9 lo9 _ [] d (s / 8) f _ (H1.out.keep BX.out) (Ls.nothing _) HE0.out).mono ?_
    rintro e w5 ⟨vc1, l1, q, g, rfl, hg, hl1, b5⟩
    have HV : Hid (lets (mth l i) (d, s, a, f, x) = decide (g = 0 ∧ q = a / 8)) := by
      show _ = _
      rw [HMM.out]
      show decide ((goT zs (Br.with ⟨mo9, ba9, l9, op9, oh9, ot9, st9, fe9, fp9, fh9, ft9, lo9⟩ []) d (s / 8) f).2.2 = 0 ∧ (goT zs (Br.with ⟨mo9, ba9, l9, op9, oh9, ot9, st9, fe9, fp9, fh9, ft9, lo9⟩ []) d (s / 8) f).2.1 = a / 8) = _
      have hg' : goT zs (Br.with ⟨mo9, ba9, l9, op9, oh9, ot9, st9, fe9, fp9, fh9, ft9, lo9⟩ []) d (s / 8) f = (⟨mo9, ba9, l1, op9, oh9, ot9, st9, fe9, fp9, fh9, ft9, lo9⟩, q, g) := hg
      rw [hg']
    have HS := HK.out.step hlt
    rw [HV.out] at HS
    have B5 : Hid (Below W.heap.size W w5) := bel_trans HB.out (bel_trans BX.out b5)
    obtain ⟨va1, vk1, vn1, rfl⟩ : ∃ a k c, vc1 = .slice a k c := let ⟨a, c, e, _⟩ := hl1; ⟨a, _, c, e⟩
    have X1 := X1.keep b5
    clear i0 i1 i2 i3 j0 j1 j2 j3 j4 j5 j6 j7 j8 j9 j10 j11 s0 t0 t1 t2 t3 t4 sT X7 b5 hg hl1 HE0 H1 HMM HV
    obtain ⟨t0, t1, t2, t3, t4⟩ := X1.blk.five
    have sT := X1.lt
    by_cases hq : g = 0
    · subst hq
      by_cases hk : q = a / 8
      · have HS2 : Hid (IsLast (l.take (i + 1)) (d, s, a, f, x) i) := by
          rw [if_pos (by simpa using hk)] at HS; exact HS
        clear HS
        go_wp2_with fail
        exact ⟨⟨i + 1, i, rfl, by go_num, by omega, HS2.out, bel_alloc B5.out _⟩, by simp [intOf]; omega⟩
      · have HS2 : Hid (IsLast (l.take (i + 1)) (d, s, a, f, x) k) := by
          rw [if_neg (by simpa using hk)] at HS; exact HS
        have kk : (q == a / 8) = false := by simpa using hk
        clear HS
        go_wp2_with fail
        exact ⟨⟨i + 1, k, rfl, by go_num, by omega, HS2.out, bel_alloc B5.out _⟩, by simp [intOf]; omega⟩
    · have HS2 : Hid (IsLast (l.take (i + 1)) (d, s, a, f, x) k) := by
        rw [if_neg (by simp [hq])] at HS; exact HS
      have qq : (g == 0) = false := by simpa using hq
      clear HS hq
      go_wp2_with fail
      exact ⟨⟨i + 1, k, rfl, by go_num, by omega, HS2.out, bel_alloc B5.out _⟩, by simp [intOf]; omega⟩
end Go.Proofs.Ythlhocneggcekaa
