/-
  The closed fact 'turned' of the statements answers true; nothing that was there turns.
-/
import Derived.Test.YtbnjckadgoofjaaRing3
import Derived.Test.YtbnjckadgoofjaaWithA
import Derived.Deep.RegionWith
namespace Go.Proofs.Ytbnjckadgoofjaa
open Go.RowKit

/-- The memory of the closed fact, ahead of the push and behind it. -/
def tnA : List Int := wth [14, 3] 1
def tnB : List Int := tnA.set 15 5
theorem tnA_chk : chk tnA = 0 := by
  have : tnA = zeros.set 14 3 := rfl
  rw [this]; exact chk_set chk_zeros rfl
theorem tnB_chk : chk tnB = 0 := chk_set tnA_chk rfl
theorem tnB_len : tnB.length = 512 := (chk_ok tnB_chk).1
theorem tnB_14 : nth tnB 14 = 3 := by
  unfold tnB
  rw [nth_set_other (by decide), show tnA = zeros.set 14 3 from rfl, nth_set_same (by rw [zeros_length]; decide)]
theorem tnB_15 : nth tnB 15 = 5 := nth_set_same (by rw [(chk_ok tnA_chk).1]; decide) 5

theorem push_t {v : Value} {w : World} (hs : Sl w v tnA) :
    Calls Try.prog 47 #[.agg #[v], .agg #[.int .i64 1, .int .i64 6, .int .i64 7], .int .i64 5] w fun e w' =>
      ∃ v', e = .returned (.tuple #[.agg #[v'], .agg #[.int .i64 1, .int .i64 6, .int .i64 0], .int .i64 0]) ∧ Sl w' v' tnB ∧ Fresh w.heap.size v' ∧ Below w.heap.size w w' :=
  push_ok hs tnA_chk rfl rfl (by decide)
theorem pop_t1 {v : Value} {w : World} (hs : Sl w v tnB) :
    Calls Try.prog 48 #[.agg #[v], .agg #[.int .i64 1, .int .i64 6, .int .i64 0]] w fun e w' =>
      e = .returned (.tuple #[.int .i64 3, .agg #[.int .i64 1, .int .i64 7, .int .i64 0], .int .i64 0]) ∧ Below w.heap.size w w' := by
  have := pop_ok hs tnB_chk (p := 1) (h := 6) (t := 0) rfl (by decide)
  rw [show ((1 : Int) * 8 + 6).toNat = 14 from rfl, tnB_14] at this
  exact this
theorem pop_t2 {v : Value} {w : World} (hs : Sl w v tnB) :
    Calls Try.prog 48 #[.agg #[v], .agg #[.int .i64 1, .int .i64 7, .int .i64 0]] w fun e w' =>
      e = .returned (.tuple #[.int .i64 5, .agg #[.int .i64 1, .int .i64 0, .int .i64 0], .int .i64 0]) ∧ Below w.heap.size w w' := by
  have := pop_ok hs tnB_chk (p := 1) (h := 7) (t := 0) rfl (by decide)
  rw [show ((1 : Int) * 8 + 7).toNat = 15 from rfl, tnB_15] at this
  exact this
theorem pop_t3 {v : Value} {w : World} (hs : Sl w v tnB) :
    Calls Try.prog 48 #[.agg #[v], .agg #[.int .i64 1, .int .i64 0, .int .i64 0]] w fun e w' =>
      e = .returned (.tuple #[.int .i64 0, .agg #[.int .i64 0, .int .i64 0, .int .i64 0], .int .i64 6]) ∧ Below w.heap.size w w' :=
  pop_none hs tnB_chk rfl

theorem keepT {W w' : World} {n : Nat} {u0 u1 u2 : Value} (h0 : W.cell? ⟨n, 0, none⟩ = some u0) (h1 : W.cell? ⟨n, 1, none⟩ = some u1) (h2 : W.cell? ⟨n, 2, none⟩ = some u2) (hn : n < W.heap.size) (hb : Below W.heap.size W w') :
    w'.cell? ⟨n, 0, none⟩ = some u0 ∧ w'.cell? ⟨n, 1, none⟩ = some u1 ∧ w'.cell? ⟨n, 2, none⟩ = some u2 ∧ Below W.heap.size W w' :=
  ⟨((bcell hb).1 n 0 hn).trans h0, ((bcell hb).1 n 1 hn).trans h1, ((bcell hb).1 n 2 hn).trans h2, hb⟩

set_option maxHeartbeats 8000000 in
theorem turned_true (w : World) : Calls Try.prog 51 #[] w fun e w' => e = .returned (.bool true) ∧ Below w.heap.size w w' := by
  go_enter Try.func51, Try.ntmps51
  go_upto_region 2 with fail
  go_cut [2, 3] from 12 to 19 (fun s u wx => ∃ n a c, s = .pointer (some ⟨n, 0, none⟩) ∧ u = .int .i64 0 ∧ Box wx n 28 #[.slice a 512 c] ∧ Box wx w.heap.size 71 #[.int .i64 1, .int .i64 6, .int .i64 0] ∧ ¬ n = w.heap.size ∧ Fresh (w.heap.size + 1) (.slice a 512 c) ∧ Sl wx (.slice a 512 c) tnB ∧ Below w.heap.size w wx)
  case first =>
    go_region_with (first
        | (go_at_call 71; refine (with_any _ 0 2 [14, 3] 1 _ ?_ rfl (by decide) (by decide)).mono ?_; (focus (first | exact sl_block (heap_at (by simp)) rfl rfl (by simp [maxLen]) | exact sl_block (heap_past (by simp) (heap_at (by simp))) rfl rfl (by simp [maxLen]))); rintro e w1 ⟨g1, rfl, h1, b1⟩; have XR1 := (Box.keep (n := w.heap.size) (t := 71) (cs := #[.int .i64 1, .int .i64 6, .int .i64 7]) (by (repeat (first | with_reducible exact Box.newAt rfl _ _ | with_reducible exact XR1 | with_reducible refine Box.drew ?_ | with_reducible refine Box.drewN ?_ _ | with_reducible refine Box.past ?_ _))) b1); obtain ⟨i0, i1, i2, j0, j1, j2, k0⟩ := XR1.three; have l1 := b1.size; first | (refine (have XM1 : Box w1 (w.heap.size + 1) 28 #[.slice none 0 0] := ?_; ?_); (focus (refine Box.keep ?_ b1; (repeat (first | with_reducible exact XM1 | (with_reducible refine Box.newAt ?_ _ _; (focus (simp; done))) | with_reducible refine Box.drew ?_ | with_reducible refine Box.drewN ?_ _ | with_reducible refine Box.past ?_ _)); done)); obtain ⟨v0, v1, v3⟩ := XM1.one) | (refine (have XM1 : Box w1 (w.heap.size + 1 + 1) 28 #[.slice none 0 0] := ?_; ?_); (focus (refine Box.keep ?_ b1; (repeat (first | with_reducible exact XM1 | (with_reducible refine Box.newAt ?_ _ _; (focus (simp; done))) | with_reducible refine Box.drew ?_ | with_reducible refine Box.drewN ?_ _ | with_reducible refine Box.past ?_ _)); done)); obtain ⟨v0, v1, v3⟩ := XM1.one) | skip)
        | (go_at_call 47; refine (push_t ?_).mono ?_; (focus (first | exact h1 | exact h1.keep (bel_alloc (Below.refl _ _) _) | exact h1.keep (Below.drew (bel_alloc (Below.refl _ _) _)))); rintro e w2 ⟨v2, rfl, h2, n2, b2⟩; obtain ⟨g2, o2, c2, rfl, _, _⟩ := h2.open512 tnB_len; have XR2 := (Box.keep (n := w.heap.size) (t := 71) (cs := #[.int .i64 1, .int .i64 6, .int .i64 7]) (by (repeat (first | with_reducible exact Box.newAt rfl _ _ | with_reducible exact XR1 | with_reducible refine Box.drew ?_ | with_reducible refine Box.drewN ?_ _ | with_reducible refine Box.past ?_ _))) b2); obtain ⟨m0, m1, m2, t0, t1, t2, k2⟩ := XR2.three; have l2 := b2.size; first | (refine (have XM2 : Box w2 (w.heap.size + 1) 28 #[.slice none 0 0] := ?_; ?_); (focus (refine Box.keep ?_ b2; (repeat (first | with_reducible exact XM1 | (with_reducible refine Box.newAt ?_ _ _; (focus (simp; done))) | with_reducible refine Box.drew ?_ | with_reducible refine Box.drewN ?_ _ | with_reducible refine Box.past ?_ _)); done)); obtain ⟨x0, x1, x2⟩ := XM2.one) | (refine (have XM2 : Box w2 (w.heap.size + 1 + 1) 28 #[.slice none 0 0] := ?_; ?_); (focus (refine Box.keep ?_ b2; (repeat (first | with_reducible exact XM1 | (with_reducible refine Box.newAt ?_ _ _; (focus (simp; done))) | with_reducible refine Box.drew ?_ | with_reducible refine Box.drewN ?_ _ | with_reducible refine Box.past ?_ _)); done)); obtain ⟨x0, x1, x2⟩ := XM2.one) | (refine (have XM2 : Box w2 (w1.heap.size) 28 #[.slice none 0 0] := ?_; ?_); (focus (refine Box.keep ?_ b2; (repeat (first | with_reducible exact XM1 | (with_reducible refine Box.newAt ?_ _ _; (focus (simp; done))) | with_reducible refine Box.drew ?_ | with_reducible refine Box.drewN ?_ _ | with_reducible refine Box.past ?_ _)); done)); obtain ⟨x0, x1, x2⟩ := XM2.one) | skip))
    all_goals
      go_wp2_with fail
      go_meet
      have ng := n2 g2 rfl
      have z1 := b1.size
      simp at ng z1
      first
        | (with_reducible refine ⟨_, _, _, rfl, rfl, Box.newAt ?_ _ _, (XR2.set3 _ _ _).past _, ?_, n2.mono ?_, Sl.keep (Sl.setOther (Sl.setOther (Sl.setOther h2 ?_ _) ?_ _) ?_ _) (bel_alloc (Below.refl _ _) _), ?_⟩; (focus (simp; done)); (focus omega); (focus (first | omega | (simp; omega))); (focus (simp [Value.ownBlock]; omega)); (focus (simp [Value.ownBlock]; omega)); (focus (simp [Value.ownBlock]; omega)); (repeat (first | with_reducible assumption | with_reducible exact Below.refl _ _ | with_reducible refine Below.drew ?_ | with_reducible refine bel_drewN ?_ _ | with_reducible refine bel_alloc ?_ _ | (with_reducible refine bel_set ?_ ?_ _; (focus (first | omega | (dsimp only; omega)))) | with_reducible refine bel_trans ?_ (by assumption))))
        | (with_reducible refine ⟨_, _, _, rfl, rfl, (XM2.set1 _).other3 ?_ _ _ _, (XR2.other ?_ _).set3 _ _ _, ?_, n2.mono ?_, Sl.setOther (Sl.setOther (Sl.setOther (h2.setSlice x0 _) ?_ _) ?_ _) ?_ _, ?_⟩; (focus omega); (focus (first | omega | (dsimp only; omega))); (focus omega); (focus (first | omega | (simp; omega))); (focus (simp [Value.ownBlock]; omega)); (focus (simp [Value.ownBlock]; omega)); (focus (simp [Value.ownBlock]; omega)); (repeat (first | with_reducible assumption | with_reducible exact Below.refl _ _ | with_reducible refine Below.drew ?_ | with_reducible refine bel_drewN ?_ _ | with_reducible refine bel_alloc ?_ _ | (with_reducible refine bel_set ?_ ?_ _; (focus (first | omega | (dsimp only; omega)))) | with_reducible refine bel_trans ?_ (by assumption))))
  case rest =>
    obtain ⟨n, a, c, rfl, rfl, XM, XR, hne, NF, HS, Bc⟩ := hcut
    have HN : Hid (Fresh (w.heap.size + 1) (.slice a 512 c)) := NF
    have HB : Hid (Below w.heap.size w wc) := Bc
    clear Bc NF
    obtain ⟨m0, -, ml⟩ := XM.one
    obtain ⟨r0, r1, r2, f0, f1, f2, rl⟩ := XR.three
    go_wp2_with fail
    refine (pop_t1 HS).mono ?_
    rintro e w3 ⟨rfl, b3⟩
    have XM := XM.keep b3
    have XR := XR.keep b3
    have HS := HS.keep b3
    have HB3 : Hid (Below w.heap.size w w3) := bel_trans HB.out b3
    clear m0 ml r0 r1 r2 f0 f1 f2 rl b3 HB
    obtain ⟨m0, -, ml⟩ := XM.one
    obtain ⟨r0, r1, r2, f0, f1, f2, rl⟩ := XR.three
    have XM := XM.other3 hne (.int .i64 1) (.int .i64 7) (.int .i64 0)
    have XR := XR.set3 (.int .i64 1) (.int .i64 7) (.int .i64 0)
    have HS : Sl (((w3.setCell ⟨w.heap.size, 0, none⟩ (.int .i64 1)).setCell ⟨w.heap.size, 1, none⟩ (.int .i64 7)).setCell ⟨w.heap.size, 2, none⟩ (.int .i64 0)) (.slice a 512 c) tnB := by
      refine Sl.setOther (Sl.setOther (Sl.setOther HS ?_ _) ?_ _) ?_ _ <;> exact HN.out.ne (Nat.lt_succ_self _)
    have HB4 : Hid (Below w.heap.size w (((w3.setCell ⟨w.heap.size, 0, none⟩ (.int .i64 1)).setCell ⟨w.heap.size, 1, none⟩ (.int .i64 7)).setCell ⟨w.heap.size, 2, none⟩ (.int .i64 0))) := bel_set3 (Nat.le_refl _) HB3.out _ _ _
    go_wp2_with fail
    clear m0 ml r0 r1 r2 f0 f1 f2 rl HB3
    generalize (((w3.setCell ⟨w.heap.size, 0, none⟩ (.int .i64 1)).setCell ⟨w.heap.size, 1, none⟩ (.int .i64 7)).setCell ⟨w.heap.size, 2, none⟩ (.int .i64 0)) = W4 at *
    refine (pop_t2 HS).mono ?_
    rintro e w5 ⟨rfl, b5⟩
    have XM := XM.keep b5
    have XR := XR.keep b5
    have HS := HS.keep b5
    have HB5 : Hid (Below w.heap.size w w5) := bel_trans HB4.out b5
    clear b5 HB4
    obtain ⟨m0, -, ml⟩ := XM.one
    obtain ⟨r0, r1, r2, f0, f1, f2, rl⟩ := XR.three
    have XM := XM.other3 hne (.int .i64 1) (.int .i64 0) (.int .i64 0)
    have XR := XR.set3 (.int .i64 1) (.int .i64 0) (.int .i64 0)
    have HS : Sl (((w5.setCell ⟨w.heap.size, 0, none⟩ (.int .i64 1)).setCell ⟨w.heap.size, 1, none⟩ (.int .i64 0)).setCell ⟨w.heap.size, 2, none⟩ (.int .i64 0)) (.slice a 512 c) tnB := by
      refine Sl.setOther (Sl.setOther (Sl.setOther HS ?_ _) ?_ _) ?_ _ <;> exact HN.out.ne (Nat.lt_succ_self _)
    have HB6 : Hid (Below w.heap.size w (((w5.setCell ⟨w.heap.size, 0, none⟩ (.int .i64 1)).setCell ⟨w.heap.size, 1, none⟩ (.int .i64 0)).setCell ⟨w.heap.size, 2, none⟩ (.int .i64 0))) := bel_set3 (Nat.le_refl _) HB5.out _ _ _
    go_wp2_with fail
    clear m0 ml r0 r1 r2 f0 f1 f2 rl HB5
    generalize (((w5.setCell ⟨w.heap.size, 0, none⟩ (.int .i64 1)).setCell ⟨w.heap.size, 1, none⟩ (.int .i64 0)).setCell ⟨w.heap.size, 2, none⟩ (.int .i64 0)) = W6 at *
    refine (pop_t3 HS).mono ?_
    rintro e w7 ⟨rfl, b7⟩
    have XR := XR.keep b7
    have HB7 : Hid (Below w.heap.size w w7) := bel_trans HB6.out b7
    clear b7 HB6 HS XM
    obtain ⟨r0, r1, r2, f0, f1, f2, rl⟩ := XR.three
    go_wp2_with fail
    refine (length_any 0 6 1 _ (by decide) (by decide)).mono ?_
    rintro e w8 ⟨rfl, rfl⟩
    rw [show lenR 6 1 = 3 from rfl]
    go_wp2
    go_ret
    exact ⟨rfl, bel_alloc (bel_alloc HB7.out _) _⟩
end Go.Proofs.Ytbnjckadgoofjaa
