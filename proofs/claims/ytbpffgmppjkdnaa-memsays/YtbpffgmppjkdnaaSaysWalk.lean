/-
  The walk of drawbridgelaw.MemSays: it answers true, whatever memory and numbers it is given; nothing that was there turns.
-/
import Derived.Test.YtbpffgmppjkdnaaKeepsWalk
import Derived.Deep.RegionHeld3
import Derived.Deep.DrawnRows
namespace Go.Proofs.Ytbpffgmppjkdnaa
open Go.RowKit
attribute [local go_sem ↓] Go.wp_at_zero Go.wp_at_succ

theorem keepS {w4 w' : World} {A A' : Nat} {x y : Value} (q : w4.cell? ⟨A, 0, none⟩ = some x) (r : w4.cell? ⟨A', 0, none⟩ = some y) (t : A < w4.heap.size) (t' : A' < w4.heap.size) (hb : Below w4.heap.size w4 w') :
    w'.cell? ⟨A, 0, none⟩ = some x ∧ w'.cell? ⟨A', 0, none⟩ = some y ∧ Below w4.heap.size w4 w' :=
  ⟨by rw [hb.cell (p := ⟨A, 0, none⟩) t]; exact q, by rw [hb.cell (p := ⟨A', 0, none⟩) t']; exact r, hb⟩
theorem made_sl (w : World) : Sl (w.alloc (.cells zeroCells 3)) (.slice (some ⟨w.heap.size, 0, none⟩) 512 512) zeros :=
  sl_block (heap_at rfl) zeroCells_list zeros_length.symm (by rw [zeros_length]; simp [maxLen])

set_option maxHeartbeats 8000000 in
theorem says_walk (v : Value) (zs : List Int) (k x : Int) (u : Value) (ys : List Int) (w : World) (h : Sl w v zs) (hu : Sl w u ys) :
    Calls Try.prog 4 #[.agg #[v], .int .i64 k, .int .i64 x, .agg #[u]] w fun e w' => e = .returned (.bool true) ∧ Below w.heap.size w w' := by
  obtain ⟨a0, c0, rfl⟩ := h.shape
  obtain ⟨a3, c3, rfl⟩ := hu.shape
  go_enter Try.func4, Try.ntmps4
  go_wp2_with fail
  refine (read_any _ zs _ _ (h.keep (bel_alloc (bel_alloc (Below.refl _ _) _) _))).mono ?_
  rintro e w1 ⟨rfl, b1⟩
  obtain ⟨c1, _⟩ := bcell b1
  have q1 : w1.cell? ⟨w.heap.size, 0, none⟩ = some (.slice a0 zs.length c0) := by rw [c1 _ _ (by simp; omega)]; simp [go_sem]
  have r1 : w1.cell? ⟨w.heap.size + 1, 0, none⟩ = some (.slice a3 ys.length c3) := by rw [c1 _ _ (by simp)]; simp [go_sem]
  have s1 : w.heap.size + 1 < w1.heap.size := by have := b1.size; simp at this; omega
  have B1 : Hid (Below w.heap.size w w1) := bel_trans (bel_alloc (bel_alloc (Below.refl _ _) _) _) b1
  clear b1 c1
  go_wp2_with fail
  refine (write_any _ zs _ _ _ (h.keep B1.out)).mono ?_
  rintro e w2 ⟨v2, rfl, h2, b2⟩
  obtain ⟨c2, _⟩ := bcell b2
  have s2 := b2.size
  have q2 : w2.cell? ⟨w.heap.size, 0, none⟩ = some (.slice a0 zs.length c0) := by rw [c2 _ _ (by omega)]; exact q1
  have r2 : w2.cell? ⟨w.heap.size + 1, 0, none⟩ = some (.slice a3 ys.length c3) := by rw [c2 _ _ (by omega)]; exact r1
  have B2 : Hid (Below w.heap.size w w2) := bel_trans B1.out b2
  have t2 : w.heap.size < w2.heap.size := by omega
  have t2' : w.heap.size + 1 < w2.heap.size := by omega
  obtain ⟨a2, cc2, rfl⟩ := h2.shape
  clear b2 c2 q1 r1 B1 s1 s2
  go_wp2_with fail
  refine (checkMem_any _ zs _ (h.keep (bel_alloc B2.out _))).mono ?_
  rintro e w4 ⟨rfl, b4⟩
  obtain ⟨c4, _⟩ := bcell b4
  have s4 : w2.heap.size < w4.heap.size := by have := b4.size; simp at this; omega
  have q4 : w4.cell? ⟨w.heap.size, 0, none⟩ = some (.slice a0 zs.length c0) := by rw [c4 _ _ (by simp; omega), World.cell?_alloc_past _ _ _ t2]; exact q2
  have r4 : w4.cell? ⟨w.heap.size + 1, 0, none⟩ = some (.slice a3 ys.length c3) := by rw [c4 _ _ (by simp; omega), World.cell?_alloc_past _ _ _ t2']; exact r2
  have p4 : w4.cell? ⟨w2.heap.size, 0, none⟩ = some (.slice a2 (wrM zs k x).length cc2) := by rw [c4 _ _ (by simp)]; simp [go_sem]
  have h2' := h2.keep (bel_trans (bel_alloc (Below.refl _ _) _) b4)
  have H2 : Hid (Sl w4 (.slice a2 (wrM zs k x).length cc2) (wrM zs k x)) := h2'
  have B4 : Hid (Below w.heap.size w w4) := bel_trans (bel_alloc B2.out _) b4
  have HM : Hid (Sl w4 (.slice a0 zs.length c0) zs) := h.keep B4.out
  have HU : Hid (Sl w4 (.slice a3 ys.length c3) ys) := hu.keep B4.out
  have t4 : w.heap.size < w4.heap.size := by omega
  have t4' : w.heap.size + 1 < w4.heap.size := by omega
  clear b4 c4 q2 r2 B2 h2 h2' h hu t2 t2'
  have hmk := make512
  have hfl := field0
  go_wp2_with fail
  go_region_held3 (fun w' => w'.cell? ⟨w.heap.size, 0, none⟩ = some (.slice a0 zs.length c0) ∧ w'.cell? ⟨w.heap.size + 1, 0, none⟩ = some (.slice a3 ys.length c3) ∧ Below w4.heap.size w4 w')
    ((refine keepS q4 r4 t4 t4' ?_; (repeat (first | assumption | exact Below.refl _ _ | refine Below.drew ?_ | refine bel_drewN ?_ _ | refine bel_alloc ?_ _ | refine bel_trans ?_ (by assumption)))))
    (first
      | (go_at_call 10; refine (stored_true _).mono ?_; rintro e w5 ⟨rfl, b5⟩)
      | (go_at_call 11; refine (check_any _ zs _ ?_).mono ?_; (focus (refine HM.out.keep ?_; (repeat (first | assumption | exact Below.refl _ _ | refine Below.drew ?_ | refine bel_drewN ?_ _ | refine bel_alloc ?_ _ | refine bel_trans ?_ (by assumption))))); rintro e w6 ⟨rfl, b6⟩)
      | (go_at_call 12; refine (same_any _ _ zs ys _ ?_ ?_).mono ?_; (focus (refine HM.out.keep ?_; (repeat (first | assumption | exact Below.refl _ _ | refine Below.drew ?_ | refine bel_drewN ?_ _ | refine bel_alloc ?_ _ | refine bel_trans ?_ (by assumption))))); (focus (refine HU.out.keep ?_; (repeat (first | assumption | exact Below.refl _ _ | refine Below.drew ?_ | refine bel_drewN ?_ _ | refine bel_alloc ?_ _ | refine bel_trans ?_ (by assumption))))); rintro e w7 ⟨rfl, b7⟩)
      | (go_at_call 13; refine (new_both _).mono ?_; rintro e w8 ⟨g8, rfl, h8, b8⟩)
      | (go_at_call 6; refine (equal_any _ _ zs ys _ ?_ ?_).mono ?_; (focus (refine HM.out.keep ?_; (repeat (first | assumption | exact Below.refl _ _ | refine Below.drew ?_ | refine bel_drewN ?_ _ | refine bel_alloc ?_ _ | refine bel_trans ?_ (by assumption))))); (focus (refine HU.out.keep ?_; (repeat (first | assumption | exact Below.refl _ _ | refine Below.drew ?_ | refine bel_drewN ?_ _ | refine bel_alloc ?_ _ | refine bel_trans ?_ (by assumption))))); rintro e w9 ⟨rfl, n9, rfl⟩)
      | (go_at_call 6; refine (equal_any _ _ zeros zeros _ ?_ ?_).mono ?_; (focus (refine h8.keep ?_; (repeat (first | assumption | exact Below.refl _ _ | refine Below.drew ?_ | refine bel_drewN ?_ _ | refine bel_alloc ?_ _ | refine bel_trans ?_ (by assumption))))); (first | exact made_sl _ | exact Sl.keep (made_sl (w7.drewN n9)) b8); rintro e w9 ⟨rfl, n9, rfl⟩))
  · rename_i hH
    have hB := hH.2.2
    clear hH h8 b8 b7 b6 b5
    generalize ((w8.alloc (Obj.cells zeroCells 3)).drewN n9) = W at *
    have qW : W.cell? ⟨w.heap.size, 0, none⟩ = some (.slice a0 zs.length c0) := by rw [hB.cell (p := ⟨w.heap.size, 0, none⟩) t4]; exact q4
    have pW : W.cell? ⟨w2.heap.size, 0, none⟩ = some (.slice a2 (wrM zs k x).length cc2) := by rw [hB.cell (p := ⟨w2.heap.size, 0, none⟩) s4]; exact p4
    have tW : w.heap.size < W.heap.size := by have := hB.size; omega
    have tW2 : w2.heap.size < W.heap.size := by have := hB.size; omega
    have HMW : Hid (Sl W (.slice a0 zs.length c0) zs) := HM.out.keep hB
    have H2W : Hid (Sl W (.slice a2 (wrM zs k x).length cc2) (wrM zs k x)) := H2.out.keep hB
    have BW : Hid (Below w.heap.size w W) := bel_trans B4.out hB
    clear hB q4 p4 r4 HM HU H2 B4 t4 t4' s4
    by_cases hk : chk zs = 0
    · by_cases hp : placeB k = true
      · have pk : 0 ≤ k ∧ k < 512 := by simpa [placeB] using hp
        obtain ⟨pk0, pk1⟩ := pk
        obtain ⟨hl, _⟩ := chk_ok hk
        have k1 : ¬ k < 0 := by omega
        have k2 : ¬ 511 < k := by omega
        have kl : k < (zs.length : Int) := by omega
        rw [rdE_ok hk hp, rdV_ok hk hp, hk]
        obtain ⟨b, o, cap, he, hb, hc⟩ := HMW.out.open512 hl
        simp only [Value.slice.injEq] at he
        obtain ⟨rfl, hll, rfl⟩ := he
        clear hll
        have g := hc k.toNat (by omega)
        clear hc
        have HL : Hid (zs.length = 512) := hl
        clear hl
        cases hx : wordB x
        · have e2 : wrE zs k x = 2 := by simp [wrE, hk, hp, hx]
          have m2 : wrM zs k x = [] := by rw [wrM, if_neg (by simp [hx])]
          rw [e2]
          rw [m2, List.length_nil] at pW
          rw [m2, List.length_nil]
          by_cases x0 : x < 0
          · go_wp2
            go_ret
            exact ⟨rfl, BW.out⟩
          · have x1 : 65535 < x := by
              simp [wordB] at hx; omega
            go_wp2
            go_ret
            exact ⟨rfl, BW.out⟩
        · have x01 : 0 ≤ x ∧ x ≤ 65535 := by simpa [wordB] using hx
          obtain ⟨x0', x1'⟩ := x01
          have x0 : ¬ x < 0 := by omega
          have x1 : ¬ 65535 < x := by omega
          rw [wrE_ok hk hp hx]
          have m2 := wrM_ok hk hp hx
          have H2X : Hid (Sl W (.slice a2 zs.length cc2) (zs.set k.toNat x)) := by have := H2W.out; rwa [m2, List.length_set] at this
          rw [m2, List.length_set] at pW
          rw [m2, List.length_set]
          go_wp2_with fail
          go_region_held3 (fun w' => w'.cell? ⟨w.heap.size, 0, none⟩ = some (.slice (some ⟨b, o, none⟩) zs.length c0) ∧ w'.cell? ⟨w2.heap.size, 0, none⟩ = some (.slice a2 zs.length cc2) ∧ Below W.heap.size W w')
            ((refine keepS qW pW tW tW2 ?_; (repeat (first | assumption | exact Below.refl _ _ | refine Below.drew ?_ | refine bel_drewN ?_ _ | refine bel_alloc ?_ _ | refine bel_trans ?_ (by assumption)))))
            (first
              | (go_at_call 14; refine (put_ok _ zs _ _ _ ?_ HL.out pk0 pk1).mono ?_; (focus (refine HMW.out.keep ?_; (repeat (first | assumption | exact Below.refl _ _ | refine Below.drew ?_ | refine bel_drewN ?_ _ | refine bel_alloc ?_ _ | refine bel_trans ?_ (by assumption))))); rintro e w10 ⟨v10, rfl, h10, b10⟩)
              | (go_at_call 6; refine (equal_any _ _ (zs.set k.toNat x) (zs.set k.toNat x) _ ?_ ?_).mono ?_; (focus (refine H2X.out.keep ?_; (repeat (first | assumption | exact Below.refl _ _ | refine Below.drew ?_ | refine bel_drewN ?_ _ | refine bel_alloc ?_ _ | refine bel_trans ?_ (by assumption))))); (exact h10); rintro e w11 ⟨rfl, n11, rfl⟩))
          all_goals
            rename_i hH
            have hB := hH.2.2
            clear hH
            go_wp2
            go_ret
            exact ⟨by simp, bel_trans BW.out hB⟩
      · have hp' : placeB k = false := by simpa using hp
        have e1 : rdE zs k = 4 := by simp [rdE, hk, hp']
        have v1 : rdV zs k = 0 := by simp [rdV, hp']
        have e2 : wrE zs k x = 4 := by simp [wrE, hk, hp']
        have m2 : wrM zs k x = [] := by rw [wrM, if_neg (by simp [hp'])]
        rw [e1, v1, e2, hk]
        rw [m2, List.length_nil] at pW
        rw [m2, List.length_nil]
        by_cases k0 : k < 0
        · go_wp2
          go_ret
          exact ⟨rfl, BW.out⟩
        · have k1 : 511 < k := by
            simp [placeB] at hp'; omega
          go_wp2
          go_ret
          exact ⟨rfl, BW.out⟩
    · have c1 : (chk zs == 0) = false := by simpa using hk
      have c2 : (chk zs != 0) = true := by simpa using hk
      have e1 : rdE zs k = chk zs := by simp [rdE, hk]
      have v1 : rdV zs k = 0 := by simp [rdV, hk]
      have e2 : wrE zs k x = chk zs := by simp [wrE, hk]
      have m2 : wrM zs k x = [] := by rw [wrM, if_neg (by simp [hk])]
      rw [e1, v1, e2]
      rw [m2, List.length_nil] at pW
      rw [m2, List.length_nil]
      go_wp2
      go_ret
      exact ⟨by simp, BW.out⟩
  · rename_i hH
    have hB := hH.2.2
    clear hH h8 b8 b7 b6 b5
    generalize (w8.drewN n9) = W at *
    have qW : W.cell? ⟨w.heap.size, 0, none⟩ = some (.slice a0 zs.length c0) := by rw [hB.cell (p := ⟨w.heap.size, 0, none⟩) t4]; exact q4
    have pW : W.cell? ⟨w2.heap.size, 0, none⟩ = some (.slice a2 (wrM zs k x).length cc2) := by rw [hB.cell (p := ⟨w2.heap.size, 0, none⟩) s4]; exact p4
    have tW : w.heap.size < W.heap.size := by have := hB.size; omega
    have tW2 : w2.heap.size < W.heap.size := by have := hB.size; omega
    have HMW : Hid (Sl W (.slice a0 zs.length c0) zs) := HM.out.keep hB
    have H2W : Hid (Sl W (.slice a2 (wrM zs k x).length cc2) (wrM zs k x)) := H2.out.keep hB
    have BW : Hid (Below w.heap.size w W) := bel_trans B4.out hB
    clear hB q4 p4 r4 HM HU H2 B4 t4 t4' s4
    by_cases hk : chk zs = 0
    · by_cases hp : placeB k = true
      · have pk : 0 ≤ k ∧ k < 512 := by simpa [placeB] using hp
        obtain ⟨pk0, pk1⟩ := pk
        obtain ⟨hl, _⟩ := chk_ok hk
        have k1 : ¬ k < 0 := by omega
        have k2 : ¬ 511 < k := by omega
        have kl : k < (zs.length : Int) := by omega
        rw [rdE_ok hk hp, rdV_ok hk hp, hk]
        obtain ⟨b, o, cap, he, hb, hc⟩ := HMW.out.open512 hl
        simp only [Value.slice.injEq] at he
        obtain ⟨rfl, hll, rfl⟩ := he
        clear hll
        have g := hc k.toNat (by omega)
        clear hc
        have HL : Hid (zs.length = 512) := hl
        clear hl
        cases hx : wordB x
        · have e2 : wrE zs k x = 2 := by simp [wrE, hk, hp, hx]
          have m2 : wrM zs k x = [] := by rw [wrM, if_neg (by simp [hx])]
          rw [e2]
          rw [m2, List.length_nil] at pW
          rw [m2, List.length_nil]
          by_cases x0 : x < 0
          · go_wp2
            go_ret
            exact ⟨rfl, BW.out⟩
          · have x1 : 65535 < x := by
              simp [wordB] at hx; omega
            go_wp2
            go_ret
            exact ⟨rfl, BW.out⟩
        · have x01 : 0 ≤ x ∧ x ≤ 65535 := by simpa [wordB] using hx
          obtain ⟨x0', x1'⟩ := x01
          have x0 : ¬ x < 0 := by omega
          have x1 : ¬ 65535 < x := by omega
          rw [wrE_ok hk hp hx]
          have m2 := wrM_ok hk hp hx
          have H2X : Hid (Sl W (.slice a2 zs.length cc2) (zs.set k.toNat x)) := by have := H2W.out; rwa [m2, List.length_set] at this
          rw [m2, List.length_set] at pW
          rw [m2, List.length_set]
          go_wp2_with fail
          go_region_held3 (fun w' => w'.cell? ⟨w.heap.size, 0, none⟩ = some (.slice (some ⟨b, o, none⟩) zs.length c0) ∧ w'.cell? ⟨w2.heap.size, 0, none⟩ = some (.slice a2 zs.length cc2) ∧ Below W.heap.size W w')
            ((refine keepS qW pW tW tW2 ?_; (repeat (first | assumption | exact Below.refl _ _ | refine Below.drew ?_ | refine bel_drewN ?_ _ | refine bel_alloc ?_ _ | refine bel_trans ?_ (by assumption)))))
            (first
              | (go_at_call 14; refine (put_ok _ zs _ _ _ ?_ HL.out pk0 pk1).mono ?_; (focus (refine HMW.out.keep ?_; (repeat (first | assumption | exact Below.refl _ _ | refine Below.drew ?_ | refine bel_drewN ?_ _ | refine bel_alloc ?_ _ | refine bel_trans ?_ (by assumption))))); rintro e w10 ⟨v10, rfl, h10, b10⟩)
              | (go_at_call 6; refine (equal_any _ _ (zs.set k.toNat x) (zs.set k.toNat x) _ ?_ ?_).mono ?_; (focus (refine H2X.out.keep ?_; (repeat (first | assumption | exact Below.refl _ _ | refine Below.drew ?_ | refine bel_drewN ?_ _ | refine bel_alloc ?_ _ | refine bel_trans ?_ (by assumption))))); (exact h10); rintro e w11 ⟨rfl, n11, rfl⟩))
          all_goals
            rename_i hH
            have hB := hH.2.2
            clear hH
            go_wp2
            go_ret
            exact ⟨by simp, bel_trans BW.out hB⟩
      · have hp' : placeB k = false := by simpa using hp
        have e1 : rdE zs k = 4 := by simp [rdE, hk, hp']
        have v1 : rdV zs k = 0 := by simp [rdV, hp']
        have e2 : wrE zs k x = 4 := by simp [wrE, hk, hp']
        have m2 : wrM zs k x = [] := by rw [wrM, if_neg (by simp [hp'])]
        rw [e1, v1, e2, hk]
        rw [m2, List.length_nil] at pW
        rw [m2, List.length_nil]
        by_cases k0 : k < 0
        · go_wp2
          go_ret
          exact ⟨rfl, BW.out⟩
        · have k1 : 511 < k := by
            simp [placeB] at hp'; omega
          go_wp2
          go_ret
          exact ⟨rfl, BW.out⟩
    · have c1 : (chk zs == 0) = false := by simpa using hk
      have c2 : (chk zs != 0) = true := by simpa using hk
      have e1 : rdE zs k = chk zs := by simp [rdE, hk]
      have v1 : rdV zs k = 0 := by simp [rdV, hk]
      have e2 : wrE zs k x = chk zs := by simp [wrE, hk]
      have m2 : wrM zs k x = [] := by rw [wrM, if_neg (by simp [hk])]
      rw [e1, v1, e2]
      rw [m2, List.length_nil] at pW
      rw [m2, List.length_nil]
      go_wp2
      go_ret
      exact ⟨by simp, BW.out⟩
end Go.Proofs.Ytbpffgmppjkdnaa
