/-
  The walk of drawbridgelaw.WalkRight: it answers true, whatever memory and pages it is given; nothing that was there turns.
-/
import Derived.Test.YtnpgldcambbnhaaWalkMath
namespace Go.Proofs.Ytnpgldcambbnhaa
open Go.RowKit

theorem wkd_bad {zs : List Int} {root page : Int} (wr : Bool) (h : ¬ chk zs = 0) : wkd zs root page wr = ((false, false, false, false, 0), 0, chk zs) := by rw [wkd, if_neg h]; rfl

set_option maxHeartbeats 4000000 in
theorem right_walk (v : Value) (zs : List Int) (root page : Int) (w : World) (h : Sl w v zs) :
    Calls Try.prog 10 #[.agg #[v], .int .i64 root, .int .i64 page] w fun e w' => e = .returned (.bool true) ∧ Below w.heap.size w w' := by
  obtain ⟨a0, c0, rfl⟩ := h.shape
  go_enter Try.func10, Try.ntmps10
  go_wp2_with fail
  refine (at64_in _ _).mono ?_
  rintro e w1 ⟨R, rfl, hR, rfl⟩
  go_wp2_with fail
  refine (at64_in _ _).mono ?_
  rintro e w1 ⟨P, rfl, hP, rfl⟩
  by_cases h0 : chk zs = 0
  rotate_left
  focus
    have hq : (chk zs != 0) = true := by simpa using h0
    go_wp2_with fail
    refine (walk_at (wkd_bad true h0) (h.keep (bel_alloc (Below.refl _ _) _))).mono ?_
    rintro e w1 ⟨rfl, b1⟩
    have J1 := (Blk.new w _ _ _).keep b1
    have B1 : Hid (Below w.heap.size w w1) := bel_trans (bel_alloc (Below.refl _ _) _) b1
    have l1 := J1.lt
    have d1 := J1.cell 0
    clear b1
    go_wp2_with fail
    refine (walk_at (wkd_bad false h0) (h.keep (bel_alloc B1.out _))).mono ?_
    rintro e w2 ⟨rfl, b2⟩
    have B2 : Hid (Below w.heap.size w w2) := bel_trans (bel_alloc B1.out _) b2
    clear b2 B1 J1 d1 l1
    go_wp2_with fail
    refine (walked_true _).mono ?_
    rintro e w3 ⟨rfl, b3⟩
    have B3 : Hid (Below w.heap.size w w3) := bel_trans (bel_alloc B2.out _) b3
    clear b3 B2
    go_wp2_with fail
    refine (walked_true _).mono ?_
    rintro e w4 ⟨rfl, b4⟩
    have B4 : Hid (Below w.heap.size w w4) := bel_trans B3.out b4
    clear b4 B3
    go_wp2
    go_ret
    exact ⟨rfl, B4.out⟩
  have ways := wkd_ways h0 ⟨hR, hP⟩
  clear h0 hR hP
  rcases ways with ⟨f, hf, hk⟩ | ⟨p, hk⟩ | ⟨p, hk, hk'⟩
  · have hq : (f == 0) = false := by simpa using hf
    have hq' : (f != 0) = true := by simpa using hf
    have HA : Hid _ := hk true
    have HB : Hid _ := hk false
    clear hk hf
    go_wp2_with fail
    refine (walk_at HA.out (h.keep (bel_alloc (Below.refl _ _) _))).mono ?_
    rintro e w1 ⟨rfl, b1⟩
    have J1 := (Blk.new w _ _ _).keep b1
    have B1 : Hid (Below w.heap.size w w1) := bel_trans (bel_alloc (Below.refl _ _) _) b1
    have l1 := J1.lt
    have d1 := J1.cell 0
    clear b1
    go_wp2_with fail
    refine (walk_at HB.out (h.keep (bel_alloc B1.out _))).mono ?_
    rintro e w2 ⟨rfl, b2⟩
    have K2 := (Blk.new w1 _ _ _).keep b2
    have B2 : Hid (Below w.heap.size w w2) := bel_trans (bel_alloc B1.out _) b2
    clear b2 B1 J1 d1 l1
    go_wp2_with fail
    refine (walked_true _).mono ?_
    rintro e w3 ⟨rfl, b3⟩
    have K3 := (K2.past _).keep b3
    have M3 := (Blk.new w2 _ _ _).keep b3
    have B3 : Hid (Below w.heap.size w w3) := bel_trans (bel_alloc B2.out _) b3
    clear b3 B2 K2
    obtain ⟨k0, k1, k2, k3, k4⟩ := K3.five
    obtain ⟨m0, m1, m2, m3, m4⟩ := M3.five
    clear K3 M3
    go_wp2
    go_ret
    exact ⟨rfl, B3.out⟩
  · have HA : Hid _ := hk true
    have HB : Hid _ := hk false
    clear hk
    go_wp2_with fail
    refine (walk_at HA.out (h.keep (bel_alloc (Below.refl _ _) _))).mono ?_
    rintro e w1 ⟨rfl, b1⟩
    have J1 := (Blk.new w _ _ _).keep b1
    have B1 : Hid (Below w.heap.size w w1) := bel_trans (bel_alloc (Below.refl _ _) _) b1
    have l1 := J1.lt
    have d1 := J1.cell 0
    clear b1
    go_wp2_with fail
    refine (walk_at HB.out (h.keep (bel_alloc B1.out _))).mono ?_
    rintro e w2 ⟨rfl, b2⟩
    have K2 := (Blk.new w1 _ _ _).keep b2
    have B2 : Hid (Below w.heap.size w w2) := bel_trans (bel_alloc B1.out _) b2
    clear b2 B1 J1 d1 l1
    go_wp2_with fail
    refine (walked_true _).mono ?_
    rintro e w3 ⟨rfl, b3⟩
    have K3 := (K2.past _).keep b3
    have M3 := (Blk.new w2 _ _ _).keep b3
    have B3 : Hid (Below w.heap.size w w3) := bel_trans (bel_alloc B2.out _) b3
    clear b3 B2 K2
    obtain ⟨k0, k1, k2, k3, k4⟩ := K3.five
    obtain ⟨m0, m1, m2, m3, m4⟩ := M3.five
    clear K3 M3
    go_wp2
    go_ret
    exact ⟨rfl, B3.out⟩
  · have HA : Hid _ := hk'
    have HB : Hid _ := hk
    clear hk hk'
    go_wp2_with fail
    refine (walk_at HA.out (h.keep (bel_alloc (Below.refl _ _) _))).mono ?_
    rintro e w1 ⟨rfl, b1⟩
    have J1 := (Blk.new w _ _ _).keep b1
    have B1 : Hid (Below w.heap.size w w1) := bel_trans (bel_alloc (Below.refl _ _) _) b1
    have l1 := J1.lt
    have d1 := J1.cell 0
    clear b1
    go_wp2_with fail
    refine (walk_at HB.out (h.keep (bel_alloc B1.out _))).mono ?_
    rintro e w2 ⟨rfl, b2⟩
    have K2 := (Blk.new w1 _ _ _).keep b2
    have B2 : Hid (Below w.heap.size w w2) := bel_trans (bel_alloc B1.out _) b2
    clear b2 B1 J1 d1 l1
    go_wp2_with fail
    refine (walked_true _).mono ?_
    rintro e w3 ⟨rfl, b3⟩
    have K3 := (K2.past _).keep b3
    have M3 := (Blk.new w2 _ _ _).keep b3
    have B3 : Hid (Below w.heap.size w w3) := bel_trans (bel_alloc B2.out _) b3
    clear b3 B2 K2
    obtain ⟨k0, k1, k2, k3, k4⟩ := K3.five
    obtain ⟨m0, m1, m2, m3, m4⟩ := M3.five
    clear K3 M3
    go_wp2
    go_ret
    exact ⟨rfl, B3.out⟩
end Go.Proofs.Ytnpgldcambbnhaa
