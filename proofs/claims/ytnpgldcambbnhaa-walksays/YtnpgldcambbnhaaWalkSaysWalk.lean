/-
  The walk of drawbridgelaw.WalkSays: it answers true, whatever memory, pages and right it is given; nothing that was there turns.
-/
import Derived.Test.YtnpgldcambbnhaaWalkedR
namespace Go.Proofs.Ytnpgldcambbnhaa
open Go.RowKit

theorem wkd_parts (zs : List Int) (root page : Int) (wr : Bool) : ∃ b r x l p f c, wkd zs root page wr = ((b, r, x, l, p), f, c) := ⟨_, _, _, _, _, _, _, rfl⟩
theorem walkedR_at {v : Value} {zs : List Int} {root page : Int} {wr : Bool} {w : World} {b r x l : Bool} {p f c : Int} (hk : wkd zs root page wr = ((b, r, x, l, p), f, c)) (h : Sl w v zs) (h0 : chk zs = 0) :
    Calls Try.prog 32 #[.agg #[v], .int .i64 root, .int .i64 page, .bool wr] w fun e w' => e = .returned (.tuple #[.agg #[.bool b, .bool r, .bool x, .bool l, .int .i64 p], .int .i64 f, .int .i64 c]) ∧ Below w.heap.size w w' := by
  refine (walkedR_any v zs root page wr w h h0).mono ?_
  rintro e w' ⟨⟨b', r', x', l', p', f', c', rfl, hk'⟩, hb⟩
  rw [hk] at hk'
  simp only [Prod.mk.injEq] at hk'
  obtain ⟨⟨rfl, rfl, rfl, rfl, rfl⟩, rfl, rfl⟩ := hk'
  exact ⟨rfl, hb⟩

set_option maxHeartbeats 4000000 in
theorem walkSays_walk (v : Value) (zs : List Int) (root page : Int) (wr : Bool) (w : World) (h : Sl w v zs) :
    Calls Try.prog 8 #[.agg #[v], .int .i64 root, .int .i64 page, .bool wr] w fun e w' => e = .returned (.bool true) ∧ Below w.heap.size w w' := by
  obtain ⟨a0, c0, rfl⟩ := h.shape
  by_cases h0 : chk zs = 0
  · obtain ⟨b, r, x, l, p, f, c, hk⟩ := wkd_parts zs root page wr
    have HK : Hid (wkd zs root page wr = ((b, r, x, l, p), f, c)) := hk
    clear hk
    go_enter Try.func8, Try.ntmps8
    go_wp2_with fail
    refine (walk_at HK.out (h.keep (bel_alloc (Below.refl _ _) _))).mono ?_
    rintro e w1 ⟨rfl, b1⟩
    have J1 := (Blk.new w _ _ _).keep b1
    have B1 : Hid (Below w.heap.size w w1) := bel_trans (bel_alloc (Below.refl _ _) _) b1
    have l1 := J1.lt
    have d1 := J1.cell 0
    clear b1
    go_wp2_with fail
    refine (checkMem_any _ zs _ (h.keep (bel_alloc B1.out _))).mono ?_
    rintro e w2 ⟨rfl, b2⟩
    rw [h0]
    have K2 := (Blk.new w1 _ _ _).keep b2
    have J2 := (J1.past _).keep b2
    have B2 : Hid (Below w.heap.size w w2) := bel_trans (bel_alloc B1.out _) b2
    clear b2 B1 J1 d1 l1
    go_wp2_with fail
    refine (walked_true _).mono ?_
    rintro e w3 ⟨rfl, b3⟩
    have K3 := K2.keep b3
    have J3 := J2.keep b3
    have B3 : Hid (Below w.heap.size w w3) := bel_trans B2.out b3
    have l3 := J3.lt
    have d3 := J3.cell 0
    clear b3 B2 K2 J2
    go_wp2_with fail
    refine (walkedR_at HK.out (h.keep B3.out) h0).mono ?_
    rintro e w4 ⟨rfl, b4⟩
    have K4 := K3.keep b4
    have B4 : Hid (Below w.heap.size w w4) := bel_trans B3.out b4
    clear b4 B3 K3 J3 d3 l3
    have l4 := K4.lt
    obtain ⟨k0, k1, k2, k3, k4⟩ := K4.five
    clear K4
    go_wp2
    go_ret
    exact ⟨rfl, bel_alloc B4.out _⟩
  · have HK : Hid (wkd zs root page wr = ((false, false, false, false, 0), 0, chk zs)) := by show _ = _; rw [wkd, if_neg h0]; rfl
    have hq : (chk zs != 0) = true := by simpa using h0
    go_enter Try.func8, Try.ntmps8
    go_wp2_with fail
    refine (walk_at HK.out (h.keep (bel_alloc (Below.refl _ _) _))).mono ?_
    rintro e w1 ⟨rfl, b1⟩
    have J1 := (Blk.new w _ _ _).keep b1
    have B1 : Hid (Below w.heap.size w w1) := bel_trans (bel_alloc (Below.refl _ _) _) b1
    have l1 := J1.lt
    have d1 := J1.cell 0
    clear b1
    go_wp2_with fail
    refine (checkMem_any _ zs _ (h.keep (bel_alloc B1.out _))).mono ?_
    rintro e w2 ⟨rfl, b2⟩
    have K2 := (Blk.new w1 _ _ _).keep b2
    have B2 : Hid (Below w.heap.size w w2) := bel_trans (bel_alloc B1.out _) b2
    clear b2 B1 J1 d1 l1
    go_wp2_with fail
    refine (walked_true _).mono ?_
    rintro e w3 ⟨rfl, b3⟩
    have K3 := K2.keep b3
    have B3 : Hid (Below w.heap.size w w3) := bel_trans B2.out b3
    clear b3 B2 K2
    go_wp2_with fail
    refine (walked_true _).mono ?_
    rintro e w4 ⟨rfl, b4⟩
    have K4 := K3.keep b4
    have B4 : Hid (Below w.heap.size w w4) := bel_trans B3.out b4
    clear b4 B3 K3
    have l4 := K4.lt
    obtain ⟨k0, k1, k2, k3, k4⟩ := K4.five
    clear K4
    go_wp2
    go_ret
    exact ⟨rfl, B4.out⟩
end Go.Proofs.Ytnpgldcambbnhaa
