/-
  The walk of drawbridgelaw.RingOrder: it answers true, whatever memory, ring and words it is given; nothing that was there turns.
-/
import Derived.Test.YtbnjckadgoofjaaOrderMath
import Derived.Test.YtbnjckadgoofjaaAppendI
import Derived.Test.YtbnjckadgoofjaaAt
import Derived.Test.YtbnjckadgoofjaaTurned
import Derived.Deep.RegionHeld3
namespace Go.Proofs.Ytbnjckadgoofjaa
open Go.RowKit

theorem Box.low {w w' : World} {n B : Nat} {t : TypeId} {cs : Array Value} (h : Box w n t cs) (hb : Below B w w') (hn : n < B) : Box w' n t cs := (hb.block n hn).trans h
theorem Box.grown {w w' : World} {n : Nat} {t : TypeId} {cs : Array Value} {row : Option Nat} (h : Box w n t cs) (hg : w.grownBy w' row) (hn : some n ≠ row) : Box w' n t cs := (hg.block n h.lt hn).trans h

theorem Box.other1 {w : World} {n m : Nat} {t : TypeId} {cs : Array Value} (h : Box w n t cs) (hp : n ≠ m) (u : Value) : Box (w.setCell ⟨m, 0, none⟩ u) n t cs := h.other (p := ⟨m, 0, none⟩) hp u
theorem boxS {w : World} {n : Nat} {t : TypeId} {a b c : Value} (h : Box w n t #[a, b, c]) : w.cell? ⟨n, 0, none⟩ = some a ∧ w.cell? ⟨n, 1, none⟩ = some b ∧ w.cell? ⟨n, 2, none⟩ = some c ∧ Box w n t #[a, b, c] := ⟨h.cell 0, h.cell 1, h.cell 2, h⟩

theorem OwnI.set1 {w : World} {base n : Nat} {v : Value} {l : List Int} (h : OwnI w base v l) {p : Addr} (hp : p.block = n) (hn : n < base) (u : Value) : OwnI (w.setCell p u) base v l :=
  h.keep fun k hk => heap_setCell_other w p k u (by have := h.base k hk; omega)
theorem OwnI.set3 {w : World} {base n : Nat} {v : Value} {l : List Int} (h : OwnI w base v l) (hn : n < base) (u0 u1 u2 : Value) :
    OwnI (((w.setCell ⟨n, 0, none⟩ u0).setCell ⟨n, 1, none⟩ u1).setCell ⟨n, 2, none⟩ u2) base v l :=
  ((h.set1 (p := ⟨n, 0, none⟩) rfl hn u0).set1 (p := ⟨n, 1, none⟩) rfl hn u1).set1 (p := ⟨n, 2, none⟩) rfl hn u2
theorem size_set3 (w : World) (n : Nat) (u0 u1 u2 : Value) : (((w.setCell ⟨n, 0, none⟩ u0).setCell ⟨n, 1, none⟩ u1).setCell ⟨n, 2, none⟩ u2).heap.size = w.heap.size := by simp [World.setCell]

theorem boxS2 {w : World} {d e : Nat} {t t' : TypeId} {v a b c : Value} (h : Box w d t #[v]) (k : Box w e t' #[a, b, c]) :
    w.cell? ⟨d, 0, none⟩ = some v ∧ w.cell? ⟨e, 0, none⟩ = some a ∧ w.cell? ⟨e, 1, none⟩ = some b ∧ w.cell? ⟨e, 2, none⟩ = some c ∧ Box w d t #[v] ∧ Box w e t' #[a, b, c] := ⟨h.cell 0, k.cell 0, k.cell 1, k.cell 2, h, k⟩

/-- What the rounds of the first loop keep. -/
def Rel1 (w : World) (B m k : Nat) (zs : List Int) (p h t : Int) (a0 : Option Addr) (c0 : Nat) (i : Nat) (v : Value) (w' : World) : Prop :=
  OwnI w' B v (wl zs p h i) ∧ Box w' m 28 #[.slice a0 zs.length c0] ∧ Box w' k 71 #[.int .i64 p, .int .i64 ((h + (i : Int)) % 8), .int .i64 t] ∧
  Box w' (w.heap.size + 1) 71 #[.int .i64 p, .int .i64 h, .int .i64 t] ∧ B ≤ w'.heap.size ∧ Below w.heap.size w w'

/-- What the rounds of the second loop keep. -/
def Rel2 (w : World) (B m k : Nat) (p h : Int) (ws zj : List Int) (aj : Option Addr) (cj : Nat) (v : Value) (w' : World) : Prop :=
  OwnI w' B v ws ∧ Box w' m 28 #[.slice aj zj.length cj] ∧ Box w' k 71 #[.int .i64 p, .int .i64 h, .int .i64 ((h + (ws.length : Int)) % 8)] ∧
  Sl w' (.slice aj zj.length cj) zj ∧ (∀ b, (Value.slice aj zj.length cj).ownBlock = some b → b ≠ m ∧ b ≠ k ∧ v.ownBlock ≠ some b) ∧ chk zj = 0 ∧ Lies zj p h ws ∧ ws.length ≤ 7 ∧ B ≤ w'.heap.size ∧ Below w.heap.size w w'

/-- What the rounds of the third loop keep. -/
def Rel3 (w : World) (m k : Nat) (p h kj : Int) (ws zj : List Int) (aj : Option Addr) (cj : Nat) (a8 : Option Addr) (c8 : Nat) (l : Nat) (w' : World) : Prop :=
  Box w' m 28 #[.slice aj zj.length cj] ∧ Box w' k 71 #[.int .i64 p, .int .i64 ((h + (l : Int)) % 8), .int .i64 kj] ∧
  Sl w' (.slice aj zj.length cj) zj ∧ Sl w' (.slice a8 ws.length c8) ws ∧ Below w.heap.size w w'

set_option maxHeartbeats 4000000 in
theorem order_walk (v : Value) (zs : List Int) (p h t : Int) (u : Value) (ls : List Int) (w : World) (hs : Sl w v zs) (hu : Slc w u ls) :
    Calls Try.prog 14 #[.agg #[v], .agg #[.int .i64 p, .int .i64 h, .int .i64 t], u] w fun e w' => e = .returned (.bool true) ∧ Below w.heap.size w w' := by
  obtain ⟨a0, c0, rfl⟩ := hs.shape
  obtain ⟨hu, a2, c2, rfl, hcap⟩ := hu
  have HS : Hid (Sl w (.slice a0 zs.length c0) zs) := hs
  have HU : Hid (Sl w (.slice a2 ls.length c2) ls) := hu
  have HC : Hid (ls.length ≤ c2 ∧ c2 ≤ maxLen) := hcap
  clear hs hu hcap
  go_enter Try.func14, Try.ntmps14
  go_wp2_with fail
  refine (turned_true _).mono ?_
  rintro e w1 ⟨rfl, b1⟩
  have X0 := (Box.newAt (n := w.heap.size) (by simp) 28 #[.slice a0 zs.length c0]).past (.cells #[.int .i64 p, .int .i64 h, .int .i64 t] 71) |>.keep b1
  have X1 := (Box.newAt (w := w.alloc (.cells #[.slice a0 zs.length c0] 28)) (n := w.heap.size + 1) (by simp) 71 #[.int .i64 p, .int .i64 h, .int .i64 t]) |>.keep b1
  have B1 : Hid (Below w.heap.size w w1) := bel_trans (bel_alloc (bel_alloc (Below.refl _ _) _) _) b1
  clear b1
  obtain ⟨q0, -, l0⟩ := X0.one
  obtain ⟨q1, q2, q3, -, -, -, l1⟩ := X1.three
  go_wp2_with fail
  refine (check_any _ zs _ (HS.out.keep B1.out)).mono ?_
  rintro e w2 ⟨rfl, b2⟩
  have X0 := X0.keep b2
  have X1 := X1.keep b2
  have B2 : Hid (Below w.heap.size w w2) := bel_trans B1.out b2
  clear b2 B1 q0 q1 q2 q3 l0 l1
  obtain ⟨q0, -, l0⟩ := X0.one
  obtain ⟨q1, q2, q3, -, -, -, l1⟩ := X1.three
  by_cases hz : chk zs = 0
  rotate_left
  · have hq : (chk zs != 0) = true := by simpa using hz
    go_wp2_with fail
    refine (turned_true _).mono ?_
    rintro e w3 ⟨rfl, b3⟩
    go_wp2
    go_ret
    exact ⟨rfl, bel_trans B2.out b3⟩
  rw [hz]
  go_wp2_with fail
  refine (rCheck_any p h t _).mono ?_
  rintro e w3 ⟨rfl, rfl⟩
  by_cases hr : chkR p h t = 0
  rotate_left
  · have hq : (chkR p h t != 0) = true := by simpa using hr
    go_wp2_with fail
    refine (turned_true _).mono ?_
    rintro e w3 ⟨rfl, b3⟩
    go_wp2
    go_ret
    exact ⟨rfl, bel_trans (bel_alloc B2.out _) b3⟩
  rw [hr]
  have HZ : Hid (chk zs = 0) := hz
  have HR : Hid (chkR p h t = 0) := hr
  obtain ⟨rp, rh, rt⟩ := chkR_ok hr
  have Rp : Hid (0 ≤ p ∧ p < 64) := pageR_in rp
  have Rh : Hid (0 ≤ h ∧ h < 8) := stepR_in rh
  have Rt : Hid (0 ≤ t ∧ t < 8) := stepR_in rt
  have RP : Hid (pageR p = true) := rp
  have RH : Hid (stepR h = true) := rh
  have RT : Hid (stepR t = true) := rt
  clear hz hr rp rh rt
  have X0 := X0.past (ringB p h t)
  have X1 := X1.past (ringB p h t)
  have B3 : Hid (Below w.heap.size w (w2.alloc (ringB p h t))) := bel_alloc B2.out _
  generalize w2.alloc (ringB p h t) = w3 at *
  clear B2 q0 q1 q2 q3 l0 l1
  obtain ⟨q0, -, l0⟩ := X0.one
  obtain ⟨q1, q2, q3, -, -, -, l1⟩ := X1.three
  go_wp2_with fail
  refine (length_any p h t _ Rh.out Rt.out).mono ?_
  rintro e w4 ⟨rfl, rfl⟩
  have X0 := X0.past (ringB p h t)
  have X1 := X1.past (ringB p h t)
  have B4 : Hid (Below w.heap.size w (w3.alloc (ringB p h t))) := bel_alloc B3.out _
  obtain ⟨n, hn⟩ : ∃ n : Nat, lenR h t = n := ⟨(lenR h t).toNat, by have := lenR_in h t; omega⟩
  have hn8 : n < 8 := by have := lenR_in h t; omega
  have HT : Hid ((h + (n : Int)) % 8 = t) := by show _ = _; have := step_tail (h := h) Rt.out; rw [hn] at this; simpa using this
  have HN : Hid (lenR h t = n) := hn
  rw [hn]
  clear hn
  generalize w3.alloc (ringB p h t) = W at *
  clear B3 q0 q1 q2 q3 l0 l1
  obtain ⟨q0, -, l0⟩ := X0.one
  obtain ⟨q1, q2, q3, -, -, -, l1⟩ := X1.three
  go_upto_region 5 with fail
  go_cut [9, 10] from 42 to 43 (fun s y wx => ∃ m k, s = .pointer (some ⟨m, 0, none⟩) ∧ y = .pointer (some ⟨k, 0, none⟩) ∧ Box wx m 28 #[.slice a0 zs.length c0] ∧ Box wx k 71 #[.int .i64 p, .int .i64 h, .int .i64 t] ∧ m ≠ k ∧ W.heap.size ≤ m ∧ W.heap.size ≤ k ∧ Below W.heap.size W wx)
  case first =>
    go_region
    · go_wp2_with fail
      go_meet
      exact ⟨_, _, rfl, rfl, ((Box.newAt rfl _ _).past _).drew, (Box.newAt (by simp) _ _).drew, by omega, Nat.le_refl _, by omega, Below.drew (bel_alloc (bel_alloc (Below.refl _ _) _) _)⟩
    · go_wp2_with fail
      go_meet
      exact ⟨_, _, rfl, rfl, (Box.newAt (by simp) _ _).drew, ((Box.newAt rfl _ _).past _).drew, by omega, by omega, Nat.le_refl _, Below.drew (bel_alloc (bel_alloc (Below.refl _ _) _) _)⟩
  case rest =>
    obtain ⟨m, k, rfl, rfl, XM, XK, hmk, hm, hk, Bc⟩ := hcut
    obtain ⟨wA, rfl⟩ : ∃ wA, wA = wc := ⟨wc, rfl⟩
    have X1 := X1.keep Bc
    have BC : Hid (Below w.heap.size w wA) := bel_trans B4.out Bc
    have hw1 : w.heap.size + 1 < wA.heap.size := X1.lt
    have hmc : m < wA.heap.size := XM.lt
    have hkc : k < wA.heap.size := XK.lt
    have hkw : w.heap.size + 1 < k := by omega
    have hmw : w.heap.size + 1 < m := by omega
    clear Bc B4 X0 q0 q1 q2 q3 l0 l1
    go_wp2
    go_loopw [8, 11, 12, 13, 45] (fun v8 _ _ _ i45 w' => ∃ i : Nat, i ≤ n ∧ i45 = .int .i64 i ∧ Rel1 w wA.heap.size m k zs p h t a0 c0 i v8 w') (fun _ _ _ _ i45 _ => n - (intOf i45).toNat)
    case atStart =>
      refine ⟨0, Nat.zero_le _, rfl, OwnI.nothing _ _, XM, ?_, X1, Nat.le_refl _, BC.out⟩
      rw [step_zero Rh.out]
      exact XK
    case round =>
      obtain ⟨i, hi, rfl, hO, XM, XK, X1, hB, Br⟩ := hrel
      obtain ⟨a8, c8, rfl⟩ := hO.shape
      have HO : Hid (OwnI wr wA.heap.size (.slice a8 i c8) (wl zs p h i)) := by show OwnI _ _ _ _; have := hO; rwa [wl_len] at this
      rw [wl_len]
      have HBr : Hid (Below w.heap.size w wr) := Br
      clear hO Br
      obtain ⟨q0, -, l0⟩ := XM.one
      obtain ⟨kk, hkk⟩ : ∃ kk, (h + (i : Int)) % 8 = kk := ⟨_, rfl⟩
      rw [hkk] at XK
      have HK : Hid ((h + (i : Int)) % 8 = kk) := hkk
      clear hkk
      obtain ⟨q1, q2, q3, f1, f2, f3, l1⟩ := XK.three
      have RK : Hid (stepR kk = true) := by show _ = _; rw [← HK.out]; exact step_in h i
      by_cases hlt : i < n
      · have hlt1 : (i : Int) < n := by omega
        obtain ⟨k2, hk2⟩ : ∃ k2, (kk + 1) % 8 = k2 := ⟨_, rfl⟩
        have HK2 : Hid ((h + ((i + 1 : Nat) : Int)) % 8 = k2) := by show _ = _; rw [← step_next, HK.out, hk2]
        obtain ⟨y, hy⟩ : ∃ y, nth zs (p * 8 + kk).toNat = y := ⟨_, rfl⟩
        have HY : Hid (wl zs p h (i + 1) = wl zs p h i ++ [y]) := by show _ = _; rw [wl_succ, ← stp_place, HK.out, hy]
        have CP := pop_ok (p := p) (h := kk) (t := t) (HS.out.keep HBr.out) HZ.out (chkR_mk RP.out RK.out RT.out) (by rw [← HK.out, ← HT.out]; exact step_ne hlt hn8)
        rw [hy, hk2] at CP
        clear hy hk2
        go_wp2_with fail
        refine CP.mono ?_
        rintro e w5 ⟨rfl, b5⟩
        clear CP q0 q1 q2 q3 f1 f2 f3 l0 l1
        have XM := XM.keep b5
        have XK := XK.keep b5
        have X1 := X1.keep b5
        have HO5 : Hid (OwnI w5 wA.heap.size (.slice a8 i c8) (wl zs p h i)) := HO.out.keep fun k hk => b5.block k (HO.out.lt k hk)
        have HB5 : Hid (Below w.heap.size w w5) := bel_trans HBr.out b5
        have hB5 : wA.heap.size ≤ w5.heap.size := Nat.le_trans hB b5.size
        clear b5 HO HBr hB
        have XD := Box.newAt (w := w5) (n := w5.heap.size) rfl 71 #[.int .i64 p, .int .i64 k2, .int .i64 t]
        have XM := XM.past (.cells #[.int .i64 p, .int .i64 k2, .int .i64 t] 71)
        have XK := XK.past (.cells #[.int .i64 p, .int .i64 k2, .int .i64 t] 71)
        have X1 := X1.past (.cells #[.int .i64 p, .int .i64 k2, .int .i64 t] 71)
        have HO6 : Hid (OwnI (w5.alloc (.cells #[.int .i64 p, .int .i64 k2, .int .i64 t] 71)) wA.heap.size (.slice a8 i c8) (wl zs p h i)) := HO5.out.alloc _
        have HB6 : Hid (Below w.heap.size w (w5.alloc (.cells #[.int .i64 p, .int .i64 k2, .int .i64 t] 71))) := bel_alloc HB5.out _
        have hDr : some w5.heap.size ≠ (Value.slice a8 i c8).ownBlock := fun e => absurd (HO5.out.lt _ e.symm) (Nat.lt_irrefl _)
        have hDk : w5.heap.size ≠ k := by omega
        go_upto_region 11 with fail
        generalize hW6 : w5.alloc (.cells #[.int .i64 p, .int .i64 k2, .int .i64 t] 71) = W6 at *
        have hB6 : wA.heap.size ≤ W6.heap.size := by rw [← hW6]; simp; omega
        clear hW6 HO5 HB5 hB5
        generalize w5.heap.size = D at *
        obtain ⟨q1, q2, q3, f1, f2, f3, l1⟩ := XK.three
        obtain ⟨d1, d2, d3, -, -, -, l2⟩ := XD.three
        go_region_held3 (fun w' => w'.cell? ⟨D, 0, none⟩ = some (.int .i64 p) ∧ w'.cell? ⟨D, 1, none⟩ = some (.int .i64 k2) ∧ w'.cell? ⟨D, 2, none⟩ = some (.int .i64 t) ∧ Box w' D 71 #[.int .i64 p, .int .i64 k2, .int .i64 t])
          (with_reducible refine boxS ?_; (repeat (first | with_reducible exact XD | with_reducible refine Box.drew ?_ | with_reducible refine Box.past ?_ _ | (with_reducible refine Box.grown ?_ (by assumption) (by assumption)) | (with_reducible refine Box.other3 ?_ (by assumption) _ _ _))))
          (first
            | (refine step_append_I rfl (.tmp 56) (.tmp 58) rfl wA.heap.size (.slice a8 i c8) (.slice (some ⟨_, 0, none⟩) 1 1) (wl zs p h i) [y] rfl rfl ?_ ?_ ?_ ?_ (by simp) ?_; (focus (exact (HO6.out.drew).alloc _)); (focus (exact sl_oneAt (by simp) _ _)); (focus (rw [wl_len]; simp; omega)); (focus (simp; omega)); intro g4 c4 w7 hown hgr hbel hat; have XK7 := (XK.drew.past _).low hbel hkc; obtain ⟨i1, i2, i3, j1, j2, j3, l3⟩ := XK7.three))
        rename_i hH
        clear hH
        have hl7 : (wl zs p h i ++ [y]).length = i + 1 := by rw [← HY.out, wl_len]
        rw [hl7, ← HY.out] at hown
        have s7 := hbel.size
        have HREL : Hid (Rel1 w wA.heap.size m k zs p h t a0 c0 (i + 1) (.slice (some ⟨g4, 0, none⟩) (i + 1) c4) (((w7.setCell ⟨k, 0, none⟩ (.int .i64 p)).setCell ⟨k, 1, none⟩ (.int .i64 k2)).setCell ⟨k, 2, none⟩ (.int .i64 t))) := by
          refine ⟨hown.set3 hkc _ _ _, (((XM.drew.past _).low hbel hmc).other3 hmk _ _ _), ?_, (((X1.drew.past _).low hbel hw1).other3 (by omega) _ _ _), ?_, ?_⟩
          · rw [HK2.out]; exact XK7.set3 _ _ _
          · rw [size_set3]; simp at s7; omega
          · exact bel_set3 (by omega) ((bel_alloc HB6.out _).drew.trans (hbel.mono (by omega))) _ _ _
        rw [wl_len]
        clear hown hgr hbel hat XK7 i1 i2 i3 j1 j2 j3 l3 s7 hl7 HO6 HB6 XM XK X1 XD q1 q2 q3 f1 f2 f3 l1 d1 d2 d3 l2
        go_wp2
        exact ⟨⟨i + 1, by omega, by go_num, HREL.out⟩, by simp [intOf]; omega⟩
      · obtain rfl : i = n := by omega
        have hge : ¬ (i : Int) < i := by omega
        have HKT : kk = t := by rw [← HK.out]; exact HT.out
        subst HKT
        have CP := pop_none (p := p) (h := kk) (HS.out.keep HBr.out) HZ.out (chkR_mk RP.out RK.out RK.out)
        go_wp2_with fail
        refine CP.mono ?_
        rintro e w5 ⟨rfl, b5⟩
        clear CP q0 q1 q2 q3 f1 f2 f3 l0 l1
        have XM := XM.keep b5
        have XK := XK.keep b5
        have X1 := X1.keep b5
        have HO5 : Hid (OwnI w5 wA.heap.size (.slice a8 i c8) (wl zs p h i)) := HO.out.keep fun k hk => b5.block k (HO.out.lt k hk)
        have HB5 : Hid (Below w.heap.size w w5) := bel_trans HBr.out b5
        have hB5 : wA.heap.size ≤ w5.heap.size := Nat.le_trans hB b5.size
        clear b5 HO HBr hB hge
        obtain ⟨q1, q2, q3, f1, f2, f3, l1⟩ := XK.three
        obtain ⟨d1, d2, d3, -, -, -, l2⟩ := X1.three
        have XM := (XM.other3 hmk (.int .i64 p) (.int .i64 h) (.int .i64 kk)).past (.cells #[.int .i64 0, .int .i64 0, .int .i64 0] 71)
        have XK := (XK.set3 (.int .i64 p) (.int .i64 h) (.int .i64 kk)).past (.cells #[.int .i64 0, .int .i64 0, .int .i64 0] 71)
        have HO8 : Hid (OwnI ((((w5.setCell ⟨k, 0, none⟩ (.int .i64 p)).setCell ⟨k, 1, none⟩ (.int .i64 h)).setCell ⟨k, 2, none⟩ (.int .i64 kk)).alloc (.cells #[.int .i64 0, .int .i64 0, .int .i64 0] 71)) wA.heap.size (.slice a8 i c8) (wl zs p h i)) := (HO5.out.set3 hkc _ _ _).alloc _
        have HB8 : Hid (Below w.heap.size w ((((w5.setCell ⟨k, 0, none⟩ (.int .i64 p)).setCell ⟨k, 1, none⟩ (.int .i64 h)).setCell ⟨k, 2, none⟩ (.int .i64 kk)).alloc (.cells #[.int .i64 0, .int .i64 0, .int .i64 0] 71))) := bel_alloc (bel_set3 (by omega) HB5.out _ _ _) _
        have hB8 : wA.heap.size ≤ ((((w5.setCell ⟨k, 0, none⟩ (.int .i64 p)).setCell ⟨k, 1, none⟩ (.int .i64 h)).setCell ⟨k, 2, none⟩ (.int .i64 kk)).alloc (.cells #[.int .i64 0, .int .i64 0, .int .i64 0] 71)).heap.size := by rw [World.size_alloc, size_set3]; omega
        go_upto_region 17 with fail
        clear q1 q2 q3 f1 f2 f3 l1 d1 d2 d3 l2 HO5 HB5 hB5 X1
        generalize ((((w5.setCell ⟨k, 0, none⟩ (.int .i64 p)).setCell ⟨k, 1, none⟩ (.int .i64 h)).setCell ⟨k, 2, none⟩ (.int .i64 kk)).alloc (.cells #[.int .i64 0, .int .i64 0, .int .i64 0] 71)) = W8 at *
        go_cut [76, 77, 78] from 72 to 75 (fun x y z wx => ∃ (q : Nat) (b : Option Addr) (c : Nat), x = .slice b q c ∧ y = .int .i64 q ∧ z = .int .i64 0 ∧ q ≤ ls.length ∧ q ≤ 12 ∧ (q = 0 ∨ b = a2) ∧ wx = W8)
        case first =>
          have hcc := HC.out
          unfold maxLen at hcc
          by_cases hl0 : ls.length = 0
          · obtain rfl : ls = [] := List.eq_nil_of_length_eq_zero hl0
            cases a2 with
            | none =>
              go_wp2
              go_meet
              exact ⟨0, _, _, rfl, rfl, rfl, Nat.zero_le _, by omega, .inl rfl, rfl⟩
            | some ad =>
              by_cases hc0 : c2 = 0
              · subst hc0
                go_wp2
                go_meet
                exact ⟨0, _, _, rfl, rfl, rfl, Nat.zero_le _, by omega, .inl rfl, rfl⟩
              · go_wp2
                go_meet
                exact ⟨0, _, _, rfl, rfl, rfl, Nat.zero_le _, by omega, .inl rfl, rfl⟩
          · obtain ⟨b2, o2, rfl⟩ : ∃ b o, a2 = some ⟨b, o, none⟩ := by
              obtain ⟨a, c, e, _, hh⟩ := HU.out
              simp only [Value.slice.injEq] at e
              obtain ⟨rfl, _, rfl⟩ := e
              rcases hh with rfl | ⟨b, o, rfl, _⟩
              · exact absurd rfl hl0
              · exact ⟨b, o, rfl⟩
            have hc0 : ¬ c2 = 0 := by omega
            by_cases h12 : ls.length ≤ 12
            · have h12' : (ls.length : Int) ≤ 12 := by omega
              have hcl : (ls.length : Int) ≤ c2 := by omega
              go_wp2
              go_meet
              exact ⟨ls.length, _, _, rfl, rfl, rfl, Nat.le_refl _, h12, .inr rfl, rfl⟩
            · have h12' : ¬ (ls.length : Int) ≤ 12 := by omega
              have h12'' : (12 : Int) < ls.length := by omega
              have hcl : (12 : Int) ≤ c2 := by omega
              go_wp2
              go_meet
              exact ⟨12, _, _, rfl, rfl, rfl, by omega, Nat.le_refl _, .inr rfl, rfl⟩
        case rest =>
          obtain ⟨q, b9, c9, rfl, rfl, rfl, hq, hq12, hqb, rfl⟩ := hcut
          have HQ : Hid (q ≤ ls.length ∧ q ≤ 12 ∧ (q = 0 ∨ b9 = a2)) := ⟨hq, hq12, hqb⟩
          clear hq hq12 hqb HC
          have HI : Hid (i < 8 ∧ (h + (i : Int)) % 8 = kk) := ⟨hn8, HK.out⟩
          go_wp2
          go_loopw [8, 18, 19, 20, 21, 78] (fun v8 _ _ _ _ j78 w' => ∃ (j : Nat) (ws zj : List Int) (aj : Option Addr) (cj : Nat), j ≤ q ∧ j78 = .int .i64 j ∧ Rel2 w wA.heap.size m k p h ws zj aj cj v8 w') (fun _ _ _ _ _ j78 _ => q - (intOf j78).toNat)
          case atStart =>
            refine ⟨0, wl zs p h i, zs, a0, c0, Nat.zero_le _, rfl, HO8.out, XM, ?_, HS.out.keep HB8.out, ?_, HZ.out, wl_lies _ _ _ _, by rw [wl_len]; omega, hB8, HB8.out⟩
            · rw [wl_len, HK.out]; exact XK
            · obtain ⟨b', o', c', e', hb', _⟩ := HS.out.open512 (chk_ok HZ.out).1
              simp only [Value.slice.injEq] at e'
              obtain ⟨rfl, _, rfl⟩ := e'
              intro b hb
              simp [Value.ownBlock] at hb
              subst hb
              exact ⟨by omega, by omega, fun e => absurd (HO8.out.base _ e) (by omega)⟩
          case round =>
            clear XM XK HO8 HB8 hB8
            obtain ⟨j, ws, zj, aj, cj, hj, rfl, hO, XM, XK, hSj, hap, hzj, hly, h7, hB, Br⟩ := hrel
            obtain ⟨a8, c8, rfl⟩ := hO.shape
            have HO : Hid (OwnI wr wA.heap.size (.slice a8 ws.length c8) ws) := hO
            have HBr : Hid (Below w.heap.size w wr) := Br
            have HSj : Hid (Sl wr (.slice aj zj.length cj) zj) := hSj
            have HAP : Hid (∀ b, (Value.slice aj zj.length cj).ownBlock = some b → b ≠ m ∧ b ≠ k ∧ (Value.slice a8 ws.length c8).ownBlock ≠ some b) := hap
            have HZJ : Hid (chk zj = 0) := hzj
            have HLY : Hid (Lies zj p h ws) := hly
            clear hO Br hSj hap hzj hly
            obtain ⟨kj, hkj⟩ : ∃ kj, (h + (ws.length : Int)) % 8 = kj := ⟨_, rfl⟩
            rw [hkj] at XK
            have HKJ : Hid ((h + (ws.length : Int)) % 8 = kj) := hkj
            clear hkj
            have RKJ : Hid (stepR kj = true) := by show _ = _; rw [← HKJ.out]; exact step_in h _
            obtain ⟨q0, m0, l0⟩ := XM.one
            obtain ⟨q1, q2, q3, f1, f2, f3, l1⟩ := XK.three
            by_cases hlt : j < q
            · have hlt1 : (j : Int) < q := by omega
              obtain ⟨b2, o2, he2, hc2⟩ : ∃ b o, b9 = some ⟨b, o, none⟩ ∧ wr.cell? ⟨b, o + j, none⟩ = some (.int .i64 (nth ls j)) := by
                obtain ⟨g1, g2, g3⟩ := HQ.out
                obtain ⟨a, c, e, _, hh⟩ := HU.out.keep HBr.out
                simp only [Value.slice.injEq] at e
                obtain ⟨rfl, _, rfl⟩ := e
                rcases hh with hh | ⟨b, o, rfl, hb, hc⟩
                · rw [hh] at g1; simp at g1; omega
                · rcases g3 with g3 | g3
                  · omega
                  · exact ⟨b, o, g3, hc j (by omega)⟩
              subst he2
              generalize nth ls j = x0 at *
              have hq12 : q ≤ 12 := HQ.out.2.1
              go_wp2_with fail
              refine (at65536_in _ _).mono ?_
              rintro e wr ⟨X, rfl, hX, rfl⟩
              have HLJ : Hid (lenR h kj = ws.length) := by show _ = _; rw [← HKJ.out]; exact len_steps (by omega)
              by_cases hf : ws.length = 7
              · have CP := push_full (p := p) (h := h) (t := kj) (x := X) HSj.out HZJ.out (chkR_mk RP.out RH.out RKJ.out) hX (by rw [HLJ.out, hf]; rfl)
                have hf1 : ¬ (ws.length : Int) < 7 := by omega
                clear hf
                go_wp2_with fail
                refine CP.mono ?_
                rintro e w5 ⟨a5, c5, rfl, b5⟩
                clear CP
                have XM := ((XM.keep b5).past (.cells #[.slice a5 0 c5] 28)).past (.cells #[.int .i64 0, .int .i64 0, .int .i64 0] 71)
                have XK := ((XK.keep b5).past (.cells #[.slice a5 0 c5] 28)).past (.cells #[.int .i64 0, .int .i64 0, .int .i64 0] 71)
                have HO5 : Hid (OwnI w5 wA.heap.size (.slice a8 ws.length c8) ws) := HO.out.keep fun k hk => b5.block k (HO.out.lt k hk)
                have HREL : Hid (Rel2 w wA.heap.size m k p h ws zj aj cj (.slice a8 ws.length c8) ((w5.alloc (.cells #[.slice a5 0 c5] 28)).alloc (.cells #[.int .i64 0, .int .i64 0, .int .i64 0] 71))) := by
                  refine ⟨(HO5.out.alloc _).alloc _, XM, by rw [HKJ.out]; exact XK, (HSj.out.keep b5).keep (bel_alloc (bel_alloc (Below.refl _ _) _) _), HAP.out, HZJ.out, HLY.out, h7, ?_, bel_alloc (bel_alloc (bel_trans HBr.out b5) _) _⟩
                  have := b5.size; simp; omega
                clear b5 HO HBr HSj HAP HZJ HLY q0 q1 q2 q3 f1 f2 f3 l0 l1 m0 hc2
                go_wp2
                exact ⟨⟨j + 1, ws, zj, aj, cj, by omega, by go_num, HREL.out⟩, by simp [intOf]; omega⟩
              · have hf1 : (ws.length : Int) < 7 := by omega
                obtain ⟨zn, hzn⟩ : ∃ zn, zj.set (p * 8 + kj).toNat X = zn := ⟨_, rfl⟩
                obtain ⟨kn, hkn⟩ : ∃ kn, (kj + 1) % 8 = kn := ⟨_, rfl⟩
                have CP := push_ok (p := p) (h := h) (t := kj) (x := X) HSj.out HZJ.out (chkR_mk RP.out RH.out RKJ.out) hX (by rw [HLJ.out]; omega)
                rw [hzn, hkn] at CP
                have HKN : Hid ((h + ((ws ++ [X]).length : Int)) % 8 = kn) := by show _ = _; rw [List.length_append, ← hkn, ← HKJ.out]; simp; omega
                have HZN : Hid (chk zn = 0) := by show _ = _; rw [← hzn]; exact chk_set HZJ.out hX
                have HLN : Hid (Lies zn p h (ws ++ [X])) := by
                  show Lies _ _ _ _
                  have := lies_push (x := X) (chk_ok HZJ.out).1 Rp.out (by omega) HLY.out
                  rw [← hzn, ← HKJ.out]; exact this
                clear hzn hkn hX HLY HZJ HLJ
                go_wp2_with fail
                refine CP.mono ?_
                rintro e w5 ⟨v5, rfl, h5, n5, b5⟩
                obtain ⟨a5, c5, rfl⟩ := h5.shape
                clear CP q0 q1 q2 q3 f1 f2 f3 l0 l1 m0 hc2
                have XM := ((XM.keep b5).past (.cells #[.slice a5 zn.length c5] 28)).past (.cells #[.int .i64 p, .int .i64 h, .int .i64 kn] 71)
                have XK := ((XK.keep b5).past (.cells #[.slice a5 zn.length c5] 28)).past (.cells #[.int .i64 p, .int .i64 h, .int .i64 kn] 71)
                have XD := (Box.newAt (w := w5) (n := w5.heap.size) rfl 28 #[.slice a5 zn.length c5]).past (.cells #[.int .i64 p, .int .i64 h, .int .i64 kn] 71)
                have XE := Box.newAt (w := w5.alloc (.cells #[.slice a5 zn.length c5] 28)) (n := w5.heap.size + 1) (by simp) 71 #[.int .i64 p, .int .i64 h, .int .i64 kn]
                have HO5 : Hid (OwnI ((w5.alloc (.cells #[.slice a5 zn.length c5] 28)).alloc (.cells #[.int .i64 p, .int .i64 h, .int .i64 kn] 71)) wA.heap.size (.slice a8 ws.length c8) ws) := ((HO.out.keep fun k hk => b5.block k (HO.out.lt k hk)).alloc _).alloc _
                have HB5 : Hid (Below w.heap.size w ((w5.alloc (.cells #[.slice a5 zn.length c5] 28)).alloc (.cells #[.int .i64 p, .int .i64 h, .int .i64 kn] 71))) := bel_alloc (bel_alloc (bel_trans HBr.out b5) _) _
                have H5 : Hid (Sl ((w5.alloc (.cells #[.slice a5 zn.length c5] 28)).alloc (.cells #[.int .i64 p, .int .i64 h, .int .i64 kn] 71)) (.slice a5 zn.length c5) zn) := h5.keep (bel_alloc (bel_alloc (Below.refl _ _) _) _)
                have s5 := b5.size
                have HN5 : Hid (∀ b, (Value.slice a5 zn.length c5).ownBlock = some b → wr.heap.size ≤ b ∧ b < w5.heap.size) := by
                  intro b hb
                  refine ⟨n5 b hb, ?_⟩
                  obtain ⟨a', c', e', _, hh⟩ := h5
                  simp only [Value.slice.injEq] at e'
                  obtain ⟨rfl, _, rfl⟩ := e'
                  rcases hh with hh | ⟨b', o', rfl, hb', _⟩
                  · exact absurd (chk_ok HZN.out).1 (by rw [hh]; decide)
                  · simp [Value.ownBlock] at hb; omega
                have HRO : Hid (∀ b, (Value.slice a8 ws.length c8).ownBlock = some b → wA.heap.size ≤ b ∧ b < wr.heap.size) := fun b hb => ⟨HO.out.base b hb, HO.out.lt b hb⟩
                have hDm : w5.heap.size ≠ m := by omega
                have hDk : w5.heap.size ≠ k := by omega
                have hEm : w5.heap.size + 1 ≠ m := by omega
                have hEk : w5.heap.size + 1 ≠ k := by omega
                have hDr : some w5.heap.size ≠ (Value.slice a8 ws.length c8).ownBlock := fun e => absurd (HRO.out _ e.symm).2 (by omega)
                have hEr : some (w5.heap.size + 1) ≠ (Value.slice a8 ws.length c8).ownBlock := fun e => absurd (HRO.out _ e.symm).2 (by omega)
                clear b5 h5 n5 HO HBr HSj HAP
                go_upto_region 25 with fail
                generalize hW6 : (w5.alloc (.cells #[.slice a5 zn.length c5] 28)).alloc (.cells #[.int .i64 p, .int .i64 h, .int .i64 kn] 71) = W6 at *
                have hB6 : w5.heap.size + 1 < W6.heap.size := by rw [← hW6]; simp
                clear hW6
                generalize hE : w5.heap.size + 1 = E at *
                generalize hD : w5.heap.size = D at *
                obtain ⟨q0, m0, l0⟩ := XM.one
                obtain ⟨q1, q2, q3, f1, f2, f3, l1⟩ := XK.three
                obtain ⟨d0, -, l3⟩ := XD.one
                obtain ⟨d1, d2, d3, -, -, -, l2⟩ := XE.three
                go_region_held3 (fun w' => w'.cell? ⟨D, 0, none⟩ = some (.slice a5 zn.length c5) ∧ w'.cell? ⟨E, 0, none⟩ = some (.int .i64 p) ∧ w'.cell? ⟨E, 1, none⟩ = some (.int .i64 h) ∧ w'.cell? ⟨E, 2, none⟩ = some (.int .i64 kn) ∧ Box w' D 28 #[.slice a5 zn.length c5] ∧ Box w' E 71 #[.int .i64 p, .int .i64 h, .int .i64 kn])
                  (with_reducible refine boxS2 ?_ ?_; (focus (repeat (first | with_reducible exact XD | with_reducible exact XE | with_reducible refine Box.drew ?_ | with_reducible refine Box.past ?_ _ | (with_reducible refine Box.grown ?_ (by assumption) (by assumption)) | (with_reducible refine Box.other3 ?_ (by assumption) _ _ _) | (with_reducible refine Box.other1 ?_ (by assumption) _)))); (focus (repeat (first | with_reducible exact XD | with_reducible exact XE | with_reducible refine Box.drew ?_ | with_reducible refine Box.past ?_ _ | (with_reducible refine Box.grown ?_ (by assumption) (by assumption)) | (with_reducible refine Box.other3 ?_ (by assumption) _ _ _) | (with_reducible refine Box.other1 ?_ (by assumption) _)))))
                  (first
                    | (refine step_append_I rfl (.tmp 102) (.tmp 104) rfl wA.heap.size (.slice a8 ws.length c8) (.slice (some ⟨_, 0, none⟩) 1 1) ws [X] rfl rfl ?_ ?_ ?_ ?_ (by simp) ?_; (focus (exact (HO5.out.drew).alloc _)); (focus (exact sl_oneAt (by simp) _ _)); (focus (simp; omega)); (focus (simp; omega)); intro g4 c4 w7 hown hgr hbel hat; have XM7 := (XM.drew.past _).low hbel hmc; have XK7 := (XK.drew.past _).low hbel hkc; obtain ⟨i0, j0, l4⟩ := XM7.one; obtain ⟨i1, i2, i3, j1, j2, j3, l5⟩ := XK7.three))
                rename_i hH
                clear hH
                have hl7 : (ws ++ [X]).length = ws.length + 1 := by simp
                rw [hl7] at hown
                have s7 := hbel.size
                have hblk : ∀ b, (Value.slice a5 zn.length c5).ownBlock = some b → b ≠ m ∧ b ≠ k := fun b hb => by
                  have := HN5.out b hb
                  exact ⟨by omega, by omega⟩
                have HREL : Hid (Rel2 w wA.heap.size m k p h (ws ++ [X]) zn a5 c5 (.slice (some ⟨g4, 0, none⟩) (ws.length + 1) c4) ((((w7.setCell ⟨m, 0, none⟩ (.slice a5 zn.length c5)).setCell ⟨k, 0, none⟩ (.int .i64 p)).setCell ⟨k, 1, none⟩ (.int .i64 h)).setCell ⟨k, 2, none⟩ (.int .i64 kn))) := by
                  refine ⟨(hown.set1 (p := ⟨m, 0, none⟩) rfl hmc _).set3 hkc _ _ _, (XM7.set1 _).other3 hmk _ _ _, ?_, ?_, ?_, HZN.out, HLN.out, ?_, ?_, ?_⟩
                  · rw [HKN.out]; exact (XK7.other1 (fun e => hmk e.symm) _).set3 _ _ _
                  · have h6 : Sl w7 (.slice a5 zn.length c5) zn := Sl.grown (H5.out.keep (Below.drew (bel_alloc (Below.refl _ _) _))) hgr (fun b hb e => by have := HN5.out b hb; have := HRO.out b e; omega)
                    refine Sl.setOther (Sl.setOther (Sl.setOther (Sl.setOther h6 ?_ _) ?_ _) ?_ _) ?_ _
                    · exact fun e => (hblk _ e).1 rfl
                    · exact fun e => (hblk _ e).2 rfl
                    · exact fun e => (hblk _ e).2 rfl
                    · exact fun e => (hblk _ e).2 rfl
                  · intro b hb
                    refine ⟨(hblk b hb).1, (hblk b hb).2, fun e => ?_⟩
                    simp [Value.ownBlock] at e
                    subst e
                    have h1 := HN5.out _ hb
                    rcases hat with h2 | h2
                    · have := HRO.out _ h2; omega
                    · simp at h2; omega
                  · rw [hl7]; omega
                  · rw [size_set3]; simp [World.setCell]; simp at s7; omega
                  · exact bel_set3 (by omega) (bel_set1 (by omega) ((bel_alloc HB5.out _).drew.trans (hbel.mono (by omega))) _) _ _ _
                clear hown hgr hbel hat XM7 XK7 i0 i1 i2 i3 j0 j1 j2 j3 l4 l5 s7 hl7 HO5 HB5 H5 HN5 HRO XM XK XD XE q0 q1 q2 q3 f1 f2 f3 l0 l1 d0 d1 d2 d3 l2 l3 m0 hblk
                go_wp2
                exact ⟨⟨j + 1, ws ++ [X], zn, a5, c5, by omega, by go_num, HREL.out⟩, by simp [intOf]; omega⟩
            · obtain rfl : j = q := by omega
              clear q0 q1 q2 q3 f1 f2 f3 l0 l1 m0
              have HOs : Hid (Sl wr (.slice a8 ws.length c8) ws) := HO.out.sl (by unfold maxLen; omega)
              have hge : ¬ (j : Int) < j := by omega
              have HRB : Hid (∀ b, (Value.slice a8 ws.length c8).ownBlock = some b → b ≠ k) := fun b hb => by have := HO.out.base b hb; omega
              have HAB : Hid (∀ b, (Value.slice aj zj.length cj).ownBlock = some b → b ≠ k) := fun b hb => (HAP.out b hb).2.1
              clear HO HAP
              go_wp2
              go_loopw [23, 24, 25, 26, 109] (fun _ _ _ _ i109 w' => ∃ l : Nat, l ≤ ws.length ∧ i109 = .int .i64 l ∧ Rel3 w m k p h kj ws zj aj cj a8 c8 l w') (fun _ _ _ _ i109 _ => ws.length - (intOf i109).toNat)
              case atStart =>
                refine ⟨0, Nat.zero_le _, rfl, XM, ?_, HSj.out, HOs.out, HBr.out⟩
                rw [step_zero Rh.out]; exact XK
              case round =>
                clear XM XK HSj HOs HBr
                obtain ⟨l, hl, rfl, XM, XK, hSj, hOs, hBr⟩ := hrel
                have HSj : Hid (Sl wr (.slice aj zj.length cj) zj) := hSj
                have HOs : Hid (Sl wr (.slice a8 ws.length c8) ws) := hOs
                have HBr : Hid (Below w.heap.size w wr) := hBr
                clear hSj hOs hBr
                obtain ⟨hl', hhl⟩ : ∃ hl', (h + (l : Int)) % 8 = hl' := ⟨_, rfl⟩
                rw [hhl] at XK
                have HHL : Hid ((h + (l : Int)) % 8 = hl') := hhl
                clear hhl
                have RHL : Hid (stepR hl' = true) := by show _ = _; rw [← HHL.out]; exact step_in h l
                obtain ⟨q0, -, l0⟩ := XM.one
                obtain ⟨q1, q2, q3, f1, f2, f3, l1⟩ := XK.three
                by_cases hlw : l < ws.length
                · have hlw1 : (l : Int) < ws.length := by omega
                  obtain ⟨b2, o2, he2, hc2⟩ : ∃ b o, a8 = some ⟨b, o, none⟩ ∧ wr.cell? ⟨b, o + l, none⟩ = some (.int .i64 (nth ws l)) := by
                    obtain ⟨a, c, e, _, hh⟩ := HOs.out
                    simp only [Value.slice.injEq] at e
                    obtain ⟨rfl, _, rfl⟩ := e
                    rcases hh with hh | ⟨b, o, rfl, hb, hc⟩
                    · rw [hh] at hlw; simp at hlw
                    · exact ⟨b, o, rfl, hc l hlw⟩
                  subst he2
                  obtain ⟨hn', hhn⟩ : ∃ hn', (hl' + 1) % 8 = hn' := ⟨_, rfl⟩
                  have HHN : Hid ((h + ((l + 1 : Nat) : Int)) % 8 = hn') := by show _ = _; rw [← step_next, HHL.out, hhn]
                  have CP := pop_ok (p := p) (h := hl') (t := kj) HSj.out HZJ.out (chkR_mk RP.out RHL.out RKJ.out) (by rw [← HHL.out, ← HKJ.out]; exact step_ne hlw (by omega))
                  have hy : nth zj (p * 8 + hl').toNat = nth ws l := by rw [← HLY.out l hlw, ← HHL.out]; rfl
                  rw [hy, hhn] at CP
                  clear hy hhn
                  generalize nth ws l = y at *
                  go_wp2_with fail
                  refine CP.mono ?_
                  rintro e w5 ⟨rfl, b5⟩
                  clear CP q0 q1 q2 q3 f1 f2 f3 l0 l1 hc2
                  have XM := XM.keep b5
                  have XK := XK.keep b5
                  have HSj5 : Hid (Sl w5 (.slice aj zj.length cj) zj) := HSj.out.keep b5
                  have HOs5 : Hid (Sl w5 (.slice (some ⟨b2, o2, none⟩) ws.length c8) ws) := HOs.out.keep b5
                  have HB5 : Hid (Below w.heap.size w w5) := bel_trans HBr.out b5
                  clear b5 HSj HOs HBr
                  obtain ⟨q1, q2, q3, f1, f2, f3, l1⟩ := XK.three
                  have HREL : Hid (Rel3 w m k p h kj ws zj aj cj (some ⟨b2, o2, none⟩) c8 (l + 1) ((((w5.setCell ⟨k, 0, none⟩ (.int .i64 p)).setCell ⟨k, 1, none⟩ (.int .i64 hn')).setCell ⟨k, 2, none⟩ (.int .i64 kj)).alloc (.cells #[.int .i64 p, .int .i64 hn', .int .i64 kj] 71))) := by
                    refine ⟨(XM.other3 hmk _ _ _).past _, ?_, Sl.keep ?_ (bel_alloc (Below.refl _ _) _), Sl.keep ?_ (bel_alloc (Below.refl _ _) _), bel_alloc (bel_set3 (by omega) HB5.out _ _ _) _⟩
                    · rw [HHN.out]; exact (XK.set3 _ _ _).past _
                    · refine Sl.setOther (Sl.setOther (Sl.setOther HSj5.out ?_ _) ?_ _) ?_ _ <;> exact fun e => HAB.out _ e rfl
                    · refine Sl.setOther (Sl.setOther (Sl.setOther HOs5.out ?_ _) ?_ _) ?_ _ <;> exact fun e => HRB.out _ e rfl
                  go_wp2
                  exact ⟨⟨l + 1, by omega, by go_num, HREL.out⟩, by simp [intOf]; omega⟩
                · obtain rfl : l = ws.length := by omega
                  have hee : hl' = kj := by rw [← HHL.out]; exact HKJ.out
                  subst hee
                  have hgl : ¬ (ws.length : Int) < ws.length := by omega
                  go_wp2_with fail
                  refine (length_any p hl' hl' _ (stepR_in RHL.out) (stepR_in RHL.out)).mono ?_
                  rintro e w5 ⟨rfl, rfl⟩
                  rw [show lenR hl' hl' = 0 by unfold lenR; omega]
                  go_wp2
                  go_ret
                  exact ⟨rfl, bel_alloc HBr.out _⟩
end Go.Proofs.Ytbnjckadgoofjaa
