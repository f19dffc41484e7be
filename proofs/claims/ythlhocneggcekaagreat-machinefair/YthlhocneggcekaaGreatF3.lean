/-
  MachineFair holds, with no condition: what a device touches it may have, by memory and bridge alone, at some moment since its page was last dropped, whoever is picked, whatever the program does.
  Laid together: MFairWalk, Open0, MachineFair.
-/
import Derived.Test.YthlhocneggcekaaGreatB1
import Derived.Test.YthlhocneggcekaaGreatB2
import Derived.Test.YthlhocneggcekaaGreatB3
import Derived.Test.YthlhocneggcekaaGreatB4
import Derived.Test.YthlhocneggcekaaGreatB5
import Derived.Test.YthlhocneggcekaaGreatB6
import Derived.Test.YthlhocneggcekaaGreatB7
import Derived.Test.YthlhocneggcekaaGreatB8
import Derived.Test.YthlhocneggcekaaGreatB9
import Derived.Test.YthlhocneggcekaaGreatB10
import Derived.Test.YthlhocneggcekaaGreatB11
import Derived.Test.YthlhocneggcekaaGreatB12
import Derived.Test.YthlhocneggcekaaGreatB13
import Derived.Test.YthlhocneggcekaaGreatB14
import Derived.Test.YthlhocneggcekaaGreatB15
import Derived.Test.YthlhocneggcekaaGreatB16
import Derived.Test.YthlhocneggcekaaGreatB17
import Derived.Test.YthlhocneggcekaaGreatB18
import Derived.Test.YthlhocneggcekaaGreatB19
import Derived.Test.YthlhocneggcekaaGreatB20
import Derived.Test.YthlhocneggcekaaGreatB21
import Derived.Test.YthlhocneggcekaaGreatB22
import Derived.Test.YthlhocneggcekaaGreatB23
import Derived.Test.YthlhocneggcekaaGreatB24
import Derived.Test.YthlhocneggcekaaGreatB25
import Derived.Test.YthlhocneggcekaaGreatB26
import Derived.Test.YthlhocneggcekaaGreatB27
import Derived.Test.YthlhocneggcekaaGreatB28
import Derived.Test.YthlhocneggcekaaGreatB29
import Derived.Test.YthlhocneggcekaaGreatB30
import Derived.Test.YthlhocneggcekaaGreatB31
import Derived.Test.YthlhocneggcekaaGreatB32
import Derived.Test.YthlhocneggcekaaGreatB33
import Derived.Test.YthlhocneggcekaaGreatB34
import Derived.Test.YthlhocneggcekaaGreatB35
import Derived.Test.YthlhocneggcekaaGreatB36
import Derived.Test.YthlhocneggcekaaGreatB37
import Derived.Test.YthlhocneggcekaaGreatB38
import Derived.Test.YthlhocneggcekaaGreatB39
import Derived.Test.YthlhocneggcekaaGreatB40
import Derived.Test.YthlhocneggcekaaGreatB41
import Derived.Test.YthlhocneggcekaaGreatB42
import Derived.Test.YthlhocneggcekaaGreatB43
import Derived.Test.YthlhocneggcekaaGreatB44
import Derived.Test.YthlhocneggcekaaGreatF1
import Derived.Test.YthlhocneggcekaaGreatF2
import Derived.Maps.OwnOps
import Derived.Maps.OwnSet
import Derived.WideKeyPair
import Derived.ProofKit
import Derived.OpenShut
import Derived.ShutString
import Derived.ChangeOld
namespace Go.Proofs.YthlhocneggcekaaGreat
open Go.RowKit
set_option maxRecDepth 10000 in
set_option maxHeartbeats 40000000 in
theorem mfair_row {m : Mc} {l : List Hp} {cs : Array Value} {v : Value} {w : World} (hm : IsM w m cs) (hl : Hps w v l) : Calls Tryz.prog 10 #[.agg cs, v] w fun e w' => e = .returned (.bool true) ∧ Below w.heap.size w w' := by
  have HL : Hid (Hps w v l) := hl
  obtain ⟨va, vk, rfl⟩ := hl.shape
  have HM : Hid (IsM w m cs) := hm
  obtain ⟨a1, n1, c1, a2, n2, c2, a3, n3, c3, rfl, h1, h2, h3⟩ := hm
  clear hl h1 h2 h3
  have X0 := Box.newAt (w := w) (n := w.heap.size) rfl 33 #[.slice a1 n1 c1, J m.h.pc, .slice a2 n2 c2, .bool m.h.done, J m.b.mode, J m.b.base, .slice a3 n3 c3, J m.b.op, J m.b.oh, J m.b.ot, .bool m.b.stop, J m.b.fen, J m.b.fp, J m.b.fh, J m.b.ft, .bool m.b.lost]
  have BW0 : Hid (Below w.heap.size w (w.alloc (.cells #[.slice a1 n1 c1, J m.h.pc, .slice a2 n2 c2, .bool m.h.done, J m.b.mode, J m.b.base, .slice a3 n3 c3, J m.b.op, J m.b.oh, J m.b.ot, .bool m.b.stop, J m.b.fen, J m.b.fp, J m.b.fh, J m.b.ft, .bool m.b.lost] 33))) := bel_alloc (Below.refl w.heap.size w) _
  go_enter Tryz.func10, Tryz.ntmps10
  obtain ⟨⟨i0, i1, i2, i3⟩, ⟨j0, j1, j2, j3, j4, j5, j6, j7, j8, j9, j10, j11⟩, s0⟩ := X0.sixteen
  have mk := X0.marksOf
  go_upto_region 2 with fail
  have X0 : Box (w.alloc (.cells #[.slice a1 n1 c1, J m.h.pc, .slice a2 n2 c2, .bool m.h.done, J m.b.mode, J m.b.base, .slice none 0 0, J m.b.op, J m.b.oh, J m.b.ot, .bool m.b.stop, J m.b.fen, J m.b.fp, J m.b.fh, J m.b.ft, .bool m.b.lost] 33)) w.heap.size 33 #[.slice a1 n1 c1, J m.h.pc, .slice a2 n2 c2, .bool m.h.done, J m.b.mode, J m.b.base, .slice none 0 0, J m.b.op, J m.b.oh, J m.b.ot, .bool m.b.stop, J m.b.fen, J m.b.fp, J m.b.fh, J m.b.ft, .bool m.b.lost] := Box.newAt rfl _ _
  have BW : Hid (Below w.heap.size w (w.alloc (.cells #[.slice a1 n1 c1, J m.h.pc, .slice a2 n2 c2, .bool m.h.done, J m.b.mode, J m.b.base, .slice none 0 0, J m.b.op, J m.b.oh, J m.b.ot, .bool m.b.stop, J m.b.fen, J m.b.fp, J m.b.fh, J m.b.ft, .bool m.b.lost] 33))) := bel_alloc (Below.refl w.heap.size w) _
  have M0 : IsM (w.alloc (.cells #[.slice a1 n1 c1, J m.h.pc, .slice a2 n2 c2, .bool m.h.done, J m.b.mode, J m.b.base, .slice none 0 0, J m.b.op, J m.b.oh, J m.b.ot, .bool m.b.stop, J m.b.fen, J m.b.fp, J m.b.fh, J m.b.ft, .bool m.b.lost] 33)) (plMc m) #[.slice a1 n1 c1, J m.h.pc, .slice a2 n2 c2, .bool m.h.done, J m.b.mode, J m.b.base, .slice none 0 0, J m.b.op, J m.b.oh, J m.b.ot, .bool m.b.stop, J m.b.fen, J m.b.fp, J m.b.fh, J m.b.ft, .bool m.b.lost] := (HM.out.keep BW.out).bare
  clear mk BW0
  clear i0 i1 i2 i3 j0 j1 j2 j3 j4 j5 j6 j7 j8 j9 j10 j11 s0
  generalize (w.alloc (.cells #[.slice a1 n1 c1, J m.h.pc, .slice a2 n2 c2, .bool m.h.done, J m.b.mode, J m.b.base, .slice none 0 0, J m.b.op, J m.b.oh, J m.b.ot, .bool m.b.stop, J m.b.fen, J m.b.fp, J m.b.fh, J m.b.ft, .bool m.b.lost] 33)) = W at *
  obtain ⟨⟨i0, i1, i2, i3⟩, ⟨j0, j1, j2, j3, j4, j5, j6, j7, j8, j9, j10, j11⟩, s0⟩ := X0.sixteen
  go_wp2_with fail
  refine (driven_true _).mono ?_
  rintro e w1 ⟨rfl, b1⟩
  clear i0 i1 i2 i3 j0 j1 j2 j3 j4 j5 j6 j7 j8 j9 j10 j11 s0
  have X0 := X0.keep b1
  have M0 := M0.keep b1
  have B1 : Hid (Below w.heap.size w w1) := bel_trans BW.out b1
  clear b1 BW
  obtain ⟨⟨i0, i1, i2, i3⟩, ⟨j0, j1, j2, j3, j4, j5, j6, j7, j8, j9, j10, j11⟩, s0⟩ := X0.sixteen
  go_wp2_with fail
  refine (mCheck_row M0).mono ?_
  rintro e wB ⟨rfl, b2⟩
  clear i0 i1 i2 i3 j0 j1 j2 j3 j4 j5 j6 j7 j8 j9 j10 j11 s0
  have X0 := X0.keep b2
  have M0 := M0.keep b2
  have B2 : Hid (Below w.heap.size w wB) := bel_trans B1.out b2
  clear b2 B1
  by_cases hE : chkM (plMc m) = 0
  rotate_left
  · obtain ⟨z, hz⟩ : ∃ z, chkM (plMc m) = z := ⟨_, rfl⟩
    rw [hz] at hE ⊢
    have q : (z != 0) = true := by simpa using hE
    clear hz hE
    go_wp2_with fail
    refine (driven_true _).mono ?_
    rintro e w3 ⟨rfl, b3⟩
    go_wp2_with fail
    go_ret
    exact ⟨rfl, bel_trans B2.out b3⟩
  have HCM : Hid (chkM (plMc m) = 0) := hE
  rw [hE]
  have q : ((0 : Int) != 0) = false := rfl
  go_upto_region 4 with fail
  clear q hE
  have OA : OffM (fun q => w.heap.size ≤ q) (plMc m) #[.slice a1 n1 c1, J m.h.pc, .slice a2 n2 c2, .bool m.h.done, J m.b.mode, J m.b.base, .slice none 0 0, J m.b.op, J m.b.oh, J m.b.ot, .bool m.b.stop, J m.b.fen, J m.b.fp, J m.b.fh, J m.b.ft, .bool m.b.lost] := by
    have o := OffM.new HM.out
    exact ⟨o.1, o.2.1, .inl rfl⟩
  obtain ⟨cs0, hcs0⟩ : ∃ c : Array Value, c = #[.slice a1 n1 c1, J m.h.pc, .slice a2 n2 c2, .bool m.h.done, J m.b.mode, J m.b.base, .slice none 0 0, J m.b.op, J m.b.oh, J m.b.ot, .bool m.b.stop, J m.b.fen, J m.b.fp, J m.b.fh, J m.b.ft, .bool m.b.lost] := ⟨_, rfl⟩
  rw [← hcs0] at X0 M0 OA
  clear hcs0
  obtain ⟨hs0, ha0⟩ := M0.size
  have HI0 : (Tryz.prog.info? 33).map (·.size) = some cs0.size := by rw [infoM, hs0]
  have hmm := @run_makeMap Tryz.prog
  have s0 := X0.lt
  go_upto_region 6 with (first
    | fail
    | (refine wpList_load_row rfl 33 (.tmp 2) rfl w.heap.size rfl _ _ _ _ X0 Tryz.underlying33 rfl HI0 ?_)
    | (refine wpList_built1 rfl (.tmp 29) rfl rfl hs0 ?_))
  have BM : Hid (Below wB.heap.size wB ((wB.alloc (.cells cs0 33)).alloc (.map #[] 0))) := bel_alloc (bel_alloc (Below.refl _ _) _) _
  have OF : OffM (fun q => q = w.heap.size ∨ q = wB.heap.size ∨ q = wB.heap.size + 1) (plMc m) cs0 := OA.less (fun q hq => by rcases hq with e | e | e <;> omega)
  have PF : PastI (fun q => q = w.heap.size ∨ q = wB.heap.size ∨ q = wB.heap.size + 1) ((wB.alloc (.cells cs0 33)).alloc (.map #[] 0)) [cs0] [plMc m] := ⟨rfl, fun i hi => by
    have hi' : i < 1 := hi
    obtain rfl : i = 0 := by omega
    exact ⟨cs0, rfl, M0.keep BM.out, OF⟩⟩
  have HFL : Hid (FairL w.heap.size (wB.heap.size + 1) w 0 (.slice (some ⟨wB.heap.size, 0, none⟩) 1 1) ((wB.alloc (.cells cs0 33)).alloc (.map #[] 0))) :=
    ⟨cs0, plMc m, [plMc m], fun _ _ => 0, [cs0], wB.heap.size, 1, 0, ⟨X0.keep BM.out, M0.keep BM.out, FairI.first HCM.out rfl⟩, ⟨rfl, (OwnP.one rfl (by omega) hs0).below (bel_alloc (Below.refl _ _) _), PF, OF⟩, ⟨SinceM.new (by simp), by omega, by simp⟩, ⟨by omega, by omega, by omega⟩, bel_trans B2.out BM.out⟩
  clear OA OF PF X0 M0 HI0 hmm HCM BM B2 hs0 ha0
  generalize ((wB.alloc (.cells cs0 33)).alloc (.map #[] 0)) = wM at *
  obtain ⟨mb, hmb⟩ : ∃ k, wB.heap.size + 1 = k := ⟨_, rfl⟩
  rw [hmb] at HFL ⊢
  obtain ⟨g0, hg0⟩ : ∃ k, wB.heap.size = k := ⟨_, rfl⟩
  rw [hg0] at HFL ⊢
  clear hmb hg0
  go_cut [36, 37, 38] from 32 to 35 (fun x y z wx => ∃ (q : Nat) (b : Option Addr) (c : Nat), x = .slice b q c ∧ y = J q ∧ z = J 0 ∧ q ≤ l.length ∧ q ≤ 60 ∧ (q = 0 ∨ b = va) ∧ wx = wM)
  case first =>
    have hcc : l.length ≤ vk ∧ vk ≤ maxLen := by
      obtain ⟨a', c', e', q1, q2, -⟩ := HL.out
      simp only [Value.slice.injEq] at e'
      rw [e'.2.2]; exact ⟨q1, q2⟩
    obtain ⟨hc1, hc2⟩ := hcc
    unfold maxLen at hc2
    by_cases hl0 : l.length = 0
    · obtain rfl : l = [] := List.eq_nil_of_length_eq_zero hl0
      cases va with
      | none =>
        go_wp2
        go_meet
        exact ⟨0, _, _, rfl, rfl, rfl, Nat.zero_le _, by omega, .inl rfl, rfl⟩
      | some ad =>
        by_cases hc0 : vk = 0
        · subst hc0
          go_wp2
          go_meet
          exact ⟨0, _, _, rfl, rfl, rfl, Nat.zero_le _, by omega, .inl rfl, rfl⟩
        · go_wp2
          go_meet
          exact ⟨0, _, _, rfl, rfl, rfl, Nat.zero_le _, by omega, .inl rfl, rfl⟩
    · obtain ⟨b2, o2, hva, -⟩ := hps_at HL.out (Below.refl _ _) (i := 0) (by omega)
      subst hva
      have hc0 : ¬ vk = 0 := by omega
      by_cases h12 : l.length ≤ 60
      · have h12' : (l.length : Int) ≤ 60 := by omega
        have hcl : (l.length : Int) ≤ vk := by omega
        go_wp2
        go_meet
        exact ⟨l.length, _, _, rfl, rfl, rfl, Nat.le_refl _, h12, .inr rfl, rfl⟩
      · have h12' : ¬ (l.length : Int) ≤ 60 := by omega
        have h12'' : (60 : Int) < l.length := by omega
        have hcl : (60 : Int) ≤ vk := by omega
        go_wp2
        go_meet
        exact ⟨60, _, _, rfl, rfl, rfl, by omega, Nat.le_refl _, .inr rfl, rfl⟩
  case rest =>
    obtain ⟨q, b9, c9, rfl, rfl, rfl, hq, hq60, hqb, rfl⟩ := hcut
    obtain ⟨wA, rfl⟩ : ∃ wA, wA = wc := ⟨wc, rfl⟩
    go_wp2
    go_loopw [5, 8, 9, 10, 11, 13, 14, 15, 16, 17, 18, 38] (fun s5 _ _ _ _ _ _ _ _ _ _ s wx => ∃ i : Nat, s = J i ∧ i ≤ q ∧ FairL w.heap.size mb w i s5 wx) (fun _ _ _ _ _ _ _ _ _ _ _ s _ => q - (intOf s).toNat)
    case atStart => exact ⟨0, rfl, Nat.zero_le _, HFL.out⟩
    case round =>
      obtain ⟨i, rfl, hiq, hR⟩ := hrel
      obtain ⟨wO, rfl⟩ : ∃ wO, wO = wr := ⟨wr, rfl⟩
      clear HFL
      obtain ⟨cs0, now, ps, s, css, g, cap, n, ⟨X0, M0, FI⟩, ⟨rfl, OP, PI, OM⟩, ⟨SM, hn, hpl⟩, ⟨hg1, hg2, hg3⟩, hbel⟩ := hR
      by_cases hlt : i < q
      rotate_left
      · obtain rfl : i = q := by omega
        have HB : Hid (Below w.heap.size w wO) := hbel
        clear X0 M0 FI OP PI OM SM hn hpl hbel
        go_wp2
        go_ret
        exact ⟨rfl, HB.out⟩
      have HB : Hid (Below w.heap.size w wO) := hbel
      have HFI : Hid (FairI ps s now) := FI
      have gl : g < wO.heap.size := OP.lt g rfl
      have ml : mb < wO.heap.size := SM.lt
      obtain ⟨hs0, ha0⟩ := M0.size
      have HOP : Hid (OwnP wO (w.heap.size + 1) (.slice (some ⟨g, 0, none⟩) ps.length cap) css) := OP
      have HPI : Hid (PastI (fun q => q = w.heap.size ∨ q = g ∨ q = mb) wO css ps) := PI
      have HOM : Hid (OffM (fun q => q = w.heap.size ∨ q = g ∨ q = mb) now cs0) := OM
      have HSM : Hid (SinceM wO mb n s) := SM
      clear hbel FI OP PI OM SM
      obtain ⟨b, o, hva, hbl, hA⟩ := hps_at HL.out HB.out (i := i) (by omega)
      have hb9 : b9 = va := by
        rcases hqb with e | e
        · omega
        · exact e
      subst hb9
      subst hva
      obtain ⟨X, hX⟩ : ∃ X, hpth l i = X := ⟨_, rfl⟩
      rw [hX] at hA
      clear hX
      obtain ⟨u, q0, q1, q2, q3, q4, q5, q6, hS⟩ := hA
      have HSd : Hid (Slc wO u X.ds) := hS
      obtain ⟨da, dn, dc, rfl⟩ : ∃ a k c, u = .slice a k c := let ⟨a, c, e, _⟩ := hS.1; ⟨a, _, c, e⟩
      have hlt1 : (i : Int) < (q : Int) := by omega
      clear hS
      have s0 := X0.lt
      have BX : Hid (Below wO.heap.size wO (wO.alloc (.cells #[J X.kind, J X.num, J X.d, J X.a, J X.n, .bool X.wr, .slice da dn dc] 37))) := bel_alloc (Below.refl _ _) _
      have X6 : Box (wO.alloc (.cells #[J X.kind, J X.num, J X.d, J X.a, J X.n, .bool X.wr, .slice da dn dc] 37)) wO.heap.size 37 #[J X.kind, J X.num, J X.d, J X.a, J X.n, .bool X.wr, .slice da dn dc] := Box.newAt rfl _ _
      go_wp2_with fail
      refine (short_any ⟨HSd.out.1.keep BX.out, HSd.out.2⟩).mono ?_
      rintro e w3 ⟨ua, un, uc, rfl, hsu, b3⟩
      have HSU : Hid (∀ w0, Sl w0 (.slice da dn dc) X.ds → Sl w0 (.slice ua un uc) (shD X.a X.n X.wr X.ds)) := hsu
      have X6 := X6.keep b3
      obtain ⟨n6, hn6⟩ : ∃ n, wO.heap.size = n := ⟨_, rfl⟩
      rw [hn6] at X6
      obtain ⟨⟨k0, k1, k2, k3, k4, k5, k6⟩, sH⟩ := X6.seven
      have mk := X6.marksOf
      have B3 : Hid (Below wO.heap.size wO (((((w3.setCell ⟨n6, 2, none⟩ (J X.d)).setCell ⟨n6, 3, none⟩ (J X.a)).setCell ⟨n6, 4, none⟩ (J (shN X.a X.n))).setCell ⟨n6, 5, none⟩ (.bool X.wr)).setCell ⟨n6, 6, none⟩ (.slice ua un uc))) := bel_fiveOn (by omega) (bel_trans BX.out b3) _ _ _ _ _
      have Y6 : Box (((((w3.setCell ⟨n6, 2, none⟩ (J X.d)).setCell ⟨n6, 3, none⟩ (J X.a)).setCell ⟨n6, 4, none⟩ (J (shN X.a X.n))).setCell ⟨n6, 5, none⟩ (.bool X.wr)).setCell ⟨n6, 6, none⟩ (.slice ua un uc)) n6 37 #[J X.kind, J X.num, J X.d, J X.a, J (shN X.a X.n), .bool X.wr, .slice ua un uc] := X6.fiveOn _ _ _ _ _
      have X0 := X0.keep B3.out
      rw [hn6]
      go_upto_region 10 with fail
      clear hsu b3 BX k0 k1 k2 k3 k4 k5 k6 sH mk X6 q0 q1 q2 q3 q4 q5 q6
      have X6 := Y6
      clear Y6
      generalize (((((w3.setCell ⟨n6, 2, none⟩ (J X.d)).setCell ⟨n6, 3, none⟩ (J X.a)).setCell ⟨n6, 4, none⟩ (J (shN X.a X.n))).setCell ⟨n6, 5, none⟩ (.bool X.wr)).setCell ⟨n6, 6, none⟩ (.slice ua un uc)) = v3 at *
      go_wp2_with (first
        | fail
        | (refine wpList_load_row rfl 33 (.tmp 2) rfl w.heap.size rfl _ _ _ _ X0 Tryz.underlying33 rfl (by rw [infoM, hs0]) ?_)
        | (refine wpList_load_row rfl 37 (.tmp 8) rfl n6 rfl _ _ _ _ X6 Tryz.underlying37 rfl (by rw [infoH]; rfl) ?_))
      refine (mDo_row (m := now) (x := shX X) (M0.keep B3.out) ⟨_, _, _, rfl, HSU.out _ (HSd.out.1.keep B3.out)⟩).mono ?_
      rintro e w4 ⟨cs1, cs2, rfl, hM, hT, o1, o2, b4⟩
      have X6 := X6.keep b4
      have B4 : Hid (Below wO.heap.size wO w4) := bel_trans B3.out b4
      have z6 : n6 < w4.heap.size := X6.lt
      obtain ⟨hs1, ha1⟩ := hM.size
      obtain ⟨⟨Y, T⟩, hYT⟩ : ∃ R, hpR now (shX X) = R := ⟨_, rfl⟩
      have HYT : Hid (hpR now (shX X) = (Y, T)) := hYT
      rw [hYT] at hM hT
      obtain ⟨a4, n4, c4, a5, n5, c5, rfl, hd4, ht5⟩ := hT
      dsimp only at hM ht5
      obtain ⟨E, hE⟩ : ∃ E, hpE now (shX X) = E := ⟨_, rfl⟩
      have HEE : Hid (hpE now (shX X) = E) := hE
      rw [hE]
      have b3s := B3.out.size
      have b4s := b4.size
      clear hE hYT hd4
      obtain ⟨n7, hn7⟩ : ∃ n, w4.heap.size = n := ⟨_, rfl⟩
      obtain ⟨n8, hn8⟩ : ∃ n, n7 + 1 = n := ⟨_, rfl⟩
      have Z7 : Box ((w4.alloc (.cells #[.slice none 0 0, J 0, .slice none 0 0, .bool false, J 0, J 0, .slice none 0 0, J 0, J 0, J 0, .bool false, J 0, J 0, J 0, J 0, .bool false] 33)).alloc (.cells #[.bool false, .slice none 0 0, J 0, .slice none 0 0] 40)) n7 33 zeroM := (Box.newAt hn7.symm _ _).past _
      have X8 : Box ((w4.alloc (.cells #[.slice none 0 0, J 0, .slice none 0 0, .bool false, J 0, J 0, .slice none 0 0, J 0, J 0, J 0, .bool false, J 0, J 0, J 0, J 0, .bool false] 33)).alloc (.cells #[.bool false, .slice none 0 0, J 0, .slice none 0 0] 40)) n8 40 zeroT := Box.newAt (by simp; omega) _ _
      have h78 : n7 ≠ n8 := by omega
      have K5 : Below w4.heap.size w4 ((((w4.alloc (.cells #[.slice none 0 0, J 0, .slice none 0 0, .bool false, J 0, J 0, .slice none 0 0, J 0, J 0, J 0, .bool false, J 0, J 0, J 0, J 0, .bool false] 33)).alloc (.cells #[.bool false, .slice none 0 0, J 0, .slice none 0 0] 40)).setRow n7 cs1).setRow n8 #[.bool T.done, .slice a4 n4 c4, J T.f, .slice a5 n5 c5]) := bel_setRow (by omega) (bel_setRow (by omega) (bel_alloc (bel_alloc (Below.refl _ _) _) _) _) _
      have X0 := (X0.keep b4).keep K5
      have X6 := X6.keep K5
      have B5 : Hid (Below wO.heap.size wO ((((w4.alloc (.cells #[.slice none 0 0, J 0, .slice none 0 0, .bool false, J 0, J 0, .slice none 0 0, J 0, J 0, J 0, .bool false, J 0, J 0, J 0, J 0, .bool false] 33)).alloc (.cells #[.bool false, .slice none 0 0, J 0, .slice none 0 0] 40)).setRow n7 cs1).setRow n8 #[.bool T.done, .slice a4 n4 c4, J T.f, .slice a5 n5 c5])) := bel_trans B4.out K5
      have hM := hM.keep K5
      have ht5 := ht5.keep K5
      have M0 := M0.keep B5.out
      have Z8 := X8.otherRow h78.symm cs1
      have X7 := (Z7.setRow cs1).otherRow h78 #[.bool T.done, .slice a4 n4 c4, J T.f, .slice a5 n5 c5]
      have X8 := Z8.setRow #[.bool T.done, .slice a4 n4 c4, J T.f, .slice a5 n5 c5]
      have o1 := o1.less (a := fun q => q < wO.heap.size) (fun q hq => by
        have hq' : q < wO.heap.size := hq
        show q < v3.heap.size
        omega)
      have z07 : w.heap.size < n7 := by omega
      have z06 : w.heap.size < n6 := by omega
      have zO7 : wO.heap.size ≤ n7 := by omega
      clear K5 b4
      go_upto_region 11 with (first
        | fail
        | (refine wpList_store_row rfl 33 (.tmp 9) (.tmp 50) rfl n7 cs1 rfl rfl _ _ Z7 (by rw [infoM, hs1]) (by rw [hs1]; rfl) ha1 ?_)
        | (refine wpList_store_row rfl 40 (.tmp 10) (.tmp 51) rfl n8 _ rfl rfl _ _ Z8 (by rw [infoTo]; rfl) rfl (by simp [Value.oneCell']) ?_))
      clear Z7 Z8 hn7 hn8 B4 B3 HSU HSd hn6 b3s b4s
      generalize ((((w4.alloc (.cells #[.slice none 0 0, J 0, .slice none 0 0, .bool false, J 0, J 0, .slice none 0 0, J 0, J 0, J 0, .bool false, J 0, J 0, J 0, J 0, .bool false] 33)).alloc (.cells #[.bool false, .slice none 0 0, J 0, .slice none 0 0] 40)).setRow n7 cs1).setRow n8 #[.bool T.done, .slice a4 n4 c4, J T.f, .slice a5 n5 c5]) = w5 at *
      have HBF : Hid (Below w.heap.size w w5) := bel_trans HB.out B5.out
      have BO : Hid (Below wO.heap.size wO w5) := B5.out
      clear HB B5
      have HOP : Hid (OwnP w5 (w.heap.size + 1) (.slice (some ⟨g, 0, none⟩) ps.length cap) css) := HOP.out.below BO.out
      have HPI : Hid (PastI (fun q => q = w.heap.size ∨ q = g ∨ q = mb) w5 css ps) := HPI.out.keep BO.out
      have HSM : Hid (SinceM w5 mb n s) := HSM.out.keep BO.out
      have HOY : Hid (OffM (fun q => q = w.heap.size ∨ q = g ∨ q = mb) Y cs1) := OffM.of (o1.less (fun q hq => by
        show q < wO.heap.size
        rcases hq with e | e | e <;> omega))
      clear BO o1
      by_cases h0 : E = 0
      rotate_left
      · have q : (E != 0) = true := by simpa using h0
        have HI : Hid (FairL w.heap.size mb w (i + 1) (.slice (some ⟨g, 0, none⟩) ps.length cap) w5) := ⟨cs0, now, ps, s, css, g, cap, n, ⟨X0, M0, HFI.out⟩, ⟨rfl, HOP.out, HPI.out, HOM.out⟩, ⟨HSM.out, by omega, by omega⟩, ⟨hg1, hg2, hg3⟩, HBF.out⟩
        clear h0 X0 X6 X7 X8 hM ht5 M0 hs0 ha0 hs1 ha1 HFI HOP HPI HOM HSM HOY HEE HYT
        go_wp2_with fail
        exact ⟨⟨i + 1, by go_num, by omega, HI.out⟩, by simp [intOf]; omega⟩
      subst h0
      have q : ((0 : Int) != 0) = false := rfl
      obtain ⟨td, tdat, tf, ttch⟩ := T
      dsimp only at X8 ht5
      have hp61 : ps.length ≤ 121 := by omega
      have HTC : Hid (∀ u ∈ ttch, frE (ps.drop (s u.1 (u.2.1 / 8))) u = 0 ∧ ∀ k, IsLast (ps.drop (s u.1 (u.2.1 / 8))) u k → 0 ≤ k) := fun u hu => by
        have hk : X.kind = 3 := by
          by_cases e : X.kind = 3
          · exact e
          · have := (hp_good HEE.out HYT.out).2.2.2.1 e
            rw [T0, To.mk.injEq] at this
            rw [this.2.2.2] at hu
            cases hu
        exact HFI.out.touch hp61 HEE.out HYT.out hk hu
      have HT5 : Hid (Ts w5 (.slice a5 n5 c5) ttch) := ht5
      have hn5 : n5 = ttch.length := by obtain ⟨_, _, e, _⟩ := ht5; simp only [Value.slice.injEq] at e; exact e.2.1
      have htl : ttch.length ≤ maxLen := by obtain ⟨_, _, _, e1, e2, _⟩ := ht5; omega
      unfold maxLen at htl
      subst hn5
      obtain ⟨z0, z1, z2, z3, -, -, -, -, s8⟩ := X8.four
      go_wp2_with fail
      clear z0 z1 z2 z3 s8 X8 ht5
      go_loopw [13, 14, 15, 16, 58] (fun _ _ _ _ s wx => ∃ j : Nat, s = J j ∧ j ≤ ttch.length ∧ Below w5.heap.size w5 wx) (fun _ _ _ _ s _ => ttch.length - (intOf s).toNat)
      case atStart => exact ⟨0, rfl, Nat.zero_le _, Below.refl _ _⟩
      case round =>
        obtain ⟨j, rfl, hj, hb⟩ := hrel
        have HJ : Hid (Below w5.heap.size w5 wr) := hb
        clear hb
        by_cases hlt2 : j < ttch.length
        rotate_left
        · obtain rfl : j = ttch.length := by omega
          have X0 := X0.keep HJ.out
          have X6 := X6.keep HJ.out
          have X7 := X7.keep HJ.out
          have M0 := M0.keep HJ.out
          have hM := hM.keep HJ.out
          have HOP : Hid (OwnP wr (w.heap.size + 1) (.slice (some ⟨g, 0, none⟩) ps.length cap) css) := HOP.out.below HJ.out
          have HPI : Hid (PastI (fun q => q = w.heap.size ∨ q = g ∨ q = mb) wr css ps) := HPI.out.keep HJ.out
          have HSM : Hid (SinceM wr mb n s) := HSM.out.keep HJ.out
          have HBF : Hid (Below w.heap.size w wr) := bel_trans HBF.out HJ.out
          have HGN : Hid (chkM now = 0) := (hp_good HEE.out HYT.out).1
          clear HJ HTC HT5 q
          obtain ⟨wL, rfl⟩ : ∃ wL, wL = wr := ⟨wr, rfl⟩
          obtain ⟨⟨k0, k1, k2, k3, k4, k5, k6⟩, sH⟩ := X6.seven
          by_cases hk2 : X.kind = 2
          rotate_left
          · have qk : (X.kind == 2) = false := by simpa using hk2
            go_upto_region 31 with fail
            clear k0 k1 k2 k3 k4 k5 k6 sH qk M0
            have HNX : Hid (FairI (ps ++ [Y]) s Y) := HFI.out.next HEE.out HYT.out (fun e => absurd e hk2) (fun d p => Nat.le_of_lt (HFI.out.low d p)) (fun _ => rfl)
            have Y0 := X0.setRow cs1
            have hsz : _ = cs1.size := hs0.trans hs1.symm
            have sA := X0.lt
            have hcl : css.length ≤ 1000 := by have := HPI.out.1; omega
            have HO1 : Hid (OwnP ((wL.setRow w.heap.size cs1).alloc (.cells cs1 33)) (w.heap.size + 1) (.slice (some ⟨g, 0, none⟩) ps.length cap) css) := (HOP.out.keep (fun k hk => by
              have hkg : g = k := by simpa [Value.ownBlock] using hk
              exact setRow_other wL w.heap.size k cs1 (by omega))).below (bel_alloc (Below.refl _ _) _)
            have hYl := Y0.lt
            have HND : Hid (n ≤ 512 * (i + 1)) := by show _ ≤ _; omega
            clear X6
            go_wp2_with (first
              | fail
              | (refine wpList_load_row rfl 33 (.tmp 9) rfl n7 rfl _ _ _ _ X7 Tryz.underlying33 rfl (by rw [infoM, hs1]) ?_)
              | (refine wpList_store_row rfl 33 (.tmp 2) (.tmp 106) rfl (w.heap.size) cs1 rfl rfl _ _ X0 (by rw [infoM, hs1]) hsz ha1 ?_)
              | (refine wpList_load_row rfl 33 (.tmp 2) rfl (w.heap.size) rfl _ _ _ _ Y0 Tryz.underlying33 rfl (by rw [infoM, hs1]) ?_)
              | (refine wpList_built1 rfl (.tmp 108) rfl rfl hs1 ?_)
              | (refine wpList_append_P rfl (.tmp 107) (.tmp 109) rfl (w.heap.size + 1) _ css rfl rfl HO1.out (Box.newAt rfl 33 cs1) hs1 ha1 hcl (by simp; omega) ?_))
            intro g' cap' w9 hown9 hgr9 hat9 hlt9
            have HAT : Hid (some g = some g' ∨ g' = ((wL.setRow w.heap.size cs1).alloc (.cells cs1 33)).heap.size) := by
              rcases hat9 with h | h
              · exact .inl (by simpa [Value.ownBlock] using h)
              · exact .inr (by simp; omega)
            have HFN : Hid (FairL w.heap.size mb w (i + 1) (.slice (some ⟨g', 0, none⟩) (css.length + 1) cap') w9) := fairL_next X0 hM HOY.out HPI.out HSM.out HND.out hpl HNX.out hg1 hg2 hg3 (Nat.le_refl _) HBF.out rfl rfl hgr9 HAT.out hown9
            clear hown9 hgr9 hat9 hlt9 HAT HNX Y0 HO1 HOY HPI HSM HOP HBF hM X0 X7
            go_wp2_with fail
            exact ⟨⟨i + 1, by go_num, by omega, HFN.out⟩, by simp [intOf]; omega⟩
          have qk : (X.kind == 2) = true := by simpa using hk2
          have HOI : Hid (OrdI now s ps.length mb (512 * i) w wL 0 0 wL) := ⟨s, n, SinceL.start HFI.out.low, HSM.out, by omega, KeptB.refl _ _, HBF.out⟩
          have HK2 : Hid (X.kind = 2) := hk2
          clear hk2
          go_wp2_with fail
          clear qk k0 k1 k2 k3 k4 k5 k6 sH
          go_loopw [17, 18, 88] (fun _ _ sx wx => ∃ a : Nat, sx = J a ∧ a ≤ 8 ∧ OrdI now s ps.length mb (512 * i) w wL a 0 wx) (fun _ _ sx _ => 8 - (intOf sx).toNat)
          case atStart => exact ⟨0, rfl, by omega, HOI.out⟩
          case round =>
            obtain ⟨a, rfl, ha8, hOI⟩ := hrel
            by_cases hla : a < 8
            · have hla1 : (a : Int) < 8 := by omega
              have HOI : Hid (OrdI now s ps.length mb (512 * i) w wL a 0 wr) := hOI
              clear hOI
              go_wp2_with fail
              go_loopw [18, 91] (fun _ sx wx => ∃ b : Nat, sx = J b ∧ b ≤ 64 ∧ OrdI now s ps.length mb (512 * i) w wL a b wx) (fun _ sx _ => 64 - (intOf sx).toNat)
              case atStart => exact ⟨0, rfl, by omega, HOI.out⟩
              case round =>
                obtain ⟨b, rfl, hb64, hOI⟩ := hrel
                obtain ⟨s', n', hSL, hSM, hn', hKB, hbl⟩ := hOI
                have HSL : Hid (SinceL now s s' ps.length a b) := hSL
                have HS2 : Hid (SinceM wr mb n' s') := hSM
                have HKB : Hid (KeptB (fun q => q = mb) wL wr) := hKB
                have HBL : Hid (Below w.heap.size w wr) := hbl
                clear hSL hSM hKB hbl HOI
                by_cases hlb : b < 64
                · have hlb1 : (b : Int) < 64 := by omega
                  have Z0 := X0.kept HKB.out (by omega)
                  have HMZ : Hid (IsM wr now cs0) := M0.keptM HKB.out (HOM.out.less (fun q hq => .inr (.inr hq)))
                  go_wp2_with (first
                    | fail
                    | (refine wpList_load_row rfl 33 (.tmp 2) rfl (w.heap.size) rfl _ _ _ _ Z0 Tryz.underlying33 rfl (by rw [infoM, hs0]) ?_))
                  refine (dropped_row HMZ.out HGN.out (by omega) (by omega)).mono ?_
                  rintro e w8 ⟨rfl, b8⟩
                  have HKB : Hid (KeptB (fun q => q = mb) wL w8) := HKB.out.below b8
                  have HS2 : Hid (SinceM w8 mb n' s') := HS2.out.keep b8
                  have HBL : Hid (Below w.heap.size w w8) := bel_trans HBL.out b8
                  clear b8 HMZ Z0
                  obtain ⟨y, hy⟩ : ∃ y, drpM now a b = y := ⟨_, rfl⟩
                  have HY : Hid (drpM now a b = y) := hy
                  rw [hy]
                  clear hy
                  cases y with
                  | false =>
                    go_wp2_with fail
                    exact ⟨⟨b + 1, by go_num, by omega, s', n', HSL.out.no HY.out, HS2.out, by omega, HKB.out, HBL.out⟩, by simp [intOf]; omega⟩
                  | true =>
                    go_wp2_with (first
                      | fail
                      | (refine wpList_since rfl (.tmp 98) (.tmp 101) (.tmp 103) rfl mb n' s' rfl HS2.out (a : Int) (b : Int) rfl ps.length rfl (by omega) (by omega) (by omega) ?_))
                    intro w9 hS9 hgr9
                    have HO9 : Hid (OrdI now s ps.length mb (512 * i) w wL a (b + 1) w9) := ⟨_, _, HSL.out.yes HY.out, hS9, by omega, HKB.out.grown hgr9 (fun k hk => by simp at hk; exact .inl hk.symm), HBL.out.grown hgr9 HBL.out.size (fun k hk => by simp at hk; omega)⟩
                    clear hS9 hgr9 HS2 HKB HBL HSL
                    go_wp2_with fail
                    exact ⟨⟨b + 1, by go_num, by omega, HO9.out⟩, by simp [intOf]; omega⟩
                · obtain rfl : b = 64 := by omega
                  have HO9 : Hid (OrdI now s ps.length mb (512 * i) w wL (a + 1) 0 wr) := ⟨s', n', HSL.out.row, HS2.out, by omega, HKB.out, HBL.out⟩
                  clear HSL HS2 HKB HBL
                  go_wp2_with fail
                  exact ⟨⟨a + 1, by go_num, by omega, HO9.out⟩, by simp [intOf]; omega⟩
            · obtain rfl : a = 8 := by omega
              obtain ⟨s', n', hSL, hSM, hn', hKB, hbl⟩ := hOI
              have X0 := X0.kept hKB (by omega)
              have X7 := X7.kept hKB (by omega)
              have hM := hM.keptM hKB (HOY.out.less (fun q hq => .inr (.inr hq)))
              have HOP : Hid (OwnP wr (w.heap.size + 1) (.slice (some ⟨g, 0, none⟩) ps.length cap) css) := HOP.out.keep (fun k hk => by
                have hkg : g = k := by simpa [Value.ownBlock] using hk
                exact hKB.block k (by have := HOP.out.lt g rfl; omega) (by omega))
              have HPI : Hid (PastI (fun q => q = w.heap.size ∨ q = g ∨ q = mb) wr css ps) := HPI.out.kept hKB (fun q hq => .inr (.inr hq))
              have HSM : Hid (SinceM wr mb n' s') := hSM
              have HBF : Hid (Below w.heap.size w wr) := hbl
              have HSF : Hid (SinceL now s s' ps.length 8 0) := hSL
              clear hKB hSM hbl hSL M0 HOI
              go_upto_region 31 with fail
              have HNX : Hid (FairI (ps ++ [Y]) s' Y) := HFI.out.next HEE.out HYT.out (fun _ => HSF.out.full) HSF.out.2 (fun e => absurd HK2.out e)
              have Y0 := X0.setRow cs1
              have hsz : _ = cs1.size := hs0.trans hs1.symm
              have sA := X0.lt
              have hcl : css.length ≤ 1000 := by have := HPI.out.1; omega
              have HO1 : Hid (OwnP ((wr.setRow w.heap.size cs1).alloc (.cells cs1 33)) (w.heap.size + 1) (.slice (some ⟨g, 0, none⟩) ps.length cap) css) := (HOP.out.keep (fun k hk => by
                have hkg : g = k := by simpa [Value.ownBlock] using hk
                exact setRow_other wr w.heap.size k cs1 (by omega))).below (bel_alloc (Below.refl _ _) _)
              have hYl := Y0.lt
              have HND : Hid (n' ≤ 512 * (i + 1)) := by show _ ≤ _; omega
              clear X6
              go_wp2_with (first
                | fail
                | (refine wpList_load_row rfl 33 (.tmp 9) rfl n7 rfl _ _ _ _ X7 Tryz.underlying33 rfl (by rw [infoM, hs1]) ?_)
                | (refine wpList_store_row rfl 33 (.tmp 2) (.tmp 106) rfl (w.heap.size) cs1 rfl rfl _ _ X0 (by rw [infoM, hs1]) hsz ha1 ?_)
                | (refine wpList_load_row rfl 33 (.tmp 2) rfl (w.heap.size) rfl _ _ _ _ Y0 Tryz.underlying33 rfl (by rw [infoM, hs1]) ?_)
                | (refine wpList_built1 rfl (.tmp 108) rfl rfl hs1 ?_)
                | (refine wpList_append_P rfl (.tmp 107) (.tmp 109) rfl (w.heap.size + 1) _ css rfl rfl HO1.out (Box.newAt rfl 33 cs1) hs1 ha1 hcl (by simp; omega) ?_))
              intro g' cap' w9 hown9 hgr9 hat9 hlt9
              have HAT : Hid (some g = some g' ∨ g' = ((wr.setRow w.heap.size cs1).alloc (.cells cs1 33)).heap.size) := by
                rcases hat9 with h | h
                · exact .inl (by simpa [Value.ownBlock] using h)
                · exact .inr (by simp; omega)
              have HFN : Hid (FairL w.heap.size mb w (i + 1) (.slice (some ⟨g', 0, none⟩) (css.length + 1) cap') w9) := fairL_next X0 hM HOY.out HPI.out HSM.out HND.out hpl HNX.out hg1 hg2 hg3 (Nat.le_refl _) HBF.out rfl rfl hgr9 HAT.out hown9
              clear hown9 hgr9 hat9 hlt9 HAT HNX Y0 HO1 HOY HPI HSM HOP HBF hM X0 X7
              go_wp2_with fail
              exact ⟨⟨i + 1, by go_num, by omega, HFN.out⟩, by simp [intOf]; omega⟩
        obtain ⟨b2, o2, hva, hbl2, t0, t1, t2, t3, t4⟩ := ts_at HT5.out HJ.out hlt2
        subst hva
        obtain ⟨e4, e5⟩ := HTC.out (tth ttch j) (by rw [tth_get hlt2]; exact List.getElem_mem _)
        obtain ⟨⟨ud, us, ua2, uw, uv⟩, hu⟩ : ∃ u, tth ttch j = u := ⟨_, rfl⟩
        rw [hu] at t0 t1 t2 t3 t4 e4 e5
        dsimp only at t0 t1 t2 t3 t4 e4 e5
        obtain ⟨-, -, e6⟩ := frE_ok e4
        obtain ⟨hud, ⟨hus1, hus2⟩, -, -, -⟩ := ckT_ok e6
        dsimp only at hud hus1 hus2
        have he8 : us.tdiv 8 = us / 8 := Int.tdiv_eq_ediv_of_nonneg hus1
        have hlt3 : (j : Int) < (ttch.length : Int) := by omega
        have HE4 : Hid (frE (ps.drop (s ud (us / 8))) (ud, us, ua2, uw, uv) = 0) := e4
        have HE5 : Hid (∀ k, IsLast (ps.drop (s ud (us / 8))) (ud, us, ua2, uw, uv) k → 0 ≤ k) := e5
        have hlow := HFI.out.low ud (us / 8)
        have HUD : Hid (0 ≤ ud ∧ ud ≤ 7) := hud
        have HUP : Hid (0 ≤ us / 8 ∧ us / 8 ≤ 63) := by show _ ∧ _; omega
        clear hu e4 e5 e6 hud
        go_upto_region 16 with fail
        have X13 : Box (wr.alloc (.cells #[J ud, J us, J ua2, .bool uw, J uv] 72)) wr.heap.size 72 #[J ud, J us, J ua2, .bool uw, J uv] := Box.newAt rfl _ _
        have BV : Hid (Below w5.heap.size w5 (wr.alloc (.cells #[J ud, J us, J ua2, .bool uw, J uv] 72))) := bel_alloc HJ.out _
        obtain ⟨sv, hsv⟩ : ∃ k, s ud (us / 8) = k := ⟨_, rfl⟩
        have HLK : Hid (∀ wz, Below (wr.alloc (.cells #[J ud, J us, J ua2, .bool uw, J uv] 72)).heap.size (wr.alloc (.cells #[J ud, J us, J ua2, .bool uw, J uv] 72)) wz → (Instr.lookup 81 (.map (some mb)) (.agg #[J ud, J (us / 8)]) false).run Tryz.prog wz = .ok (J sv) wz) := fun wz hz => by
          rw [← hsv]
          exact (HSM.out.keep (bel_trans BV.out hz)).look HUD.out HUP.out
        rw [hsv] at HE4 HE5 hlow
        have hcc : ps.length ≤ cap ∧ cap ≤ maxLen := by
          obtain ⟨a, c, e, h1, h2, -⟩ := HPI.out.ms HOP.out
          simp only [Value.slice.injEq] at e
          rw [e.2.2]; exact ⟨h1, h2⟩
        obtain ⟨hcc1, hcc2⟩ := hcc
        unfold maxLen at hcc2
        have hx1 : (ps.length : Int) ≤ cap := by omega
        have hx2 : (sv : Int) ≤ ps.length := by omega
        have hx3 : ¬ cap = sv := by omega
        have hx4 : (sv : Int) ≤ cap := by omega
        have HLE : Hid (sv ≤ ps.length) := by show sv ≤ _; omega
        clear hsv hlow t0 t1 t2 t3 t4
        generalize (wr.alloc (.cells #[J ud, J us, J ua2, .bool uw, J uv] 72)) = V at *
        generalize wr.heap.size = n13 at *
        go_cut [15, 16] from 65 to 77 (fun a b wx => ∃ k : Int, a = J k ∧ b = J 0 ∧ 0 ≤ k ∧ Below V.heap.size V wx)
        case first =>
          refine wp_region_held_drew (S := fun w' => Below V.heap.size V w') (by kernel_rfl) (Below.drew (Below.refl _ _)) (fun hHeld => ?_)
          refine tkH 0 rfl (by kernel_rfl) (fun _ _ _ h => h) (by assumption) (by intro wz hSz; (try dsimp only at hSz); go_simp; (try with_reducible rfl)) ?_
          simp only [nmz]
          refine tkH 1 rfl (by kernel_rfl) (fun _ _ _ h => h) (by assumption) (by intro wz hSz; (try dsimp only at hSz); go_simp; (try with_reducible rfl)) ?_
          simp only [nmz]
          refine tkH 2 rfl (by kernel_rfl) (fun _ _ _ h => h) (by assumption) (by intro wz hSz; (try dsimp only at hSz); go_simp; (try with_reducible rfl)) ?_
          simp only [nmz]
          refine tkH 3 rfl (by kernel_rfl) (fun _ _ _ h => h) (by assumption) (by intro wz hSz; (try dsimp only at hSz); (obtain ⟨y0, y1, y2, y3, y4⟩ := (X13.keep hSz).blk.five); go_simp; (try with_reducible rfl)) ?_
          simp only [nmz]
          refine tkH 4 rfl (by kernel_rfl) (fun _ _ _ h => h) (by assumption) (by intro wz hSz; (try dsimp only at hSz); go_simp; (try with_reducible rfl)) ?_
          simp only [nmz]
          refine tkH 5 rfl (by kernel_rfl) (fun _ _ _ h => h) (by assumption) (by intro wz hSz; (try dsimp only at hSz); go_simp; (try with_reducible rfl)) ?_
          simp only [nmz]
          refine tkH 6 rfl (by kernel_rfl) (fun _ _ _ h => h) (by assumption) (by intro wz hSz; (try dsimp only at hSz); (have hlk := HLK.out wz hSz); go_simp; (try with_reducible rfl)) ?_
          simp only [nmz]
          refine tkH 7 rfl (by kernel_rfl) (fun _ _ _ h => h) (by assumption) (by intro wz hSz; (try dsimp only at hSz); go_simp; (try with_reducible rfl)) ?_
          simp only [nmz]
          refine wpHeld_takeL (i := 8) (v := .agg #[J ud, J us, J ua2, .bool uw, J uv]) rfl (by kernel_rfl) (by kernel_rfl) (by kernel_rfl) (fun _ _ _ h => h) (yields_row (by kernel_rfl) 72 (.tmp 13) rfl rfl (fun wz hSz => run_loadVar_row wz _ _ _ _ _ _ (X13.keep hSz) Tryz.underlying72 rfl (by rw [infoTc]; rfl))) (by assumption) ?_
          simp only [nmz]
          refine wpHeld_oneL (i := 9) (by kernel_rfl) (by rfl) (fun K hK => ?_)
          go_simp
          have hmsd := (((HPI.out.ms HOP.out).keep BV.out).keep hHeld).drop HLE.out
          rw [Nat.zero_add] at hmsd
          refine (fair_any hmsd).mono ?_
          clear hmsd
          rintro e w7 ⟨k, rfl, h7, -, b7⟩
          have HK7 : Hid (0 ≤ k) := HE5.out k (h7 HE4.out)
          rw [HE4.out]
          clear h7
          go_wp2_with fail
          refine hK.out _ _ (bel_trans hHeld b7) (fun hHeld2 => ?_)
          clear hK K hHeld b7
          refine tkH 10 rfl (by kernel_rfl) (fun _ _ _ h => h) (by assumption) (by intro wz hSz; (try dsimp only at hSz); go_simp; (try with_reducible rfl)) ?_
          simp only [nmz]
          refine tkH 11 rfl (by kernel_rfl) (fun _ _ _ h => h) (by assumption) (by intro wz hSz; (try dsimp only at hSz); go_simp; (try with_reducible rfl)) ?_
          simp only [nmz]
          refine tkH 12 rfl (by kernel_rfl) (fun _ _ _ h => h) (by assumption) (by intro wz hSz; (try dsimp only at hSz); go_simp; (try with_reducible rfl)) ?_
          simp only [nmz]
          refine tkH 13 rfl (by kernel_rfl) (fun _ _ _ h => h) (by assumption) (by intro wz hSz; (try dsimp only at hSz); go_simp; (try with_reducible rfl)) ?_
          simp only [nmz]
          refine tkH 14 rfl (by kernel_rfl) (fun _ _ _ h => h) (by assumption) (by intro wz hSz; (try dsimp only at hSz); go_simp; (try with_reducible rfl)) ?_
          simp only [nmz]
          refine wpAnyH_done (by kernel_rfl) ?_ _
          go_wp2_with fail
          go_meet
          exact ⟨k, rfl, rfl, HK7.out, hHeld2⟩
        case rest =>
          obtain ⟨k, rfl, rfl, hk0, bc⟩ := hcut
          have hk1 : ¬ k < 0 := by omega
          have HB9 : Hid (Below w5.heap.size w5 wc) := bel_trans BV.out bc
          clear bc hk0 HLK
          go_wp2_with fail
          exact ⟨⟨j + 1, by go_num, by omega, HB9.out⟩, by simp [intOf]; omega⟩
theorem mfair_walk (u : Value) (zs : List Int) (p : Int) (v : Value) (r : List Int) (d : Bool) (mo ba op oh ot fe fp fh ft : Int) (st lo : Bool) (vc : Value) (l : List Ln) (v1 : Value) (l1 : List Hp) (w : World) (hm : Sl w u zs ∧ Sl w v r ∧ Ls w vc l) (hl : Hps w v1 l1) :
    Calls Tryz.prog 10 #[.agg #[u, J p, v, .bool d, J mo, J ba, vc, J op, J oh, J ot, .bool st, J fe, J fp, J fh, J ft, .bool lo], v1] w fun e w' => e = .returned (.bool true) ∧ Below w.heap.size w w' := mfair_row (isM_any hm) hl
end Go.Proofs.YthlhocneggcekaaGreat
namespace Go.Proofs.YthlhocneggcekaaGreat
open Go.ChangeShapes Go.WideShapes Go.ChangeAt Go.RowKit
theorem law_own : ownKnob Tryz.prog.godebug = none := by kernel_rfl
theorem law_laidOut : laidOutB Tryz.prog = true := by kernel_rfl
section
variable {H : Type} {enc : TypeId × Value → H} {W : World}
end
end Go.Proofs.YthlhocneggcekaaGreat
namespace Go.Proofs.YthlhocneggcekaaGreat
open Go.ChangeShapes Go.WideShapes Go.ChangeAt Go.RowKit
set_option linter.unusedVariables false
set_option maxRecDepth 100000 in
theorem mfair_lifted (os : Os) (started : os.Started) (H : Type) (enc : TypeId × Value → H) :
    ReturnsInHanded {} Tryz.checked os 10 .any (Rows.machineFairSpec.pre6 enc Tryz.prog Tryz.f10 Rows.machineFairRow.domain false) (Rows.machineFairSpec.post enc Tryz.prog Tryz.f10 false true false false) := by
  refine returnsInHanded_of_change (C := Tryz.checked) law_own started (by kernel_rfl) Tryz.func10
    (ChangeSpec.witness6 (enc := enc) (C := Tryz.checked) false ⟨#[], #[.agg #[.slice none 0 0, J 0, .slice none 0 0, .bool false, J 0, J 0, .slice none 0 0, J 0, J 0, J 0, .bool false, J 0, J 0, J 0, J 0, .bool false], .slice none 0 0], []⟩ 8 (by kernel_rfl) (by kernel_rfl) (by kernel_rfl) (by kernel_rfl)) ?_
  intro W base args ds gs before hval0 hW hcnd _
  have hval : ∀ (j : Nat) t v, Tryz.f10.params[j]? = some t → args[j]? = some v → Value.okWide Tryz.prog W .any base t v := hval0
  have hW' := hW
  obtain ⟨p, q, hA0, hV, rfl, hfz, hnd⟩ := hW
  have hA : DataW.TrodAll enc Tryz.prog W 0 (fun _ => true) true Tryz.f10.params.toList args.toList ds p := hA0
  rw [Tryz.params10] at hA hval
  obtain ⟨v0, vs0, d0, ds0, p0, q0, hargs, rfl, rfl, h0, r0⟩ := trodAll_cons hA
  obtain ⟨v1, vs1, d1, ds1, p1, q1, rfl, rfl, rfl, h1, r1⟩ := trodAll_cons r0
  obtain ⟨rfl, rfl, rfl⟩ := trodAll_nil r1
  obtain rfl : args = #[v0, v1] := by cases args; simp_all
  obtain ⟨rfl, rfl⟩ := trodVars_none hV
  have k0 := h0
  have lt0 : ∀ x ∈ p0, x.block < W.heap.size := by obtain ⟨m, hm⟩ := k0; exact DataW.trod_lt m _ _ _ hm
  have k1 := h1
  have lt1 : ∀ x ∈ p1, x.block < W.heap.size := by obtain ⟨m, hm⟩ := k1; exact DataW.trod_lt m _ _ _ hm
  obtain ⟨u0, zs0, x0, y0, g0, f0, mo0, ba0, op0, oh0, ot0, fe0, fp0, fh0, ft0, st0, lo0, vc0, l0, rfl, s0⟩ := open_mch (hval 0 33 v0 rfl rfl) h0
  obtain ⟨l1, s1⟩ := open_hps (hval 1 56 v1 rfl rfl) h1
  clear hA0 hval0
  refine (mfair_walk u0 zs0 x0 y0 g0 f0 mo0 ba0 op0 oh0 ot0 fe0 fp0 fh0 ft0 st0 lo0 vc0 l0 v1 l1 W s0 s1).mono fun e W' ⟨he, bel⟩ => ?_
  subst he
  exact ⟨_, rfl, _, _, _, [], _, [], hW', trodAll_mk1 (shut_bool Tryz.underlying4 _), (trodAll_cons_mk (Below.trod law_laidOut (by kernel_rfl) (of_decide_eq_true (by kernel_rfl)) k0 bel lt0) (trodAll_cons_mk (Below.trod law_laidOut (by kernel_rfl) (of_decide_eq_true (by kernel_rfl)) k1 bel lt1) trodAll_mk0)), rfl, bel.frame _, fun h => by cases h⟩
theorem mfair_over : Rows.machineFairRow.holds Tryz.pinned (OpenSpec.ofChange Rows.machineFairSpec) :=
  OpenClaim.holds_of_wide 10 Tryz.f10 rfl rfl rfl rfl rfl rfl rfl ⟨rfl, rfl, rfl, rfl, rfl⟩ rfl rfl rfl rfl rfl (by kernel_rfl) Tryz.func10 (by kernel_rfl)
    (of_decide_eq_true (by kernel_rfl)) (by unfold Func.isWrapper; first | (rw [if_pos (by decide +kernel)]; kernel_rfl) | (rw [if_neg (by decide +kernel)]; exact ⟨rfl, rfl⟩))
    (fun os started H enc _ => mfair_lifted os started H enc)
theorem mfair_holds : Rows.MachineFairSaid := mfair_over
#print axioms mfair_holds
end Go.Proofs.YthlhocneggcekaaGreat
