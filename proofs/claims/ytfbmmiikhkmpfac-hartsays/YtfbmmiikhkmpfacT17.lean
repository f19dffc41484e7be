/-
  Laid together: Stepped8, SteppedR, EqualL, SameB, CheckCR, CheckBR.
-/
import Derived.Test.YtfbmmiikhkmpfacT16
import Derived.Deep.RegionHeld3
import Derived.Deep.CutRange
/-
  drawbridgeref's Stepped: kind 8; nothing that was there turns.
-/
namespace Go.Proofs.Ytfbmmiikhkmpfac
open Go.RowKit

set_option maxRecDepth 10000 in
set_option maxHeartbeats 8000000 in
theorem stepped_8 (v : Value) (zs : List Int) (p : Int) (u : Value) (r : List Int) (mo ba op oh ot fe fp fh ft : Int) (st lo : Bool) (vc : Value) (l : List Ln) (w : World) (hs : Sl w v zs) (hr : Sl w u r) (h : Ls w vc l) (hE : stE zs ⟨p, r, false⟩ ⟨mo, ba, l, op, oh, ot, st, fe, fp, fh, ft, lo⟩ = 0) (x y i : Int) (hI : riE (insW zs ⟨p, r, false⟩) = 0) (hX : riX (insW zs ⟨p, r, false⟩) = (8, x, y, i)) :
    Calls Try.prog 23 #[.agg #[v], .agg #[.int .i64 p, u, .bool false], .agg #[.int .i64 mo, .int .i64 ba, vc, .int .i64 op, .int .i64 oh, .int .i64 ot, .bool st, .int .i64 fe, .int .i64 fp, .int .i64 fh, .int .i64 ft, .bool lo]] w fun e w' => StepOut w.heap.size zs ⟨p, r, false⟩ mo ba op oh ot fe fp fh ft st lo vc l w e w' := by
  obtain ⟨hz, hh, hb, -⟩ := stE_ok hE
  obtain ⟨hr8, ⟨hp0, hp1⟩, hrw⟩ := chkH_ok hh
  dsimp only at hr8 hp0 hp1 hrw
  have HV : Hid (∃ a k c, v = .slice a k c) := let ⟨a, c, e, _⟩ := hs; ⟨a, _, c, e⟩
  have HL : Hid (Ls w vc l) := h
  obtain ⟨ca, ck, rfl, -⟩ := h
  have HM : Hid (Sl w v zs) := hs
  have HZ : Hid (chk zs = 0) := hz
  have HB : Hid (chkB ⟨mo, ba, l, op, oh, ot, st, fe, fp, fh, ft, lo⟩ = 0) := hb
  have HW : Hid (∀ i, i < 8 → 0 ≤ nth r i ∧ nth r i ≤ 65535) := hrw
  have H8 : Hid (r.length = 8) := hr8
  have HE : Hid _ := hE
  obtain ⟨b, o, cap, rfl, hbb, hcs⟩ := hs.open512 (chk_ok hz).1
  have HCS : Hid (∀ i, i < 512 → w.cell? ⟨b, o + i, none⟩ = some (.int .i64 (nth zs i))) := hcs
  obtain ⟨ra, rc, rfl, hrl, hrr⟩ := hr
  rcases hrr with e | ⟨rb, ro, rfl, hrb, hrc⟩
  · exact absurd hr8 (by rw [e]; simp)
  have HR : Hid (Sl w (.slice (some ⟨rb, ro, none⟩) 8 rc) r) := by
    show Sl _ _ _
    rw [← hr8]; exact ⟨_, rc, rfl, hrl, .inr ⟨rb, ro, rfl, hrb, hrc⟩⟩
  rw [hr8] at hrc ⊢
  have HRC : Hid (∀ i, i < 8 → w.cell? ⟨rb, ro + i, none⟩ = some (.int .i64 (nth r i))) := hrc
  have gz := hcs p.toNat (by omega)
  obtain ⟨z, hzz⟩ : ∃ z, nth zs p.toNat = z := ⟨_, rfl⟩
  rw [hzz] at gz
  have HI : Hid (insW zs ⟨p, r, false⟩ = z) := hzz
  clear hz hh hb hs hcs hrc hrw hE hzz hr8 hrl
  have t1 : b < w.heap.size + 1 := by omega
  have t2 : b < w.heap.size + 1 + 1 := by omega
  have t3 : b < w.heap.size + 1 + 1 + 1 := by omega
  have t4 : b < w.heap.size + 1 + 1 + 1 + 1 := by omega
  have t5 : b < w.heap.size + 1 + 1 + 1 + 1 + 1 := by omega
  have hE2 : riE z = 0 := by have := hI; rw [HI.out] at this; exact this
  have hX2 : riX z = (8, x, y, i) := by have := hX; rw [HI.out] at this; exact this
  have HE2 : Hid (riE z = 0) := hE2
  have HX2 : Hid (riX z = (8, x, y, i)) := hX2
  clear hI hX
  clear hE2 hX2
  go_enter Try.func23, Try.ntmps23
  go_wp2_with fail
  refine (insOf_at HE2.out HX2.out).mono ?_
  rintro e w1 ⟨rfl, b1⟩
  have X0 := ((((((Box.newAt (w := w) (n := w.heap.size) rfl 33 #[.slice (some ⟨b, o, none⟩) 512 cap]).past _).past _).past _).past _).past _).keep b1
  have X1 := (((((Box.newAt (n := w.heap.size + 1) (by simp) 35 #[.int .i64 p, .slice (some ⟨rb, ro, none⟩) 8 rc, .bool false]).past _).past _).past _).past _).keep b1
  have X2 := ((((Box.newAt (n := w.heap.size + 1 + 1) (by simp) 40 #[.int .i64 mo, .int .i64 ba, .slice ca l.length ck, .int .i64 op, .int .i64 oh, .int .i64 ot, .bool st, .int .i64 fe, .int .i64 fp, .int .i64 fh, .int .i64 ft, .bool lo]).past _).past _).past _).keep b1
  have X3 := (((Box.newAt (n := w.heap.size + 1 + 1 + 1) (by simp) 33 #[.slice none 0 0]).past _).past _).keep b1
  have X4 := ((Box.newAt (n := w.heap.size + 1 + 1 + 1 + 1) (by simp) 35 #[.int .i64 0, .slice none 0 0, .bool false]).past _).keep b1
  have X5 := (Box.newAt (n := w.heap.size + 1 + 1 + 1 + 1 + 1) (by simp) 40 #[.int .i64 0, .int .i64 0, .slice none 0 0, .int .i64 0, .int .i64 0, .int .i64 0, .bool false, .int .i64 0, .int .i64 0, .int .i64 0, .int .i64 0, .bool false]).keep b1
  have B1 : Hid (Below w.heap.size w w1) := bel_trans (bel_alloc (bel_alloc (bel_alloc (bel_alloc (bel_alloc (bel_alloc (Below.refl _ _) _) _) _) _) _) _) b1
  have z1 : w.heap.size + 1 + 1 + 1 + 1 + 1 + 1 ≤ w1.heap.size := by have := b1.size; simpa using this
  clear b1 gz t1 t2 t3 t4 t5
  have XI := Box.newAt (w := w1) (n := w1.heap.size) rfl 23 #[.int .i64 8, .int .i64 x, .int .i64 y, .int .i64 i]
  have X0 := X0.past (.cells #[.int .i64 8, .int .i64 x, .int .i64 y, .int .i64 i] 23)
  have X1 := X1.past (.cells #[.int .i64 8, .int .i64 x, .int .i64 y, .int .i64 i] 23)
  have X2 := X2.past (.cells #[.int .i64 8, .int .i64 x, .int .i64 y, .int .i64 i] 23)
  have X3 := X3.past (.cells #[.int .i64 8, .int .i64 x, .int .i64 y, .int .i64 i] 23)
  have X4 := X4.past (.cells #[.int .i64 8, .int .i64 x, .int .i64 y, .int .i64 i] 23)
  have X5 := X5.past (.cells #[.int .i64 8, .int .i64 x, .int .i64 y, .int .i64 i] 23)
  have BW : Hid (Below w.heap.size w (w1.alloc (.cells #[.int .i64 8, .int .i64 x, .int .i64 y, .int .i64 i] 23))) := bel_alloc B1.out _
  clear B1
  go_upto_region 5 with fail
  generalize hI : w1.heap.size = I at *
  generalize hW : (w1.alloc (.cells #[.int .i64 8, .int .i64 x, .int .i64 y, .int .i64 i] 23)) = W at *
  clear hW hI
  have HRW : Hid (Sl W (.slice (some ⟨rb, ro, none⟩) 8 rc) r) := HR.out.keep BW.out
  have HPN : Hid ((IntKind.i64.wrap (p + 1)).tmod 512 = nextP p) := next_wrap hp0 hp1
  have HNE : Hid (r ≠ []) := fun e => by have := H8.out; rw [e] at this; simp at this
  have HOL : Hid (OwnI (W.alloc (.cells #[] 3)) W.heap.size (.slice (some ⟨W.heap.size, 0, none⟩) 0 0) []) := own_lit rfl (Nat.le_refl _)
  have HOL2 : Hid (∀ ob : Obj, OwnI ((W.alloc ob).alloc (.cells #[] 3)) W.heap.size (.slice (some ⟨W.heap.size + 1, 0, none⟩) 0 0) []) := fun ob => own_lit (by simp) (by simp)
  obtain ⟨a0, a1, -, -, -, -, s1⟩ := X1.three
  have zI := XI.lt
  go_cut [12] from 37 to 45 (fun s wx => ∃ n g cg, s = .pointer (some ⟨n, 0, none⟩) ∧ Box wx n 35 #[.int .i64 (nextP p), .slice (some ⟨g, 0, none⟩) r.length cg, .bool false] ∧ OwnI wx W.heap.size (.slice (some ⟨g, 0, none⟩) r.length cg) r ∧ W.heap.size ≤ n ∧ Below W.heap.size W wx)
  case first =>
    go_region_held3 (fun w' => w'.cell? ⟨w.heap.size + 1, 0, none⟩ = some (.int .i64 p) ∧ w'.cell? ⟨w.heap.size + 1, 1, none⟩ = some (.slice (some ⟨rb, ro, none⟩) 8 rc) ∧ Below W.heap.size W w')
      (with_reducible refine keep2H (by assumption) (by assumption) (by assumption) ?_; (repeat (first | with_reducible assumption | (with_reducible (refine limb2H (?_ : _ ∧ _ ∧ _); assumption)) | with_reducible exact Below.refl _ _ | with_reducible refine Below.drew ?_ | with_reducible refine bel_drewN ?_ _ | with_reducible refine bel_alloc ?_ _ | with_reducible refine Below.trans ?_ (by assumption) | (with_reducible refine bel_set3 ?_ ?_ _ _ _; (focus omega)))))
      (first | (refine step_append_I rfl (.tmp 41) (.tmp 43) rfl W.heap.size (.slice (some ⟨_, 0, none⟩) 0 0) (.slice (some ⟨rb, ro, none⟩) 8 rc) [] r rfl rfl ?_ ?_ ?_ ?_ ?_ ?_; (focus ((repeat (first | with_reducible refine OwnI.drew ?_ | with_reducible exact HOL.out | with_reducible exact HOL2.out _ | with_reducible refine OwnI.alloc ?_ _)); done)); (focus (refine HRW.out.keep ?_; (repeat (first | with_reducible exact Below.refl _ _ | with_reducible refine Below.drew ?_ | with_reducible refine bel_alloc ?_ _)); done)); (focus (rw [H8.out]; simp; done)); (focus (first | (simp; done) | (simp; omega))); (focus (exact HNE.out)); intro g cg w7 hown hgr hbel hat; first | (have XN := ord2 hgr; obtain ⟨i0, i1, i2, j0, j1, j2, l9⟩ := XN.three) | (have XN := ord3 hgr; obtain ⟨i0, i1, i2, j0, j1, j2, l9⟩ := XN.three) | skip))
    all_goals (rename_i hH; have HBE := limb2H hH; clear hH)
    all_goals (go_wp2_with fail; go_meet)
    · refine ⟨_, g, cg, rfl, by rw [← HPN.out]; exact Box.newAt rfl _ _, hown.alloc _, by have := hbel.size; simp at this; omega, HBE⟩
    · refine ⟨_, g, cg, rfl, by rw [← HPN.out]; exact XN.set3 _ _ _, hown.far3 (own_ne hown XN) _ _ _, by omega, HBE⟩
    · refine ⟨_, g, cg, rfl, by rw [← HPN.out]; exact XN.set3 _ _ _, hown.far3 (own_ne hown XN) _ _ _, by omega, HBE⟩
  case rest =>
    obtain ⟨n, g, cg, rfl, XN, HO, hn, BC⟩ := hcut
    rw [H8.out] at XN
    have HO : OwnI wc W.heap.size (.slice (some ⟨g, 0, none⟩) 8 cg) r := by rw [← H8.out]; exact HO
    have X0 := X0.keep BC
    have X1 := X1.keep BC
    have X2 := X2.keep BC
    have X3 := X3.keep BC
    have X4 := X4.keep BC
    have X5 := X5.keep BC
    have XI := XI.keep BC
    have B2 : Hid (Below w.heap.size w wc) := bel_trans BW.out BC
    have HOW : Hid (OwnI wc W.heap.size (.slice (some ⟨g, 0, none⟩) 8 cg) r) := HO
    have hgn := own_ne HO XN
    have hgW := HO.base g rfl
    clear BC BW HRW HOL HOL2 HNE HPN HO
    obtain ⟨i1, i2, i3, i4, -⟩ := iE_ok (i_read HE2.out HX2.out).1
    have rx := HW.out x.toNat (by omega)
    have ry := HW.out y.toNat (by omega)
    have gx := HRC.out x.toNat (by omega)
    have gy := HRC.out y.toNat (by omega)
    obtain ⟨one, h1⟩ : ∃ one, nth r x.toNat = one := ⟨_, rfl⟩
    obtain ⟨two, h2⟩ : ∃ two, nth r y.toNat = two := ⟨_, rfl⟩
    rw [h1] at rx gx
    rw [h2] at ry gy
    rw [← B2.out.cell (p := ⟨rb, ro + x.toNat, none⟩) hrb] at gx
    rw [← B2.out.cell (p := ⟨rb, ro + y.toNat, none⟩) hrb] at gy
    have HT : Hid (goS zs ⟨p, r, false⟩ ⟨mo, ba, l, op, oh, ot, st, fe, fp, fh, ft, lo⟩ = exeI zs ⟨p, r, false⟩ ⟨mo, ba, l, op, oh, ot, st, fe, fp, fh, ft, lo⟩ 8 x y i) := by
      show _ = _
      rw [goS, HI.out, if_pos HE2.out, HX2.out]
    have HO1 : Hid (nth r x.toNat = one) := h1
    have HO2 : Hid (nth r y.toNat = two) := h2
    clear h1 h2 HE2 HX2
    clear i1
    obtain ⟨i2a, i2b⟩ := i2
    obtain ⟨i3a, i3b⟩ := i3
    obtain ⟨i4a, i4b⟩ := i4
    obtain ⟨c0, c1, c2, c3, -, -, -, -, zI2⟩ := XI.four
    clear a0 a1 s1
    obtain ⟨a0, a1, -, -, -, -, s1⟩ := X1.three
    have hrb1 : rb < wc.heap.size := by omega
    go_upto_region 6 with fail
    go_quiet (fail)
    have X0 := X0.drewN nq
    have X1 := X1.drewN nq
    have X2 := X2.drewN nq
    have X3 := X3.drewN nq
    have X4 := X4.drewN nq
    have X5 := X5.drewN nq
    have XN := XN.drewN nq
    have XI := XI.drewN nq
    have HOV : Hid (OwnI (wc.drewN nq) W.heap.size (.slice (some ⟨g, 0, none⟩) 8 cg) r) := HOW.out
    have BV : Hid (Below w.heap.size w (wc.drewN nq)) := bel_drewN B2.out nq
    have lg : g < (wc.drewN nq).heap.size := OwnI.lt HOV.out g rfl
    clear HOW B2 gx gy c0 c1 c2 c3 a0 a1 s1 zI2 hrb1
    generalize wc.drewN nq = V at *
    obtain ⟨rx0, rx1⟩ := rx
    obtain ⟨ry0, ry1⟩ := ry
    have hx9 : x < 8 := by omega
    obtain ⟨c0, c1, c2, c3, -, -, -, -, zI2⟩ := XI.four
    obtain ⟨⟨d0, d1, d2, d3, d4, d5, d6, d7, d8, d9, d10, d11⟩, s2⟩ := X2.twelve
    obtain ⟨sv, hsv⟩ : ∃ sv, stB ⟨mo, ba, l, op, oh, ot, st, fe, fp, fh, ft, lo⟩ = sv := ⟨_, rfl⟩
    have HSV0 : Hid (stB ⟨mo, ba, l, op, oh, ot, st, fe, fp, fh, ft, lo⟩ = sv) := hsv
    obtain ⟨sq, hsq⟩ : ∃ sq : Int, (if st = true then (1 : Int) else 0) = sq := ⟨_, rfl⟩
    go_upto_if 160 with fail
    go_cut [15, 160, 161, 162] from 160 to 162 (fun s _ _ _ wx => s = .int .i64 sq ∧ wx = V)
    case first =>
      cases st
      · go_wp2_with fail
        go_meet
        exact ⟨by rw [← hsq]; rfl, rfl⟩
      · go_wp2_with fail
        go_meet
        exact ⟨by rw [← hsq]; rfl, rfl⟩
    case rest =>
      obtain ⟨rfl, hwc⟩ := hcut
      rw [hwc]
      clear hwc
      have hsq0 : 0 ≤ sq ∧ sq ≤ 1 := by rw [← hsq]; cases st <;> decide
      obtain ⟨hs0, hs1⟩ := hsq0
      have HSV : Hid (sq + (if lo = true then 2 else 0) = sv) := by show _ = _; rw [← hsv, ← hsq]; rfl
      clear hsv hsq
      go_upto_if 164 with fail
      go_cut [15, 164, 165, 166] from 164 to 166 (fun s _ _ _ wx => s = .int .i64 sv ∧ wx = V)
      case first =>
        cases lo
        · go_wp2_with fail
          go_meet
          exact ⟨by rw [← HSV.out]; simp, rfl⟩
        · go_wp2_with fail
          go_meet
          exact ⟨by rw [← HSV.out]; simp, rfl⟩
      case rest =>
        obtain ⟨rfl, hwc⟩ := hcut
        rw [hwc]
        clear hwc
        by_cases hq : i ≤ 9
        · focus
          have hq1 : ¬ 9 < i := by omega
          have hi10 : i < 10 := by omega
          obtain ⟨v2, hv2⟩ : ∃ v2, regB ⟨mo, ba, l, op, oh, ot, st, fe, fp, fh, ft, lo⟩ i = v2 := ⟨_, rfl⟩
          have HT1 : Hid (goS zs ⟨p, r, false⟩ ⟨mo, ba, l, op, oh, ot, st, fe, fp, fh, ft, lo⟩ = (zs, ⟨nextP p, r.set x.toNat v2, false⟩, ⟨mo, ba, l, op, oh, ot, st, fe, fp, fh, ft, lo⟩)) := by
            show _ = _
            rw [HT.out, exeI, if_neg (by decide), if_neg (by decide), if_neg (by decide), if_neg (by decide), if_neg (by decide), if_neg (by decide), if_neg (by decide), if_pos rfl, if_pos hq, hv2]
          have hall : ∀ j : Nat, j < 10 → nth [mo, ba, op, ot, oh, fp, fh, ft, fe, sv] j = regB ⟨mo, ba, l, op, oh, ot, st, fe, fp, fh, ft, lo⟩ j := fun j hj => by
            have e : j = 0 ∨ j = 1 ∨ j = 2 ∨ j = 3 ∨ j = 4 ∨ j = 5 ∨ j = 6 ∨ j = 7 ∨ j = 8 ∨ j = 9 := by omega
            rcases e with rfl | rfl | rfl | rfl | rfl | rfl | rfl | rfl | rfl | rfl
            all_goals first | rfl | (show sv = stB _; rw [← HSV0.out])
          have hnt : nth [mo, ba, op, ot, oh, fp, fh, ft, fe, sv] i.toNat = v2 := by rw [hall _ (by omega), ← hv2]; congr 1; omega
          have SL10 : Sl (V.alloc (.cells #[.int .i64 mo, .int .i64 ba, .int .i64 op, .int .i64 ot, .int .i64 oh, .int .i64 fp, .int .i64 fh, .int .i64 ft, .int .i64 fe, .int .i64 sv] 3)) (.slice (some ⟨V.heap.size, 0, none⟩) 10 10) [mo, ba, op, ot, oh, fp, fh, ft, fe, sv] := sl_block (heap_at rfl) rfl rfl (by simp [maxLen])
          clear hall hq hv2
          go_upto_region 40 with fail
          have X0 := X0.past (.cells #[.int .i64 mo, .int .i64 ba, .int .i64 op, .int .i64 ot, .int .i64 oh, .int .i64 fp, .int .i64 fh, .int .i64 ft, .int .i64 fe, .int .i64 sv] 3)
          have X1 := X1.past (.cells #[.int .i64 mo, .int .i64 ba, .int .i64 op, .int .i64 ot, .int .i64 oh, .int .i64 fp, .int .i64 fh, .int .i64 ft, .int .i64 fe, .int .i64 sv] 3)
          have X2 := X2.past (.cells #[.int .i64 mo, .int .i64 ba, .int .i64 op, .int .i64 ot, .int .i64 oh, .int .i64 fp, .int .i64 fh, .int .i64 ft, .int .i64 fe, .int .i64 sv] 3)
          have X3 := X3.past (.cells #[.int .i64 mo, .int .i64 ba, .int .i64 op, .int .i64 ot, .int .i64 oh, .int .i64 fp, .int .i64 fh, .int .i64 ft, .int .i64 fe, .int .i64 sv] 3)
          have X4 := X4.past (.cells #[.int .i64 mo, .int .i64 ba, .int .i64 op, .int .i64 ot, .int .i64 oh, .int .i64 fp, .int .i64 fh, .int .i64 ft, .int .i64 fe, .int .i64 sv] 3)
          have X5 := X5.past (.cells #[.int .i64 mo, .int .i64 ba, .int .i64 op, .int .i64 ot, .int .i64 oh, .int .i64 fp, .int .i64 fh, .int .i64 ft, .int .i64 fe, .int .i64 sv] 3)
          have XN := XN.past (.cells #[.int .i64 mo, .int .i64 ba, .int .i64 op, .int .i64 ot, .int .i64 oh, .int .i64 fp, .int .i64 fh, .int .i64 ft, .int .i64 fe, .int .i64 sv] 3)
          have XI := XI.past (.cells #[.int .i64 mo, .int .i64 ba, .int .i64 op, .int .i64 ot, .int .i64 oh, .int .i64 fp, .int .i64 fh, .int .i64 ft, .int .i64 fe, .int .i64 sv] 3)
          have HOV : Hid (OwnI (V.alloc (.cells #[.int .i64 mo, .int .i64 ba, .int .i64 op, .int .i64 ot, .int .i64 oh, .int .i64 fp, .int .i64 fh, .int .i64 ft, .int .i64 fe, .int .i64 sv] 3)) W.heap.size (.slice (some ⟨g, 0, none⟩) 8 cg) r) := OwnI.alloc HOV.out _
          have BV : Hid (Below w.heap.size w (V.alloc (.cells #[.int .i64 mo, .int .i64 ba, .int .i64 op, .int .i64 ot, .int .i64 oh, .int .i64 fp, .int .i64 fh, .int .i64 ft, .int .i64 fe, .int .i64 sv] 3))) := bel_alloc BV.out _
          have cT : (V.alloc (.cells #[.int .i64 mo, .int .i64 ba, .int .i64 op, .int .i64 ot, .int .i64 oh, .int .i64 fp, .int .i64 fh, .int .i64 ft, .int .i64 fe, .int .i64 sv] 3)).cell? ⟨V.heap.size, i.toNat, none⟩ = some (.int .i64 v2) := by
            obtain ⟨aa, cc, h1, _, h2⟩ := SL10
            simp only [Value.slice.injEq] at h1
            obtain ⟨rfl, -, rfl⟩ := h1
            rcases h2 with h2 | ⟨b', o', h3, _, h4⟩
            · cases h2
            · simp only [Option.some.injEq, Addr.mk.injEq, and_true] at h3
              obtain ⟨rfl, rfl⟩ := h3
              have := h4 i.toNat (by simp; omega)
              rw [Nat.zero_add, hnt] at this
              exact this
          have lT : V.heap.size < (V.alloc (.cells #[.int .i64 mo, .int .i64 ba, .int .i64 op, .int .i64 ot, .int .i64 oh, .int .i64 fp, .int .i64 fh, .int .i64 ft, .int .i64 fe, .int .i64 sv] 3)).heap.size := by simp
          have lgT : g < V.heap.size := lg
          clear SL10 hnt c0 c1 c2 c3 zI2 d0 d1 d2 d3 d4 d5 d6 d7 d8 d9 d10 d11 s2 lg
          generalize (V.alloc (.cells #[.int .i64 mo, .int .i64 ba, .int .i64 op, .int .i64 ot, .int .i64 oh, .int .i64 fp, .int .i64 fh, .int .i64 ft, .int .i64 fe, .int .i64 sv] 3)) = V1 at *
          generalize V.heap.size = TT at *
          refine wp_region_late (by kernel_rfl) 10 (fun w' => Below V1.heap.size V1 w') (Below.drew (Below.refl _ _)) (fun hHeld => ?_)
          refine wpLate_takeL (i := 0) (v := ?_) rfl (by kernel_rfl) (by kernel_rfl) (by kernel_rfl) (by kernel_rfl) (by kernel_rfl) (fun _ _ _ h => h) (Or.inl ⟨by kernel_rfl, ?_⟩) (by assumption) ?_
          rotate_left 1
          focus (intro wz hSz; (try dsimp only at hSz); (obtain ⟨m0, -, s0⟩ := (X0.keep hSz).one); (obtain ⟨n0, n1, n2, -, -, -, zN⟩ := (XN.keep hSz).three); (obtain ⟨c0, c1, c2, c3, -, -, -, -, zI2⟩ := (XI.keep hSz).four); (have gq := (hSz.cell (p := ⟨TT, i.toNat, none⟩) lT).trans cT); go_simp; (try with_reducible rfl))
          simp only [Act.put, List.setIfInBounds_toArray, List.set_cons_zero, List.set_cons_succ]
          refine wpLate_takeL (i := 1) (v := ?_) rfl (by kernel_rfl) (by kernel_rfl) (by kernel_rfl) (by kernel_rfl) (by kernel_rfl) (fun _ _ _ h => h) (Or.inl ⟨by kernel_rfl, ?_⟩) (by assumption) ?_
          rotate_left 1
          focus (intro wz hSz; (try dsimp only at hSz); (obtain ⟨m0, -, s0⟩ := (X0.keep hSz).one); (obtain ⟨n0, n1, n2, -, -, -, zN⟩ := (XN.keep hSz).three); (obtain ⟨c0, c1, c2, c3, -, -, -, -, zI2⟩ := (XI.keep hSz).four); (have gq := (hSz.cell (p := ⟨TT, i.toNat, none⟩) lT).trans cT); go_simp; (try with_reducible rfl))
          simp only [Act.put, List.setIfInBounds_toArray, List.set_cons_zero, List.set_cons_succ]
          refine wpLate_takeL (i := 2) (v := ?_) rfl (by kernel_rfl) (by kernel_rfl) (by kernel_rfl) (by kernel_rfl) (by kernel_rfl) (fun _ _ _ h => h) (Or.inl ⟨by kernel_rfl, ?_⟩) (by assumption) ?_
          rotate_left 1
          focus (intro wz hSz; (try dsimp only at hSz); (obtain ⟨m0, -, s0⟩ := (X0.keep hSz).one); (obtain ⟨n0, n1, n2, -, -, -, zN⟩ := (XN.keep hSz).three); (obtain ⟨c0, c1, c2, c3, -, -, -, -, zI2⟩ := (XI.keep hSz).four); (have gq := (hSz.cell (p := ⟨TT, i.toNat, none⟩) lT).trans cT); go_simp; (try with_reducible rfl))
          simp only [Act.put, List.setIfInBounds_toArray, List.set_cons_zero, List.set_cons_succ]
          refine wpLate_takeL (i := 3) (v := ?_) rfl (by kernel_rfl) (by kernel_rfl) (by kernel_rfl) (by kernel_rfl) (by kernel_rfl) (fun _ _ _ h => h) (Or.inl ⟨by kernel_rfl, ?_⟩) (by assumption) ?_
          rotate_left 1
          focus (intro wz hSz; (try dsimp only at hSz); (obtain ⟨m0, -, s0⟩ := (X0.keep hSz).one); (obtain ⟨n0, n1, n2, -, -, -, zN⟩ := (XN.keep hSz).three); (obtain ⟨c0, c1, c2, c3, -, -, -, -, zI2⟩ := (XI.keep hSz).four); (have gq := (hSz.cell (p := ⟨TT, i.toNat, none⟩) lT).trans cT); go_simp; (try with_reducible rfl))
          simp only [Act.put, List.setIfInBounds_toArray, List.set_cons_zero, List.set_cons_succ]
          refine wpLate_takeL (i := 4) (v := ?_) rfl (by kernel_rfl) (by kernel_rfl) (by kernel_rfl) (by kernel_rfl) (by kernel_rfl) (fun _ _ _ h => h) (Or.inl ⟨by kernel_rfl, ?_⟩) (by assumption) ?_
          rotate_left 1
          focus (intro wz hSz; (try dsimp only at hSz); (obtain ⟨m0, -, s0⟩ := (X0.keep hSz).one); (obtain ⟨n0, n1, n2, -, -, -, zN⟩ := (XN.keep hSz).three); (obtain ⟨c0, c1, c2, c3, -, -, -, -, zI2⟩ := (XI.keep hSz).four); (have gq := (hSz.cell (p := ⟨TT, i.toNat, none⟩) lT).trans cT); go_simp; (try with_reducible rfl))
          simp only [Act.put, List.setIfInBounds_toArray, List.set_cons_zero, List.set_cons_succ]
          refine wpLate_takeL (i := 5) (v := ?_) rfl (by kernel_rfl) (by kernel_rfl) (by kernel_rfl) (by kernel_rfl) (by kernel_rfl) (fun _ _ _ h => h) (Or.inl ⟨by kernel_rfl, ?_⟩) (by assumption) ?_
          rotate_left 1
          focus (intro wz hSz; (try dsimp only at hSz); (obtain ⟨m0, -, s0⟩ := (X0.keep hSz).one); (obtain ⟨n0, n1, n2, -, -, -, zN⟩ := (XN.keep hSz).three); (obtain ⟨c0, c1, c2, c3, -, -, -, -, zI2⟩ := (XI.keep hSz).four); (have gq := (hSz.cell (p := ⟨TT, i.toNat, none⟩) lT).trans cT); go_simp; (try with_reducible rfl))
          simp only [Act.put, List.setIfInBounds_toArray, List.set_cons_zero, List.set_cons_succ]
          refine wpLate_takeL (i := 6) (v := ?_) rfl (by kernel_rfl) (by kernel_rfl) (by kernel_rfl) (by kernel_rfl) (by kernel_rfl) (fun _ _ _ h => h) (Or.inl ⟨by kernel_rfl, ?_⟩) (by assumption) ?_
          rotate_left 1
          focus (intro wz hSz; (try dsimp only at hSz); (obtain ⟨m0, -, s0⟩ := (X0.keep hSz).one); (obtain ⟨n0, n1, n2, -, -, -, zN⟩ := (XN.keep hSz).three); (obtain ⟨c0, c1, c2, c3, -, -, -, -, zI2⟩ := (XI.keep hSz).four); (have gq := (hSz.cell (p := ⟨TT, i.toNat, none⟩) lT).trans cT); go_simp; (try with_reducible rfl))
          simp only [Act.put, List.setIfInBounds_toArray, List.set_cons_zero, List.set_cons_succ]
          refine wpLate_takeL (i := 7) (v := ?_) rfl (by kernel_rfl) (by kernel_rfl) (by kernel_rfl) (by kernel_rfl) (by kernel_rfl) (fun _ _ _ h => h) (Or.inl ⟨by kernel_rfl, ?_⟩) (by assumption) ?_
          rotate_left 1
          focus (intro wz hSz; (try dsimp only at hSz); (obtain ⟨m0, -, s0⟩ := (X0.keep hSz).one); (obtain ⟨n0, n1, n2, -, -, -, zN⟩ := (XN.keep hSz).three); (obtain ⟨c0, c1, c2, c3, -, -, -, -, zI2⟩ := (XI.keep hSz).four); (have gq := (hSz.cell (p := ⟨TT, i.toNat, none⟩) lT).trans cT); go_simp; (try with_reducible rfl))
          simp only [Act.put, List.setIfInBounds_toArray, List.set_cons_zero, List.set_cons_succ]
          refine wpLate_takeL (i := 8) (v := ?_) rfl (by kernel_rfl) (by kernel_rfl) (by kernel_rfl) (by kernel_rfl) (by kernel_rfl) (fun _ _ _ h => h) (Or.inl ⟨by kernel_rfl, ?_⟩) (by assumption) ?_
          rotate_left 1
          focus (intro wz hSz; (try dsimp only at hSz); (obtain ⟨m0, -, s0⟩ := (X0.keep hSz).one); (obtain ⟨n0, n1, n2, -, -, -, zN⟩ := (XN.keep hSz).three); (obtain ⟨c0, c1, c2, c3, -, -, -, -, zI2⟩ := (XI.keep hSz).four); (have gq := (hSz.cell (p := ⟨TT, i.toNat, none⟩) lT).trans cT); go_simp; (try with_reducible rfl))
          simp only [Act.put, List.setIfInBounds_toArray, List.set_cons_zero, List.set_cons_succ]
          refine wpLate_takeL (i := 9) (v := ?_) rfl (by kernel_rfl) (by kernel_rfl) (by kernel_rfl) (by kernel_rfl) (by kernel_rfl) (fun _ _ _ h => h) (Or.inl ⟨by kernel_rfl, ?_⟩) (by assumption) ?_
          rotate_left 1
          focus (intro wz hSz; (try dsimp only at hSz); (obtain ⟨m0, -, s0⟩ := (X0.keep hSz).one); (obtain ⟨n0, n1, n2, -, -, -, zN⟩ := (XN.keep hSz).three); (obtain ⟨c0, c1, c2, c3, -, -, -, -, zI2⟩ := (XI.keep hSz).four); (have gq := (hSz.cell (p := ⟨TT, i.toNat, none⟩) lT).trans cT); go_simp; (try with_reducible rfl))
          simp only [Act.put, List.setIfInBounds_toArray, List.set_cons_zero, List.set_cons_succ]
          have q1 := OwnI.cellAt HOV.out (i := x.toNat) (by rw [H8.out]; omega)
          have q2 := OwnI.frozenAt HOV.out x.toNat
          refine wpLate_oneL (i := 10) (by kernel_rfl) (by rfl) (fun K hK => ?_)
          go_simp
          refine hK.out _ _ (fun h => absurd h (by decide)) ?_
          clear hK K
          refine wpLate_done (by kernel_rfl) ?_ _
          clear hHeld q1 q2
          have X0 := X0.other (p := ⟨g, x.toNat, none⟩) (by show w.heap.size ≠ g; omega) (.int .i64 v2)
          have X1 := X1.other (p := ⟨g, x.toNat, none⟩) (by show w.heap.size + 1 ≠ g; omega) (.int .i64 v2)
          have X2 := X2.other (p := ⟨g, x.toNat, none⟩) (by show w.heap.size + 1 + 1 ≠ g; omega) (.int .i64 v2)
          have X3 := X3.other (p := ⟨g, x.toNat, none⟩) (by show w.heap.size + 1 + 1 + 1 ≠ g; omega) (.int .i64 v2)
          have X4 := X4.other (p := ⟨g, x.toNat, none⟩) (by show w.heap.size + 1 + 1 + 1 + 1 ≠ g; omega) (.int .i64 v2)
          have X5 := X5.other (p := ⟨g, x.toNat, none⟩) (by show w.heap.size + 1 + 1 + 1 + 1 + 1 ≠ g; omega) (.int .i64 v2)
          have XN := XN.other (p := ⟨g, x.toNat, none⟩) (by show n ≠ g; omega) (.int .i64 v2)
          have HOV : Hid (OwnI (V1.setCell ⟨g, x.toNat, none⟩ (.int .i64 v2)) W.heap.size (.slice (some ⟨g, 0, none⟩) 8 cg) (r.set x.toNat v2)) := OwnI.setAt HOV.out x.toNat v2
          have BV : Hid (Below w.heap.size w (V1.setCell ⟨g, x.toNat, none⟩ (.int .i64 v2))) := BV.out.setCell (p := ⟨g, x.toNat, none⟩) (by show w.heap.size ≤ g; omega) (.int .i64 v2)
          have X0 := X0.drew
          have X1 := X1.drew
          have X2 := X2.drew
          have X3 := X3.drew
          have X4 := X4.drew
          have X5 := X5.drew
          have XN := XN.drew
          have HOV : Hid (OwnI (V1.setCell ⟨g, x.toNat, none⟩ (.int .i64 v2)).drew W.heap.size (.slice (some ⟨g, 0, none⟩) 8 cg) (r.set x.toNat v2)) := HOV.out
          have BV : Hid (Below w.heap.size w (V1.setCell ⟨g, x.toNat, none⟩ (.int .i64 v2)).drew) := Below.drew BV.out
          generalize (V1.setCell ⟨g, x.toNat, none⟩ (.int .i64 v2)).drew = V2 at *
          go_upto_region 63 with fail
          have B3 := BV
          have ZO := HOV
          clear BV HOV
          obtain ⟨m0, -, s0⟩ := X0.one
          obtain ⟨n0, n1, n2, -, -, -, zN⟩ := XN.three
          obtain ⟨⟨d0, d1, d2, d3, d4, d5, d6, d7, d8, d9, d10, d11⟩, s2⟩ := X2.twelve
          obtain ⟨a3, j3, s3⟩ := X3.one
          obtain ⟨a0, a1, a2, f0, f1, f2, s4⟩ := X4.three
          obtain ⟨⟨q0, q1, q2, q3, q4, q5, q6, q7, q8, q9, q10, q11⟩, s5⟩ := X5.twelve
          obtain ⟨y0, y1, y2, y3, y4, y5, y6, y7, y8, y9, y10, y11⟩ := X5.marks
          clear X0 X1 X2 X3 X4 X5 XN XI
          have e1 : ¬ n = w.heap.size + 1 + 1 + 1 := by omega
          have e2 : ¬ n = w.heap.size + 1 + 1 + 1 + 1 := by omega
          have e3 : ¬ n = w.heap.size + 1 + 1 + 1 + 1 + 1 := by omega
          go_region
          go_wp2
          refine bodyPost_ret (v := .tuple #[.agg #[.slice (some ⟨b, o, none⟩) 512 cap], .agg #[.int .i64 (nextP p), .slice (some ⟨g, 0, none⟩) 8 cg, .bool false], .agg #[.int .i64 mo, .int .i64 ba, .slice ca l.length ck, .int .i64 op, .int .i64 oh, .int .i64 ot, .bool st, .int .i64 fe, .int .i64 fp, .int .i64 fh, .int .i64 ft, .bool lo]]) (by simp [results, Try.results23, go_sem, *]) rfl ⟨_, _, _, _, _, _, _, _, _, _, _, _, _, _, rfl, HM.out.keep ?_, OwnI.sl (base := W.heap.size) ?_ (by rw [List.length_set, H8.out]; simp [maxLen]), HT1.out, ?_⟩
          rotate_left
          · repeat (first | with_reducible exact ZO.out | with_reducible refine OwnI.drew ?_ | with_reducible refine OwnI.alloc ?_ _ | (with_reducible refine OwnI.setLow ?_ ?_ _; (focus omega)))
          all_goals (repeat (first | with_reducible exact B3.out | with_reducible refine Below.drew ?_ | with_reducible refine bel_alloc ?_ _ | (with_reducible refine bel_set12 ?_ ?_ _ _ _ _ _ _ _ _ _ _ _ _; (focus omega)) | (with_reducible refine bel_set3 ?_ ?_ _ _ _; (focus omega)) | (with_reducible refine bel_set1 ?_ ?_ _; (focus omega))))
        · focus
          have hq1 : 9 < i := by omega
          go_upto_region 39 with fail
          clear c0 c1 c2 c3 zI2 d0 d1 d2 d3 d4 d5 d6 d7 d8 d9 d10 d11 s2
          have X0 := X0.past (.cells #[.int .i64 mo, .int .i64 ba, .int .i64 op, .int .i64 ot, .int .i64 oh, .int .i64 fp, .int .i64 fh, .int .i64 ft, .int .i64 fe, .int .i64 sv] 3)
          have X1 := X1.past (.cells #[.int .i64 mo, .int .i64 ba, .int .i64 op, .int .i64 ot, .int .i64 oh, .int .i64 fp, .int .i64 fh, .int .i64 ft, .int .i64 fe, .int .i64 sv] 3)
          have X2 := X2.past (.cells #[.int .i64 mo, .int .i64 ba, .int .i64 op, .int .i64 ot, .int .i64 oh, .int .i64 fp, .int .i64 fh, .int .i64 ft, .int .i64 fe, .int .i64 sv] 3)
          have X3 := X3.past (.cells #[.int .i64 mo, .int .i64 ba, .int .i64 op, .int .i64 ot, .int .i64 oh, .int .i64 fp, .int .i64 fh, .int .i64 ft, .int .i64 fe, .int .i64 sv] 3)
          have X4 := X4.past (.cells #[.int .i64 mo, .int .i64 ba, .int .i64 op, .int .i64 ot, .int .i64 oh, .int .i64 fp, .int .i64 fh, .int .i64 ft, .int .i64 fe, .int .i64 sv] 3)
          have X5 := X5.past (.cells #[.int .i64 mo, .int .i64 ba, .int .i64 op, .int .i64 ot, .int .i64 oh, .int .i64 fp, .int .i64 fh, .int .i64 ft, .int .i64 fe, .int .i64 sv] 3)
          have BV : Hid (Below w.heap.size w (V.alloc (.cells #[.int .i64 mo, .int .i64 ba, .int .i64 op, .int .i64 ot, .int .i64 oh, .int .i64 fp, .int .i64 fh, .int .i64 ft, .int .i64 fe, .int .i64 sv] 3))) := bel_alloc BV.out _
          generalize (V.alloc (.cells #[.int .i64 mo, .int .i64 ba, .int .i64 op, .int .i64 ot, .int .i64 oh, .int .i64 fp, .int .i64 fh, .int .i64 ft, .int .i64 fe, .int .i64 sv] 3)) = V1 at *
          have HT1 : Hid (goS zs ⟨p, r, false⟩ ⟨mo, ba, l, op, oh, ot, st, fe, fp, fh, ft, lo⟩ = (zs, ⟨p, r, true⟩, ⟨mo, ba, l, op, oh, ot, st, fe, fp, fh, ft, lo⟩)) := by
            show _ = _
            rw [HT.out, exeI, if_neg (by decide), if_neg (by decide), if_neg (by decide), if_neg (by decide), if_neg (by decide), if_neg (by decide), if_neg (by decide), if_pos rfl, if_neg hq]; rfl
          go_wp2_with fail
          refine (stands_any (w.heap.size + 1) w.heap.size (w.heap.size + 1 + 1) _ _ p false mo ba op oh ot fe fp fh ft st lo _ _ X1 X0 X2 (by omega) (by omega) ⟨_, _, _, rfl⟩ ⟨_, _, _, rfl⟩ ⟨_, _, _, rfl⟩).mono ?_
          rintro e w2 ⟨rfl, K⟩
          have Y3 := K.box _ _ _ (by omega) X3
          have Y4 := K.box _ _ _ (by omega) X4
          have Y5 := K.box _ _ _ (by omega) X5
          have B3 : Hid (Below w.heap.size w w2) := K.bel w (by omega) BV.out
          clear K X0 X1 X2 X3 X4 X5 XN XI HOV BV
          obtain ⟨m0, j0, s3⟩ := Y3.one
          obtain ⟨a0, a1, a2, f0, f1, f2, s4⟩ := Y4.three
          obtain ⟨⟨q0, q1, q2, q3, q4, q5, q6, q7, q8, q9, q10, q11⟩, s5⟩ := Y5.twelve
          obtain ⟨y0, y1, y2, y3, y4, y5, y6, y7, y8, y9, y10, y11⟩ := Y5.marks
          clear Y3 Y4 Y5
          go_wp2
          refine bodyPost_ret (v := .tuple #[.agg #[.slice (some ⟨b, o, none⟩) 512 cap], .agg #[.int .i64 p, .slice (some ⟨rb, ro, none⟩) 8 rc, .bool true], .agg #[.int .i64 mo, .int .i64 ba, .slice ca l.length ck, .int .i64 op, .int .i64 oh, .int .i64 ot, .bool st, .int .i64 fe, .int .i64 fp, .int .i64 fh, .int .i64 ft, .bool lo]]) (by simp [results, Try.results23, go_sem, *]) rfl ⟨_, _, _, _, _, _, _, _, _, _, _, _, _, _, rfl, HM.out.keep ?_, HR.out.keep ?_, HT1.out, ?_⟩
          all_goals (repeat (first | with_reducible exact B3.out | with_reducible refine Below.drew ?_ | with_reducible refine bel_alloc ?_ _ | (with_reducible refine bel_set12 ?_ ?_ _ _ _ _ _ _ _ _ _ _ _ _; (focus omega)) | (with_reducible refine bel_set3 ?_ ?_ _ _ _; (focus omega)) | (with_reducible refine bel_set1 ?_ ?_ _; (focus omega))))
end Go.Proofs.Ytfbmmiikhkmpfac
/-
  drawbridgeref's Stepped: what it answers, of right ones and a hart that isn't Done; nothing that was there turns.
-/
namespace Go.Proofs.Ytfbmmiikhkmpfac
open Go.RowKit

theorem stepped_any (v : Value) (zs : List Int) (p : Int) (u : Value) (r : List Int) (mo ba op oh ot fe fp fh ft : Int) (st lo : Bool) (vc : Value) (l : List Ln) (w : World) (hs : Sl w v zs) (hr : Sl w u r) (h : Ls w vc l) (hE : stE zs ⟨p, r, false⟩ ⟨mo, ba, l, op, oh, ot, st, fe, fp, fh, ft, lo⟩ = 0) :
    Calls Try.prog 23 #[.agg #[v], .agg #[.int .i64 p, u, .bool false], .agg #[.int .i64 mo, .int .i64 ba, vc, .int .i64 op, .int .i64 oh, .int .i64 ot, .bool st, .int .i64 fe, .int .i64 fp, .int .i64 fh, .int .i64 ft, .bool lo]] w fun e w' => StepOut w.heap.size zs ⟨p, r, false⟩ mo ba op oh ot fe fp fh ft st lo vc l w e w' := by
  by_cases hI : riE (insW zs ⟨p, r, false⟩) = 0
  rotate_left
  · exact stepped_bad v zs p u r mo ba op oh ot fe fp fh ft st lo vc l w hs hr h hE hI
  obtain ⟨k, x, y, i, hX⟩ : ∃ k x y i, riX (insW zs ⟨p, r, false⟩) = (k, x, y, i) := ⟨_, _, _, _, rfl⟩
  obtain ⟨hk, -, -, -, -⟩ := iE_ok (i_read hI hX).1
  have parts : k = 0 ∨ k = 1 ∨ k = 2 ∨ k = 3 ∨ k = 4 ∨ k = 5 ∨ k = 6 ∨ k = 7 ∨ k = 8 := by omega
  rcases parts with rfl | rfl | rfl | rfl | rfl | rfl | rfl | rfl | rfl
  · exact stepped_0 v zs p u r mo ba op oh ot fe fp fh ft st lo vc l w hs hr h hE x y i hI hX
  · exact stepped_1 v zs p u r mo ba op oh ot fe fp fh ft st lo vc l w hs hr h hE x y i hI hX
  · exact stepped_2 v zs p u r mo ba op oh ot fe fp fh ft st lo vc l w hs hr h hE x y i hI hX
  · exact stepped_3 v zs p u r mo ba op oh ot fe fp fh ft st lo vc l w hs hr h hE x y i hI hX
  · exact stepped_4 v zs p u r mo ba op oh ot fe fp fh ft st lo vc l w hs hr h hE x y i hI hX
  · exact stepped_5 v zs p u r mo ba op oh ot fe fp fh ft st lo vc l w hs hr h hE x y i hI hX
  · exact stepped_6 v zs p u r mo ba op oh ot fe fp fh ft st lo vc l w hs hr h hE x y i hI hX
  · by_cases hi : i = 0 ∨ i = 1 ∨ i = 2 ∨ i = 3 ∨ i = 5 ∨ i = 6 ∨ i = 9
    · rcases hi with rfl | rfl | rfl | rfl | rfl | rfl | rfl
      · exact stepped_7_0 v zs p u r mo ba op oh ot fe fp fh ft st lo vc l w hs hr h hE x y hI hX
      · exact stepped_7_1 v zs p u r mo ba op oh ot fe fp fh ft st lo vc l w hs hr h hE x y hI hX
      · exact stepped_7_2 v zs p u r mo ba op oh ot fe fp fh ft st lo vc l w hs hr h hE x y hI hX
      · exact stepped_7_3 v zs p u r mo ba op oh ot fe fp fh ft st lo vc l w hs hr h hE x y hI hX
      · exact stepped_7_5 v zs p u r mo ba op oh ot fe fp fh ft st lo vc l w hs hr h hE x y hI hX
      · exact stepped_7_6 v zs p u r mo ba op oh ot fe fp fh ft st lo vc l w hs hr h hE x y hI hX
      · exact stepped_7_9 v zs p u r mo ba op oh ot fe fp fh ft st lo vc l w hs hr h hE x y hI hX
    · exact stepped_7_no v zs p u r mo ba op oh ot fe fp fh ft st lo vc l w hs hr h hE x y i hI hX hi
  · exact stepped_8 v zs p u r mo ba op oh ot fe fp fh ft st lo vc l w hs hr h hE x y i hI hX
end Go.Proofs.Ytfbmmiikhkmpfac
/-
  slices.Equal on two slices of lines answers whether they read as one list, whatever they are; it only reads.
-/
namespace Go.Proofs.Ytfbmmiikhkmpfac
open Go.RowKit

theorem lines_ext {xs ys : List Ln} (hl : xs.length = ys.length) (h : ∀ i, i < xs.length → lth xs i = lth ys i) : xs = ys := by
  apply List.ext_getElem hl
  intro i h1 h2
  have := h i h1
  rwa [lth_get h1, lth_get h2] at this
theorem lines_ne {xs ys : List Ln} {i : Nat} (h : ¬ lth xs i = lth ys i) : ¬ xs = ys := fun e => h (by rw [e])
/-- Where two lines part first. -/
theorem line_diff {a b c : Int} {d e : Bool} {a' b' c' : Int} {d' e' : Bool} (h : ¬ (a, b, c, d, e) = (a', b', c', d', e')) :
    ¬ a = a' ∨ (a = a' ∧ ¬ b = b') ∨ (a = a' ∧ b = b' ∧ ¬ c = c') ∨ (a = a' ∧ b = b' ∧ c = c' ∧ ¬ d = d') ∨ (a = a' ∧ b = b' ∧ c = c' ∧ d = d' ∧ ¬ e = e') := by
  simp only [Prod.mk.injEq] at h
  by_cases h1 : a = a'
  · by_cases h2 : b = b'
    · by_cases h3 : c = c'
      · by_cases h4 : d = d'
        · by_cases h5 : e = e'
          · exact absurd ⟨h1, h2, h3, h4, h5⟩ h
          · exact .inr (.inr (.inr (.inr ⟨h1, h2, h3, h4, h5⟩)))
        · exact .inr (.inr (.inr (.inl ⟨h1, h2, h3, h4⟩)))
      · exact .inr (.inr (.inl ⟨h1, h2, h3⟩))
    · exact .inr (.inl ⟨h1, h2⟩)
  · exact .inl h1

set_option maxHeartbeats 1000000 in
theorem equalL_any (v1 v2 : Value) (xs ys : List Ln) (w : World) (h1 : Ls w v1 xs) (h2 : Ls w v2 ys) :
    Calls Try.prog 27 #[v1, v2] w fun e w' => e = .returned (.bool (decide (xs = ys))) ∧ ∃ n, w' = w.drewN n := by
  obtain ⟨a1, c1, rfl, n1, l1, h1⟩ := h1
  obtain ⟨a2, c2, rfl, n2, l2, h2⟩ := h2
  unfold maxLen at l1 l2
  by_cases hl : xs.length = ys.length
  · have hne : ((xs.length : Int) != (ys.length : Int)) = false := by simp [hl]
    rcases h1 with rfl | ⟨b1, o1, rfl, hb1, hc1⟩
    · obtain rfl : ys = [] := List.eq_nil_of_length_eq_zero hl.symm
      go_enter Try.func27, Try.ntmps27
      go_wp2
      go_loopw [5, 13] (fun _ i w' => i = .int .i64 0 ∧ w' = w) (fun _ i _ => 0)
      case atStart => exact ⟨rfl, rfl⟩
      case round =>
        obtain ⟨rfl, rfl⟩ := hrel
        go_wp2
        go_ret
        exact ⟨rfl, 0, rfl⟩
    · rcases h2 with rfl | ⟨b2, o2, rfl, hb2, hc2⟩
      · obtain rfl : xs = [] := List.eq_nil_of_length_eq_zero hl
        go_enter Try.func27, Try.ntmps27
        go_wp2
        go_loopw [5, 13] (fun _ i w' => i = .int .i64 0 ∧ w' = w) (fun _ i _ => 0)
        case atStart => exact ⟨rfl, rfl⟩
        case round =>
          obtain ⟨rfl, rfl⟩ := hrel
          go_wp2
          go_ret
          exact ⟨rfl, 0, rfl⟩
      have Hl : Hid (xs.length = ys.length) := hl
      have hle : (xs.length : Int) ≤ ys.length := by omega
      have H1 := hc1
      have H2 := hc2
      clear hl hc1 hc2
      have HC1 : Hid _ := H1
      have HC2 : Hid _ := H2
      clear H1 H2
      go_enter Try.func27, Try.ntmps27
      go_wp2
      go_loopw [5, 13] (fun _ i w' => ∃ k : Nat, k ≤ xs.length ∧ i = .int .i64 k ∧ (∀ j, j < k → lth xs j = lth ys j) ∧ ∃ n, w' = w.drewN n) (fun _ i _ => xs.length - (intOf i).toNat)
      case atStart => exact ⟨0, Nat.zero_le _, rfl, fun j hj => absurd hj (Nat.not_lt_zero _), 0, rfl⟩
      case round =>
        obtain ⟨k, hk, rfl, hpre, n, rfl⟩ := hrel
        have HP : Hid (∀ j, j < k → lth xs j = lth ys j) := hpre
        clear hpre
        by_cases hlt : k < xs.length
        · obtain ⟨g0, g1, g2, g3, g4⟩ := HC1.out k hlt
          obtain ⟨f0, f1, f2, f3, f4⟩ := HC2.out k (by have := Hl.out; omega)
          have hlt1 : (k : Int) < xs.length := by omega
          have hlt2 : (k : Int) < ys.length := by omega
          obtain ⟨y, hy⟩ : ∃ y, y = lth xs k := ⟨_, rfl⟩
          obtain ⟨z, hz⟩ : ∃ z, z = lth ys k := ⟨_, rfl⟩
          have HY : Hid (y = lth xs k) := hy
          have HZ : Hid (z = lth ys k) := hz
          rw [← hy] at g0 g1 g2 g3 g4
          rw [← hz] at f0 f1 f2 f3 f4
          clear hy hz
          obtain ⟨d1, p1, a1, r1, x1⟩ := y
          obtain ⟨d2, p2, a2, r2, x2⟩ := z
          simp only at g0 g1 g2 g3 g4 f0 f1 f2 f3 f4
          by_cases hq : (d1, p1, a1, r1, x1) = ((d2, p2, a2, r2, x2) : Ln)
          · have HQ : Hid (lth xs k = lth ys k) := by show _ = _; rw [← HY.out, ← HZ.out]; exact hq
            simp only [Prod.mk.injEq] at hq
            obtain ⟨rfl, rfl, rfl, rfl, rfl⟩ := hq
            go_wp2
            go_quiet (fail)
            go_wp2
            exact ⟨⟨k + 1, by omega, by go_num, upto_next HP.out HQ.out, _, rfl⟩, by simp [intOf]; omega⟩
          · have HN : Hid (decide (xs = ys) = false) := decide_eq_false (lines_ne (i := k) (by rw [← HY.out, ← HZ.out]; exact hq))
            rcases line_diff hq with e1 | ⟨rfl, e1⟩ | ⟨rfl, rfl, e1⟩ | ⟨rfl, rfl, rfl, e1⟩ | ⟨rfl, rfl, rfl, rfl, e1⟩
            all_goals
              clear hq
              go_wp2
              go_quiet (fail)
              go_wp2
              go_ret
              exact ⟨ret_bool HN.out.symm, n + nq, World.drewN_drewN _ _ _⟩
        · have HD : Hid (decide (xs = ys) = true) := decide_eq_true (lines_ext Hl.out fun i hi => HP.out i (by omega))
          go_wp2
          go_ret
          exact ⟨ret_bool HD.out.symm, _, rfl⟩
  · have hne : ((xs.length : Int) != (ys.length : Int)) = true := by simp; omega
    have hd : decide (xs = ys) = false := by simp; intro e; exact hl (by rw [e])
    rw [hd]
    go_enter Try.func27, Try.ntmps27
    go_wp2
    go_ret
    exact ⟨rfl, 0, rfl⟩
end Go.Proofs.Ytfbmmiikhkmpfac
/-
  bridge.Same and drawbridgeref.SameBridge: are two bridges alike? Nothing that was there turns.
-/
namespace Go.Proofs.Ytfbmmiikhkmpfac
open Go.RowKit

/-- Are they alike? -/
def sameBr (a b : Br) : Bool :=
  decide (a.mode = b.mode) && (decide (a.base = b.base) && (decide (a.cache = b.cache) && (decide (a.op = b.op) && (decide (a.oh = b.oh) && (decide (a.ot = b.ot) && (decide (a.stop = b.stop) && (decide (a.fen = b.fen) && (decide (a.fp = b.fp) && (decide (a.fh = b.fh) && (decide (a.ft = b.ft) && decide (a.lost = b.lost)))))))))))
theorem sameBr_self (b : Br) : sameBr b b = true := by simp [sameBr]
theorem sameBr_eq {a b : Br} (h : sameBr a b = true) : a = b := by
  simp only [sameBr, Bool.and_eq_true, decide_eq_true_eq] at h
  obtain ⟨h0, h1, h2, h3, h4, h5, h6, h7, h8, h9, h10, h11⟩ := h
  cases a; cases b
  simp_all
theorem sameBr_ne {a b : Br} (h : ¬ a = b) : sameBr a b = false := by
  cases hs : sameBr a b
  · rfl
  · exact absurd (sameBr_eq hs) h

set_option maxHeartbeats 4000000 in
theorem bSame_any (mo ba op oh ot fe fp fh ft : Int) (st lo : Bool) (vc : Value) (l : List Ln) (mo1 ba1 op1 oh1 ot1 fe1 fp1 fh1 ft1 : Int) (st1 lo1 : Bool) (vc1 : Value) (l1 : List Ln) (w : World) (h : Ls w vc l) (h1 : Ls w vc1 l1) :
    Calls Try.prog 28 #[.agg #[.int .i64 mo, .int .i64 ba, vc, .int .i64 op, .int .i64 oh, .int .i64 ot, .bool st, .int .i64 fe, .int .i64 fp, .int .i64 fh, .int .i64 ft, .bool lo], .agg #[.int .i64 mo1, .int .i64 ba1, vc1, .int .i64 op1, .int .i64 oh1, .int .i64 ot1, .bool st1, .int .i64 fe1, .int .i64 fp1, .int .i64 fh1, .int .i64 ft1, .bool lo1]] w fun e w' => e = .returned (.bool (sameBr ⟨mo, ba, l, op, oh, ot, st, fe, fp, fh, ft, lo⟩ ⟨mo1, ba1, l1, op1, oh1, ot1, st1, fe1, fp1, fh1, ft1, lo1⟩)) ∧ Below w.heap.size w w' := by
  have HS : Hid (Ls w vc l) := h
  have HS1 : Hid (Ls w vc1 l1) := h1
  obtain ⟨va, vk, rfl, -⟩ := h.shape
  obtain ⟨va1, vk1, rfl, -⟩ := h1.shape
  clear h h1
  by_cases hd : mo = mo1
  rotate_left
  · have HE : Hid (sameBr ⟨mo, ba, l, op, oh, ot, st, fe, fp, fh, ft, lo⟩ ⟨mo1, ba1, l1, op1, oh1, ot1, st1, fe1, fp1, fh1, ft1, lo1⟩ = false) := by show _ = _; simp [sameBr, hd]
    have hq : (mo == mo1) = false := by simpa using hd
    go_enter Try.func28, Try.ntmps28
    go_wp2_with fail
    go_ret
    exact ⟨ret_bool HE.out.symm, by first | exact bel_alloc (bel_alloc (Below.refl _ _) _) _ | exact bel_drewN (bel_alloc (bel_alloc (Below.refl _ _) _) _) _⟩
  subst hd
  by_cases hd : ba = ba1
  rotate_left
  · have HE : Hid (sameBr ⟨mo, ba, l, op, oh, ot, st, fe, fp, fh, ft, lo⟩ ⟨mo, ba1, l1, op1, oh1, ot1, st1, fe1, fp1, fh1, ft1, lo1⟩ = false) := by show _ = _; simp [sameBr, hd]
    have hq : (ba == ba1) = false := by simpa using hd
    go_enter Try.func28, Try.ntmps28
    go_wp2_with fail
    go_ret
    exact ⟨ret_bool HE.out.symm, by first | exact bel_alloc (bel_alloc (Below.refl _ _) _) _ | exact bel_drewN (bel_alloc (bel_alloc (Below.refl _ _) _) _) _⟩
  subst hd
  by_cases hd : l = l1
  rotate_left
  · have HE : Hid (sameBr ⟨mo, ba, l, op, oh, ot, st, fe, fp, fh, ft, lo⟩ ⟨mo, ba, l1, op1, oh1, ot1, st1, fe1, fp1, fh1, ft1, lo1⟩ = false) := by show _ = _; simp [sameBr, hd]
    have hq : decide (l = l1) = false := by simpa using hd
    go_enter Try.func28, Try.ntmps28
    go_wp2_with (go_at_call 27; refine (equalL_any _ _ l l1 _ (HS.out.keep (bel_alloc (bel_alloc (Below.refl _ _) _) _)) (HS1.out.keep (bel_alloc (bel_alloc (Below.refl _ _) _) _))).mono ?_; rintro e w' ⟨rfl, n, rfl⟩)
    go_ret
    exact ⟨ret_bool HE.out.symm, by first | exact bel_alloc (bel_alloc (Below.refl _ _) _) _ | exact bel_drewN (bel_alloc (bel_alloc (Below.refl _ _) _) _) _⟩
  subst hd
  by_cases hd : op = op1
  rotate_left
  · have HE : Hid (sameBr ⟨mo, ba, l, op, oh, ot, st, fe, fp, fh, ft, lo⟩ ⟨mo, ba, l, op1, oh1, ot1, st1, fe1, fp1, fh1, ft1, lo1⟩ = false) := by show _ = _; simp [sameBr, hd]
    have hq : (op == op1) = false := by simpa using hd
    go_enter Try.func28, Try.ntmps28
    go_wp2_with (go_at_call 27; refine (equalL_any _ _ l l _ (HS.out.keep (bel_alloc (bel_alloc (Below.refl _ _) _) _)) (HS1.out.keep (bel_alloc (bel_alloc (Below.refl _ _) _) _))).mono ?_; rintro e w' ⟨rfl, n, rfl⟩)
    go_ret
    exact ⟨ret_bool HE.out.symm, by first | exact bel_alloc (bel_alloc (Below.refl _ _) _) _ | exact bel_drewN (bel_alloc (bel_alloc (Below.refl _ _) _) _) _⟩
  subst hd
  by_cases hd : oh = oh1
  rotate_left
  · have HE : Hid (sameBr ⟨mo, ba, l, op, oh, ot, st, fe, fp, fh, ft, lo⟩ ⟨mo, ba, l, op, oh1, ot1, st1, fe1, fp1, fh1, ft1, lo1⟩ = false) := by show _ = _; simp [sameBr, hd]
    have hq : (oh == oh1) = false := by simpa using hd
    go_enter Try.func28, Try.ntmps28
    go_wp2_with (go_at_call 27; refine (equalL_any _ _ l l _ (HS.out.keep (bel_alloc (bel_alloc (Below.refl _ _) _) _)) (HS1.out.keep (bel_alloc (bel_alloc (Below.refl _ _) _) _))).mono ?_; rintro e w' ⟨rfl, n, rfl⟩)
    go_ret
    exact ⟨ret_bool HE.out.symm, by first | exact bel_alloc (bel_alloc (Below.refl _ _) _) _ | exact bel_drewN (bel_alloc (bel_alloc (Below.refl _ _) _) _) _⟩
  subst hd
  by_cases hd : ot = ot1
  rotate_left
  · have HE : Hid (sameBr ⟨mo, ba, l, op, oh, ot, st, fe, fp, fh, ft, lo⟩ ⟨mo, ba, l, op, oh, ot1, st1, fe1, fp1, fh1, ft1, lo1⟩ = false) := by show _ = _; simp [sameBr, hd]
    have hq : (ot == ot1) = false := by simpa using hd
    go_enter Try.func28, Try.ntmps28
    go_wp2_with (go_at_call 27; refine (equalL_any _ _ l l _ (HS.out.keep (bel_alloc (bel_alloc (Below.refl _ _) _) _)) (HS1.out.keep (bel_alloc (bel_alloc (Below.refl _ _) _) _))).mono ?_; rintro e w' ⟨rfl, n, rfl⟩)
    go_ret
    exact ⟨ret_bool HE.out.symm, by first | exact bel_alloc (bel_alloc (Below.refl _ _) _) _ | exact bel_drewN (bel_alloc (bel_alloc (Below.refl _ _) _) _) _⟩
  subst hd
  by_cases hd : st = st1
  rotate_left
  · have HE : Hid (sameBr ⟨mo, ba, l, op, oh, ot, st, fe, fp, fh, ft, lo⟩ ⟨mo, ba, l, op, oh, ot, st1, fe1, fp1, fh1, ft1, lo1⟩ = false) := by show _ = _; simp [sameBr, hd]
    have hq : (st == st1) = false := by simpa using hd
    go_enter Try.func28, Try.ntmps28
    go_wp2_with (go_at_call 27; refine (equalL_any _ _ l l _ (HS.out.keep (bel_alloc (bel_alloc (Below.refl _ _) _) _)) (HS1.out.keep (bel_alloc (bel_alloc (Below.refl _ _) _) _))).mono ?_; rintro e w' ⟨rfl, n, rfl⟩)
    go_ret
    exact ⟨ret_bool HE.out.symm, by first | exact bel_alloc (bel_alloc (Below.refl _ _) _) _ | exact bel_drewN (bel_alloc (bel_alloc (Below.refl _ _) _) _) _⟩
  subst hd
  by_cases hd : fe = fe1
  rotate_left
  · have HE : Hid (sameBr ⟨mo, ba, l, op, oh, ot, st, fe, fp, fh, ft, lo⟩ ⟨mo, ba, l, op, oh, ot, st, fe1, fp1, fh1, ft1, lo1⟩ = false) := by show _ = _; simp [sameBr, hd]
    have hq : (fe == fe1) = false := by simpa using hd
    go_enter Try.func28, Try.ntmps28
    go_wp2_with (go_at_call 27; refine (equalL_any _ _ l l _ (HS.out.keep (bel_alloc (bel_alloc (Below.refl _ _) _) _)) (HS1.out.keep (bel_alloc (bel_alloc (Below.refl _ _) _) _))).mono ?_; rintro e w' ⟨rfl, n, rfl⟩)
    go_ret
    exact ⟨ret_bool HE.out.symm, by first | exact bel_alloc (bel_alloc (Below.refl _ _) _) _ | exact bel_drewN (bel_alloc (bel_alloc (Below.refl _ _) _) _) _⟩
  subst hd
  by_cases hd : fp = fp1
  rotate_left
  · have HE : Hid (sameBr ⟨mo, ba, l, op, oh, ot, st, fe, fp, fh, ft, lo⟩ ⟨mo, ba, l, op, oh, ot, st, fe, fp1, fh1, ft1, lo1⟩ = false) := by show _ = _; simp [sameBr, hd]
    have hq : (fp == fp1) = false := by simpa using hd
    go_enter Try.func28, Try.ntmps28
    go_wp2_with (go_at_call 27; refine (equalL_any _ _ l l _ (HS.out.keep (bel_alloc (bel_alloc (Below.refl _ _) _) _)) (HS1.out.keep (bel_alloc (bel_alloc (Below.refl _ _) _) _))).mono ?_; rintro e w' ⟨rfl, n, rfl⟩)
    go_ret
    exact ⟨ret_bool HE.out.symm, by first | exact bel_alloc (bel_alloc (Below.refl _ _) _) _ | exact bel_drewN (bel_alloc (bel_alloc (Below.refl _ _) _) _) _⟩
  subst hd
  by_cases hd : fh = fh1
  rotate_left
  · have HE : Hid (sameBr ⟨mo, ba, l, op, oh, ot, st, fe, fp, fh, ft, lo⟩ ⟨mo, ba, l, op, oh, ot, st, fe, fp, fh1, ft1, lo1⟩ = false) := by show _ = _; simp [sameBr, hd]
    have hq : (fh == fh1) = false := by simpa using hd
    go_enter Try.func28, Try.ntmps28
    go_wp2_with (go_at_call 27; refine (equalL_any _ _ l l _ (HS.out.keep (bel_alloc (bel_alloc (Below.refl _ _) _) _)) (HS1.out.keep (bel_alloc (bel_alloc (Below.refl _ _) _) _))).mono ?_; rintro e w' ⟨rfl, n, rfl⟩)
    go_ret
    exact ⟨ret_bool HE.out.symm, by first | exact bel_alloc (bel_alloc (Below.refl _ _) _) _ | exact bel_drewN (bel_alloc (bel_alloc (Below.refl _ _) _) _) _⟩
  subst hd
  by_cases hd : ft = ft1
  rotate_left
  · have HE : Hid (sameBr ⟨mo, ba, l, op, oh, ot, st, fe, fp, fh, ft, lo⟩ ⟨mo, ba, l, op, oh, ot, st, fe, fp, fh, ft1, lo1⟩ = false) := by show _ = _; simp [sameBr, hd]
    have hq : (ft == ft1) = false := by simpa using hd
    go_enter Try.func28, Try.ntmps28
    go_wp2_with (go_at_call 27; refine (equalL_any _ _ l l _ (HS.out.keep (bel_alloc (bel_alloc (Below.refl _ _) _) _)) (HS1.out.keep (bel_alloc (bel_alloc (Below.refl _ _) _) _))).mono ?_; rintro e w' ⟨rfl, n, rfl⟩)
    go_ret
    exact ⟨ret_bool HE.out.symm, by first | exact bel_alloc (bel_alloc (Below.refl _ _) _) _ | exact bel_drewN (bel_alloc (bel_alloc (Below.refl _ _) _) _) _⟩
  subst hd
  by_cases hd : lo = lo1
  rotate_left
  · have HE : Hid (sameBr ⟨mo, ba, l, op, oh, ot, st, fe, fp, fh, ft, lo⟩ ⟨mo, ba, l, op, oh, ot, st, fe, fp, fh, ft, lo1⟩ = false) := by show _ = _; simp [sameBr, hd]
    have hq : (lo == lo1) = false := by simpa using hd
    go_enter Try.func28, Try.ntmps28
    go_wp2_with (go_at_call 27; refine (equalL_any _ _ l l _ (HS.out.keep (bel_alloc (bel_alloc (Below.refl _ _) _) _)) (HS1.out.keep (bel_alloc (bel_alloc (Below.refl _ _) _) _))).mono ?_; rintro e w' ⟨rfl, n, rfl⟩)
    go_ret
    exact ⟨ret_bool HE.out.symm, by first | exact bel_alloc (bel_alloc (Below.refl _ _) _) _ | exact bel_drewN (bel_alloc (bel_alloc (Below.refl _ _) _) _) _⟩
  subst hd
  have HE : Hid (sameBr ⟨mo, ba, l, op, oh, ot, st, fe, fp, fh, ft, lo⟩ ⟨mo, ba, l, op, oh, ot, st, fe, fp, fh, ft, lo⟩ = true) := sameBr_self _
  go_enter Try.func28, Try.ntmps28
  go_wp2_with (go_at_call 27; refine (equalL_any _ _ l l _ (HS.out.keep (bel_alloc (bel_alloc (Below.refl _ _) _) _)) (HS1.out.keep (bel_alloc (bel_alloc (Below.refl _ _) _) _))).mono ?_; rintro e w' ⟨rfl, n, rfl⟩)
  go_ret
  exact ⟨ret_bool HE.out.symm, by first | exact bel_alloc (bel_alloc (Below.refl _ _) _) _ | exact bel_drewN (bel_alloc (bel_alloc (Below.refl _ _) _) _) _⟩

set_option maxHeartbeats 4000000 in
theorem sameBridge_any (mo ba op oh ot fe fp fh ft : Int) (st lo : Bool) (vc : Value) (l : List Ln) (mo1 ba1 op1 oh1 ot1 fe1 fp1 fh1 ft1 : Int) (st1 lo1 : Bool) (vc1 : Value) (l1 : List Ln) (w : World) (h : Ls w vc l) (h1 : Ls w vc1 l1) :
    Calls Try.prog 22 #[.agg #[.int .i64 mo, .int .i64 ba, vc, .int .i64 op, .int .i64 oh, .int .i64 ot, .bool st, .int .i64 fe, .int .i64 fp, .int .i64 fh, .int .i64 ft, .bool lo], .agg #[.int .i64 mo1, .int .i64 ba1, vc1, .int .i64 op1, .int .i64 oh1, .int .i64 ot1, .bool st1, .int .i64 fe1, .int .i64 fp1, .int .i64 fh1, .int .i64 ft1, .bool lo1]] w fun e w' => e = .returned (.bool (sameBr ⟨mo, ba, l, op, oh, ot, st, fe, fp, fh, ft, lo⟩ ⟨mo1, ba1, l1, op1, oh1, ot1, st1, fe1, fp1, fh1, ft1, lo1⟩)) ∧ Below w.heap.size w w' := by
  have HS : Hid (Ls w vc l) := h
  have HS1 : Hid (Ls w vc1 l1) := h1
  obtain ⟨va, vk, rfl, -⟩ := h.shape
  obtain ⟨va1, vk1, rfl, -⟩ := h1.shape
  clear h h1
  by_cases hd : mo = mo1
  rotate_left
  · have HE : Hid (sameBr ⟨mo, ba, l, op, oh, ot, st, fe, fp, fh, ft, lo⟩ ⟨mo1, ba1, l1, op1, oh1, ot1, st1, fe1, fp1, fh1, ft1, lo1⟩ = false) := by show _ = _; simp [sameBr, hd]
    have hq : (mo == mo1) = false := by simpa using hd
    go_enter Try.func22, Try.ntmps22
    go_wp2_with fail
    go_ret
    exact ⟨ret_bool HE.out.symm, by first | exact bel_alloc (bel_alloc (Below.refl _ _) _) _ | exact bel_drewN (bel_alloc (bel_alloc (Below.refl _ _) _) _) _⟩
  subst hd
  by_cases hd : ba = ba1
  rotate_left
  · have HE : Hid (sameBr ⟨mo, ba, l, op, oh, ot, st, fe, fp, fh, ft, lo⟩ ⟨mo, ba1, l1, op1, oh1, ot1, st1, fe1, fp1, fh1, ft1, lo1⟩ = false) := by show _ = _; simp [sameBr, hd]
    have hq : (ba == ba1) = false := by simpa using hd
    go_enter Try.func22, Try.ntmps22
    go_wp2_with fail
    go_ret
    exact ⟨ret_bool HE.out.symm, by first | exact bel_alloc (bel_alloc (Below.refl _ _) _) _ | exact bel_drewN (bel_alloc (bel_alloc (Below.refl _ _) _) _) _⟩
  subst hd
  by_cases hd : l = l1
  rotate_left
  · have HE : Hid (sameBr ⟨mo, ba, l, op, oh, ot, st, fe, fp, fh, ft, lo⟩ ⟨mo, ba, l1, op1, oh1, ot1, st1, fe1, fp1, fh1, ft1, lo1⟩ = false) := by show _ = _; simp [sameBr, hd]
    have hq : decide (l = l1) = false := by simpa using hd
    go_enter Try.func22, Try.ntmps22
    go_wp2_with (go_at_call 27; refine (equalL_any _ _ l l1 _ (HS.out.keep (bel_alloc (bel_alloc (Below.refl _ _) _) _)) (HS1.out.keep (bel_alloc (bel_alloc (Below.refl _ _) _) _))).mono ?_; rintro e w' ⟨rfl, n, rfl⟩)
    go_ret
    exact ⟨ret_bool HE.out.symm, by first | exact bel_alloc (bel_alloc (Below.refl _ _) _) _ | exact bel_drewN (bel_alloc (bel_alloc (Below.refl _ _) _) _) _⟩
  subst hd
  by_cases hd : op = op1
  rotate_left
  · have HE : Hid (sameBr ⟨mo, ba, l, op, oh, ot, st, fe, fp, fh, ft, lo⟩ ⟨mo, ba, l, op1, oh1, ot1, st1, fe1, fp1, fh1, ft1, lo1⟩ = false) := by show _ = _; simp [sameBr, hd]
    have hq : (op == op1) = false := by simpa using hd
    go_enter Try.func22, Try.ntmps22
    go_wp2_with (go_at_call 27; refine (equalL_any _ _ l l _ (HS.out.keep (bel_alloc (bel_alloc (Below.refl _ _) _) _)) (HS1.out.keep (bel_alloc (bel_alloc (Below.refl _ _) _) _))).mono ?_; rintro e w' ⟨rfl, n, rfl⟩)
    go_ret
    exact ⟨ret_bool HE.out.symm, by first | exact bel_alloc (bel_alloc (Below.refl _ _) _) _ | exact bel_drewN (bel_alloc (bel_alloc (Below.refl _ _) _) _) _⟩
  subst hd
  by_cases hd : oh = oh1
  rotate_left
  · have HE : Hid (sameBr ⟨mo, ba, l, op, oh, ot, st, fe, fp, fh, ft, lo⟩ ⟨mo, ba, l, op, oh1, ot1, st1, fe1, fp1, fh1, ft1, lo1⟩ = false) := by show _ = _; simp [sameBr, hd]
    have hq : (oh == oh1) = false := by simpa using hd
    go_enter Try.func22, Try.ntmps22
    go_wp2_with (go_at_call 27; refine (equalL_any _ _ l l _ (HS.out.keep (bel_alloc (bel_alloc (Below.refl _ _) _) _)) (HS1.out.keep (bel_alloc (bel_alloc (Below.refl _ _) _) _))).mono ?_; rintro e w' ⟨rfl, n, rfl⟩)
    go_ret
    exact ⟨ret_bool HE.out.symm, by first | exact bel_alloc (bel_alloc (Below.refl _ _) _) _ | exact bel_drewN (bel_alloc (bel_alloc (Below.refl _ _) _) _) _⟩
  subst hd
  by_cases hd : ot = ot1
  rotate_left
  · have HE : Hid (sameBr ⟨mo, ba, l, op, oh, ot, st, fe, fp, fh, ft, lo⟩ ⟨mo, ba, l, op, oh, ot1, st1, fe1, fp1, fh1, ft1, lo1⟩ = false) := by show _ = _; simp [sameBr, hd]
    have hq : (ot == ot1) = false := by simpa using hd
    go_enter Try.func22, Try.ntmps22
    go_wp2_with (go_at_call 27; refine (equalL_any _ _ l l _ (HS.out.keep (bel_alloc (bel_alloc (Below.refl _ _) _) _)) (HS1.out.keep (bel_alloc (bel_alloc (Below.refl _ _) _) _))).mono ?_; rintro e w' ⟨rfl, n, rfl⟩)
    go_ret
    exact ⟨ret_bool HE.out.symm, by first | exact bel_alloc (bel_alloc (Below.refl _ _) _) _ | exact bel_drewN (bel_alloc (bel_alloc (Below.refl _ _) _) _) _⟩
  subst hd
  by_cases hd : st = st1
  rotate_left
  · have HE : Hid (sameBr ⟨mo, ba, l, op, oh, ot, st, fe, fp, fh, ft, lo⟩ ⟨mo, ba, l, op, oh, ot, st1, fe1, fp1, fh1, ft1, lo1⟩ = false) := by show _ = _; simp [sameBr, hd]
    have hq : (st == st1) = false := by simpa using hd
    go_enter Try.func22, Try.ntmps22
    go_wp2_with (go_at_call 27; refine (equalL_any _ _ l l _ (HS.out.keep (bel_alloc (bel_alloc (Below.refl _ _) _) _)) (HS1.out.keep (bel_alloc (bel_alloc (Below.refl _ _) _) _))).mono ?_; rintro e w' ⟨rfl, n, rfl⟩)
    go_ret
    exact ⟨ret_bool HE.out.symm, by first | exact bel_alloc (bel_alloc (Below.refl _ _) _) _ | exact bel_drewN (bel_alloc (bel_alloc (Below.refl _ _) _) _) _⟩
  subst hd
  by_cases hd : fe = fe1
  rotate_left
  · have HE : Hid (sameBr ⟨mo, ba, l, op, oh, ot, st, fe, fp, fh, ft, lo⟩ ⟨mo, ba, l, op, oh, ot, st, fe1, fp1, fh1, ft1, lo1⟩ = false) := by show _ = _; simp [sameBr, hd]
    have hq : (fe == fe1) = false := by simpa using hd
    go_enter Try.func22, Try.ntmps22
    go_wp2_with (go_at_call 27; refine (equalL_any _ _ l l _ (HS.out.keep (bel_alloc (bel_alloc (Below.refl _ _) _) _)) (HS1.out.keep (bel_alloc (bel_alloc (Below.refl _ _) _) _))).mono ?_; rintro e w' ⟨rfl, n, rfl⟩)
    go_ret
    exact ⟨ret_bool HE.out.symm, by first | exact bel_alloc (bel_alloc (Below.refl _ _) _) _ | exact bel_drewN (bel_alloc (bel_alloc (Below.refl _ _) _) _) _⟩
  subst hd
  by_cases hd : fp = fp1
  rotate_left
  · have HE : Hid (sameBr ⟨mo, ba, l, op, oh, ot, st, fe, fp, fh, ft, lo⟩ ⟨mo, ba, l, op, oh, ot, st, fe, fp1, fh1, ft1, lo1⟩ = false) := by show _ = _; simp [sameBr, hd]
    have hq : (fp == fp1) = false := by simpa using hd
    go_enter Try.func22, Try.ntmps22
    go_wp2_with (go_at_call 27; refine (equalL_any _ _ l l _ (HS.out.keep (bel_alloc (bel_alloc (Below.refl _ _) _) _)) (HS1.out.keep (bel_alloc (bel_alloc (Below.refl _ _) _) _))).mono ?_; rintro e w' ⟨rfl, n, rfl⟩)
    go_ret
    exact ⟨ret_bool HE.out.symm, by first | exact bel_alloc (bel_alloc (Below.refl _ _) _) _ | exact bel_drewN (bel_alloc (bel_alloc (Below.refl _ _) _) _) _⟩
  subst hd
  by_cases hd : fh = fh1
  rotate_left
  · have HE : Hid (sameBr ⟨mo, ba, l, op, oh, ot, st, fe, fp, fh, ft, lo⟩ ⟨mo, ba, l, op, oh, ot, st, fe, fp, fh1, ft1, lo1⟩ = false) := by show _ = _; simp [sameBr, hd]
    have hq : (fh == fh1) = false := by simpa using hd
    go_enter Try.func22, Try.ntmps22
    go_wp2_with (go_at_call 27; refine (equalL_any _ _ l l _ (HS.out.keep (bel_alloc (bel_alloc (Below.refl _ _) _) _)) (HS1.out.keep (bel_alloc (bel_alloc (Below.refl _ _) _) _))).mono ?_; rintro e w' ⟨rfl, n, rfl⟩)
    go_ret
    exact ⟨ret_bool HE.out.symm, by first | exact bel_alloc (bel_alloc (Below.refl _ _) _) _ | exact bel_drewN (bel_alloc (bel_alloc (Below.refl _ _) _) _) _⟩
  subst hd
  by_cases hd : ft = ft1
  rotate_left
  · have HE : Hid (sameBr ⟨mo, ba, l, op, oh, ot, st, fe, fp, fh, ft, lo⟩ ⟨mo, ba, l, op, oh, ot, st, fe, fp, fh, ft1, lo1⟩ = false) := by show _ = _; simp [sameBr, hd]
    have hq : (ft == ft1) = false := by simpa using hd
    go_enter Try.func22, Try.ntmps22
    go_wp2_with (go_at_call 27; refine (equalL_any _ _ l l _ (HS.out.keep (bel_alloc (bel_alloc (Below.refl _ _) _) _)) (HS1.out.keep (bel_alloc (bel_alloc (Below.refl _ _) _) _))).mono ?_; rintro e w' ⟨rfl, n, rfl⟩)
    go_ret
    exact ⟨ret_bool HE.out.symm, by first | exact bel_alloc (bel_alloc (Below.refl _ _) _) _ | exact bel_drewN (bel_alloc (bel_alloc (Below.refl _ _) _) _) _⟩
  subst hd
  by_cases hd : lo = lo1
  rotate_left
  · have HE : Hid (sameBr ⟨mo, ba, l, op, oh, ot, st, fe, fp, fh, ft, lo⟩ ⟨mo, ba, l, op, oh, ot, st, fe, fp, fh, ft, lo1⟩ = false) := by show _ = _; simp [sameBr, hd]
    have hq : (lo == lo1) = false := by simpa using hd
    go_enter Try.func22, Try.ntmps22
    go_wp2_with (go_at_call 27; refine (equalL_any _ _ l l _ (HS.out.keep (bel_alloc (bel_alloc (Below.refl _ _) _) _)) (HS1.out.keep (bel_alloc (bel_alloc (Below.refl _ _) _) _))).mono ?_; rintro e w' ⟨rfl, n, rfl⟩)
    go_ret
    exact ⟨ret_bool HE.out.symm, by first | exact bel_alloc (bel_alloc (Below.refl _ _) _) _ | exact bel_drewN (bel_alloc (bel_alloc (Below.refl _ _) _) _) _⟩
  subst hd
  have HE : Hid (sameBr ⟨mo, ba, l, op, oh, ot, st, fe, fp, fh, ft, lo⟩ ⟨mo, ba, l, op, oh, ot, st, fe, fp, fh, ft, lo⟩ = true) := sameBr_self _
  go_enter Try.func22, Try.ntmps22
  go_wp2_with (go_at_call 27; refine (equalL_any _ _ l l _ (HS.out.keep (bel_alloc (bel_alloc (Below.refl _ _) _) _)) (HS1.out.keep (bel_alloc (bel_alloc (Below.refl _ _) _) _))).mono ?_; rintro e w' ⟨rfl, n, rfl⟩)
  go_ret
  exact ⟨ret_bool HE.out.symm, by first | exact bel_alloc (bel_alloc (Below.refl _ _) _) _ | exact bel_drewN (bel_alloc (bel_alloc (Below.refl _ _) _) _) _⟩
end Go.Proofs.Ytfbmmiikhkmpfac
/-
  drawbridgeref's CheckCache: the first thing that is wrong with lines; nothing that was there turns.
-/
namespace Go.Proofs.Ytfbmmiikhkmpfac
open Go.RowKit

/-- The number that a line is seen by. -/
def keyN (x : Ln) : Int := x.1 * 64 + x.2.1
def seenN (l : List Ln) (k : Nat) : List Int := ((l.take k).map keyN).reverse
theorem seenN_zero (l : List Ln) : seenN l 0 = [] := by simp [seenN]
theorem seenN_next {l : List Ln} {k : Nat} (h : k < l.length) : seenN l (k + 1) = keyN (lth l k) :: seenN l k := by
  unfold seenN
  rw [List.take_succ_eq_append_getElem h, List.map_append, List.reverse_append, lth_get h]
  rfl
theorem rng_of {x : Ln} (h : rngB x = true) : (0 ≤ x.1 ∧ x.1 < 8) ∧ (0 ≤ x.2.1 ∧ x.2.1 < 64) := by
  simp [rngB] at h; exact ⟨by omega, by omega⟩
theorem key_same {x y : Ln} (hx : rngB x = true) (hy : rngB y = true) : keyB x y = true ↔ keyN x = keyN y := by
  obtain ⟨a1, a2⟩ := rng_of hx
  obtain ⟨b1, b2⟩ := rng_of hy
  unfold keyB keyN
  simp only [Bool.and_eq_true, decide_eq_true_eq]
  constructor
  · rintro ⟨e1, e2⟩; rw [e1, e2]
  · intro e; constructor <;> omega
/-- Whether the number was seen is whether the line was found. -/
theorem seen_find {l : List Ln} {k : Nat} (hk : k < l.length) (h : ∀ j, j < k → errL l j = 0) (hr : rngB (lth l k) = true) : keyN (lth l k) ∈ seenN l k ↔ 0 ≤ fndC (l.take k) (lth l k).1 (lth l k).2.1 := by
  rw [← any_find, List.any_eq_true]
  unfold seenN
  rw [List.mem_reverse, List.mem_map]
  constructor
  · rintro ⟨y, hy, e⟩
    refine ⟨y, hy, ?_⟩
    obtain ⟨j, hj, rfl⟩ := List.getElem_of_mem hy
    have hj' : j < k := by simp at hj; omega
    have hz := (errL_zero.1 (h j hj')).1
    rw [lth_get (by omega)] at hz
    rw [List.getElem_take] at e ⊢
    exact (key_same hr hz).2 e.symm
  · rintro ⟨y, hy, e⟩
    refine ⟨y, hy, ?_⟩
    obtain ⟨j, hj, rfl⟩ := List.getElem_of_mem hy
    have hj' : j < k := by simp at hj; omega
    have hz := (errL_zero.1 (h j hj')).1
    rw [lth_get (by omega)] at hz
    rw [List.getElem_take] at e ⊢
    exact ((key_same hr hz).1 e).symm

set_option maxHeartbeats 1000000 in
theorem checkCache_any (v : Value) (l : List Ln) (w : World) (h : Ls w v l) :
    Calls Try.prog 38 #[v] w fun e w' => e = .returned (.int .i64 (chkC l)) ∧ Below w.heap.size w w' := by
  have hmm := @run_makeMap Try.prog
  have HL : Hid (Ls w v l) := h
  obtain ⟨a, cap, rfl, hl, hm, h⟩ := h
  unfold maxLen at hm
  by_cases h6 : 6 < l.length
  · have e6 : chkC l = 1 := chkC_many h6
    rw [e6]
    have h6' : (6 : Int) < l.length := by omega
    go_enter Try.func38, Try.ntmps38
    go_wp2
    go_ret
    exact ⟨rfl, Below.refl _ _⟩
  have h6' : ¬ (6 : Int) < l.length := by omega
  have hmz : (l.length : Int) ≤ 6 := by omega
  rcases h with rfl | ⟨b, o, rfl, hb, hc⟩
  · go_enter Try.func38, Try.ntmps38
    go_wp2
    go_loopw [5, 12] (fun _ i w' => i = .int .i64 0 ∧ Below w.heap.size w w') (fun _ i _ => 0)
    case atStart => exact ⟨rfl, bel_alloc (Below.refl _ _) _⟩
    case round =>
      obtain ⟨rfl, hB⟩ := hrel
      go_wp2
      go_ret
      exact ⟨ret_int (chkC_all h6 (fun j hj => absurd hj (Nat.not_lt_zero _))).symm, hB⟩
  · have HC : Hid _ := hc
    clear hc
    go_enter Try.func38, Try.ntmps38
    go_wp2
    go_loopw [5, 12] (fun _ i w' => ∃ k : Nat, k ≤ l.length ∧ i = .int .i64 k ∧ (∀ j, j < k → errL l j = 0) ∧ Seen w' w.heap.size k (seenN l k) ∧ Below w.heap.size w w') (fun _ i _ => l.length - (intOf i).toNat)
    case atStart => exact ⟨0, Nat.zero_le _, rfl, fun j hj => absurd hj (Nat.not_lt_zero _), by rw [seenN_zero]; exact Seen.new w, bel_alloc (Below.refl _ _) _⟩
    case round =>
      obtain ⟨k, hk, rfl, hpre, hS, hB⟩ := hrel
      have HP : Hid _ := hpre
      have HB : Hid _ := hB
      by_cases hlt : k < l.length
      · obtain ⟨g0, g1, g2, g3, g4⟩ := (HC.out k hlt).keep hB hb
        have hb' : b < wr.heap.size := Nat.lt_of_lt_of_le hb hB.size
        obtain ⟨y, hy⟩ : ∃ y, y = lth l k := ⟨_, rfl⟩
        have HY : Hid _ := hy
        rw [← hy] at g0 g1 g2 g3 g4
        clear hy hpre hB
        obtain ⟨d1, p1, a1, r1, x1⟩ := y
        simp only at g0 g1 g2 g3 g4
        have hlt1 : (k : Int) < l.length := by omega
        have hk6 : k < 1000 := by omega
        have hsz : w.heap.size < wr.heap.size := hS.lt
        have HS : Hid _ := hS
        clear hS
        have HW : Hid (own (d1, p1, a1, r1, x1) = if (devB d1 && pgB p1 && pgB a1) = true then (if r1 = true then 0 else 3) else 2) := rfl
        by_cases ho : own (d1, p1, a1, r1, x1) = 0
        rotate_left
        · have HE : Hid (chkC l = own (d1, p1, a1, r1, x1)) := chkC_at h6 hlt HP.out (by have := errL_own (l := l) (k := k) (by rw [← HY.out]; exact ho); rw [this, ← HY.out]) ho
          cases e1 : devB d1
          · have H2 : Hid (chkC l = 2) := by show _ = _; rw [HE.out, HW.out, e1]; rfl
            go_wp2_with (first | (go_at_call 32; refine (cIn_any _ _ _ _).mono ?_; rintro e w1 ⟨rfl, rfl⟩; first | rw [in_dev, e1] | rw [in_page]))
            go_ret
            exact ⟨ret_int H2.out.symm, bel_alloc HB.out _⟩
          cases e2 : pgB p1
          · have H2 : Hid (chkC l = 2) := by show _ = _; rw [HE.out, HW.out, e1, e2]; rfl
            go_wp2_with (first | (go_at_call 32; refine (cIn_any _ _ _ _).mono ?_; rintro e w1 ⟨rfl, rfl⟩; first | rw [in_dev, e1] | rw [in_page, e2]))
            go_ret
            exact ⟨ret_int H2.out.symm, bel_alloc HB.out _⟩
          cases e3 : pgB a1
          · have H2 : Hid (chkC l = 2) := by show _ = _; rw [HE.out, HW.out, e1, e2, e3]; rfl
            go_wp2_with (first | (go_at_call 32; refine (cIn_any _ _ _ _).mono ?_; rintro e w1 ⟨rfl, rfl⟩; first | rw [in_dev, e1] | rw [in_page, e2] | rw [in_page, e3]))
            go_ret
            exact ⟨ret_int H2.out.symm, bel_alloc HB.out _⟩
          cases r1
          rotate_left
          · exact absurd (by rw [HW.out, e1, e2, e3]; rfl) ho
          have H2 : Hid (chkC l = 3) := by show _ = _; rw [HE.out, HW.out, e1, e2, e3]; rfl
          go_wp2_with (first | (go_at_call 32; refine (cIn_any _ _ _ _).mono ?_; rintro e w1 ⟨rfl, rfl⟩; first | rw [in_dev, e1] | rw [in_page, e2] | rw [in_page, e3]))
          go_ret
          exact ⟨ret_int H2.out.symm, bel_alloc HB.out _⟩
        have hw := HW.out
        rw [ho] at hw
        have e1 : devB d1 = true := by cases e : devB d1; (· rw [e] at hw; simp at hw); rfl
        have e2 : pgB p1 = true := by cases e : pgB p1; (· rw [e] at hw; simp at hw); rfl
        have e3 : pgB a1 = true := by cases e : pgB a1; (· rw [e] at hw; simp at hw); rfl
        have e4 : r1 = true := by rw [e1, e2, e3] at hw; cases r1; (· simp at hw); rfl
        subst e4
        clear hw HW
        have hd : 0 ≤ d1 ∧ d1 < 8 := by simpa [devB] using e1
        have hp : 0 ≤ p1 ∧ p1 < 64 := by simpa [pgB] using e2
        obtain ⟨hd0, hd1⟩ := hd
        obtain ⟨hp0, hp1⟩ := hp
        have HR : Hid (rngB (lth l k) = true) := by show _ = _; rw [← HY.out, rng_split, e1, e2, e3]; rfl
        have HS1 : ∀ ob, Seen (wr.alloc ob) w.heap.size k (seenN l k) := fun ob => Seen.keep HS.out (bel_alloc (Below.refl _ _) _)
        have HS2 : Hid _ := HS1
        clear HS1
        have HN : Hid (keyN (lth l k) = d1 * 64 + p1) := by show _ = _; rw [← HY.out]; rfl
        by_cases hin : d1 * 64 + p1 ∈ seenN l k
        · have HE : Hid (chkC l = 5) := chkC_at h6 hlt HP.out (errL_twice (by rw [← HY.out]; exact ho) ((seen_find hlt HP.out HR.out).1 (by rw [HN.out]; exact hin))) (by decide)
          go_wp2_with (first | (go_at_call 32; refine (cIn_any _ _ _ _).mono ?_; rintro e w1 ⟨rfl, rfl⟩; first | rw [in_dev, e1] | rw [in_page, e2] | rw [in_page, e3]) | (at_lookup; refine wpList_seen rfl _ _ rfl w.heap.size k (seenN l k) rfl (HS2.out _) (d1 * 64 + p1) (by first | rfl | simp) (by omega) (by omega) ?_; rw [decide_eq_true hin]))
          go_ret
          exact ⟨ret_int HE.out.symm, bel_alloc HB.out _⟩
        · have HE : Hid (errL l k = 0) := errL_fine (by rw [← HY.out]; exact ho) (fun hf => hin (by rw [← HN.out]; exact (seen_find hlt HP.out HR.out).2 hf))
          have HQ : Hid (seenN l (k + 1) = (d1 * 64 + p1) :: seenN l k) := by show _ = _; rw [seenN_next hlt, HN.out]
          go_wp2_with (first | (go_at_call 32; refine (cIn_any _ _ _ _).mono ?_; rintro e w1 ⟨rfl, rfl⟩; first | rw [in_dev, e1] | rw [in_page, e2] | rw [in_page, e3]) | (at_lookup; refine wpList_seen rfl _ _ rfl w.heap.size k (seenN l k) rfl (HS2.out _) (d1 * 64 + p1) (by first | rfl | simp) (by omega) (by omega) ?_; rw [decide_eq_false hin]) | (at_mapUpdate; refine wpList_see rfl _ _ _ rfl w.heap.size k (seenN l k) rfl (HS2.out _) (d1 * 64 + p1) (by first | rfl | simp) rfl (by omega) (by omega) hk6 ?_; intro w1 hs1 hgr1))
          exact ⟨⟨k + 1, by omega, by go_num, upto_next HP.out HE.out, by rw [HQ.out]; exact hs1, (bel_alloc HB.out _).grown hgr1 (by simp; omega) (fun j hj => by cases hj; exact Nat.le_refl _)⟩, by simp [intOf]; omega⟩
      · have HF : Hid (chkC l = 0) := chkC_all h6 fun j hj => HP.out j (by omega)
        clear hpre hB hS
        go_wp2
        go_ret
        exact ⟨ret_int HF.out.symm, HB.out⟩
end Go.Proofs.Ytfbmmiikhkmpfac
/-
  drawbridgeref's CheckBridge: what it answers; nothing that was there turns.
-/
namespace Go.Proofs.Ytfbmmiikhkmpfac
open Go.RowKit

theorem rngBr_waysR {b : Br} : (rngBr b = true ∧ betweenB 0 2 b.mode = true ∧ betweenB 0 63 b.base = true ∧ betweenB 0 999 b.fen = true) ∨
    (rngBr b = false ∧ (betweenB 0 2 b.mode = false ∨ (betweenB 0 2 b.mode = true ∧ betweenB 0 63 b.base = false) ∨ (betweenB 0 2 b.mode = true ∧ betweenB 0 63 b.base = true ∧ betweenB 0 999 b.fen = false))) := by
  have e : rngBr b = (betweenB 0 2 b.mode && betweenB 0 63 b.base && betweenB 0 999 b.fen) := rfl
  rw [e]
  cases betweenB 0 2 b.mode <;> cases betweenB 0 63 b.base <;> cases betweenB 0 999 b.fen <;> simp

set_option maxHeartbeats 2000000 in
theorem checkBridge_any (mo ba op oh ot fe fp fh ft : Int) (st lo : Bool) (vc : Value) (l : List Ln) (w : World) (h : Ls w vc l) :
    Calls Try.prog 17 #[.agg #[.int .i64 mo, .int .i64 ba, vc, .int .i64 op, .int .i64 oh, .int .i64 ot, .bool st, .int .i64 fe, .int .i64 fp, .int .i64 fh, .int .i64 ft, .bool lo]] w fun e w' => e = .returned (.int .i64 (chkB ⟨mo, ba, l, op, oh, ot, st, fe, fp, fh, ft, lo⟩)) ∧ Below w.heap.size w w' := by
  have HS : Hid (Ls w vc l) := h
  obtain ⟨va, vk, rfl, -⟩ := h.shape
  clear h
  rcases rngBr_waysR (b := ⟨mo, ba, l, op, oh, ot, st, fe, fp, fh, ft, lo⟩) with ⟨hr, h1, h2, h3⟩ | ⟨hr, hw⟩
  rotate_left
  · have HE : Hid (chkB ⟨mo, ba, l, op, oh, ot, st, fe, fp, fh, ft, lo⟩ = 2) := by show _ = _; rw [chkB, hr]; rfl
    clear hr
    dsimp only at hw
    rcases hw with h1 | ⟨h1, h2⟩ | ⟨h1, h2, h3⟩
    all_goals
      go_enter Try.func17, Try.ntmps17
      go_wp2_with (go_at_call 32; refine (in_any _ _ _ _).mono ?_; rintro e w' ⟨rfl, rfl⟩)
      go_ret
      exact ⟨ret_int HE.out.symm, bel_alloc (Below.refl _ _) _⟩
  dsimp only at h1 h2 h3
  have HR : Hid (rngBr ⟨mo, ba, l, op, oh, ot, st, fe, fp, fh, ft, lo⟩ = true) := hr
  clear hr
  go_enter Try.func17, Try.ntmps17
  go_wp2_with (go_at_call 32; refine (in_any _ _ _ _).mono ?_; rintro e w' ⟨rfl, rfl⟩)
  refine (checkCache_any _ l _ (HS.out.alloc _)).mono ?_
  rintro e w1 ⟨rfl, b1⟩
  have X0 := (Box.newAt (n := w.heap.size) rfl 40 #[.int .i64 mo, .int .i64 ba, .slice va l.length vk, .int .i64 op, .int .i64 oh, .int .i64 ot, .bool st, .int .i64 fe, .int .i64 fp, .int .i64 fh, .int .i64 ft, .bool lo]).keep b1
  have B1 : Hid (Below w.heap.size w w1) := bel_trans (bel_alloc (Below.refl _ _) _) b1
  clear b1
  obtain ⟨⟨q0, q1, q2, q3, q4, q5, q6, q7, q8, q9, q10, q11⟩, s0⟩ := X0.twelve
  by_cases hc : chkC l = 0
  rotate_left
  · have HE : Hid (chkB ⟨mo, ba, l, op, oh, ot, st, fe, fp, fh, ft, lo⟩ = chkC l) := by show _ = _; rw [chkB, if_pos HR.out, if_neg hc]
    have hq : (chkC l == 0) = false := by simpa using hc
    go_wp2
    go_ret
    exact ⟨ret_int HE.out.symm, B1.out⟩
  rw [hc]
  go_wp2_with fail
  refine (checkRing_any _ _ _ _).mono ?_
  rintro e w2 ⟨rfl, rfl⟩
  by_cases hk : chkR op oh ot = 0
  rotate_left
  · have HE : Hid (chkB ⟨mo, ba, l, op, oh, ot, st, fe, fp, fh, ft, lo⟩ = chkR op oh ot) := by show _ = _; rw [chkB, if_pos HR.out, if_pos hc, if_neg hk]
    have hq : (chkR op oh ot == 0) = false := by simpa using hk
    go_wp2
    go_ret
    exact ⟨ret_int HE.out.symm, bel_alloc B1.out _⟩
  have HE : Hid (chkB ⟨mo, ba, l, op, oh, ot, st, fe, fp, fh, ft, lo⟩ = chkR fp fh ft) := by show _ = _; rw [chkB, if_pos HR.out, if_pos hc, if_pos hk]
  rw [hk]
  go_wp2_with fail
  refine (checkRing_any _ _ _ _).mono ?_
  rintro e w2 ⟨rfl, rfl⟩
  go_wp2
  go_ret
  exact ⟨ret_int HE.out.symm, bel_alloc (bel_alloc B1.out _) _⟩
end Go.Proofs.Ytfbmmiikhkmpfac
