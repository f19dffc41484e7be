/-
  Laid together: Stepped7x6, Stepped7x9, Stepped7no.
-/
import Derived.Test.YtfbmmiikhkmpfacT15
import Derived.Deep.RegionHeld3
import Derived.Deep.CutRange
/-
  drawbridgeref's Stepped: kind 7, register 6; nothing that was there turns.
-/
namespace Go.Proofs.Ytfbmmiikhkmpfac
open Go.RowKit

set_option maxRecDepth 10000 in
set_option maxHeartbeats 8000000 in
theorem stepped_7_6 (v : Value) (zs : List Int) (p : Int) (u : Value) (r : List Int) (mo ba op oh ot fe fp fh ft : Int) (st lo : Bool) (vc : Value) (l : List Ln) (w : World) (hs : Sl w v zs) (hr : Sl w u r) (h : Ls w vc l) (hE : stE zs ⟨p, r, false⟩ ⟨mo, ba, l, op, oh, ot, st, fe, fp, fh, ft, lo⟩ = 0) (x y : Int) (hI : riE (insW zs ⟨p, r, false⟩) = 0) (hX : riX (insW zs ⟨p, r, false⟩) = (7, x, y, 6)) :
    Calls Try.prog 23 #[.agg #[v], .agg #[.int .i64 p, u, .bool false], .agg #[.int .i64 mo, .int .i64 ba, vc, .int .i64 op, .int .i64 oh, .int .i64 ot, .bool st, .int .i64 fe, .int .i64 fp, .int .i64 fh, .int .i64 ft, .bool lo]] w fun e w' => StepOut w.heap.size zs ⟨p, r, false⟩ mo ba op oh ot fe fp fh ft st lo vc l w e w' := by
  obtain ⟨hz, hh, hb, -⟩ := stE_ok hE
  obtain ⟨hr8, ⟨hp0, hp1⟩, hrw⟩ := chkH_ok hh
  dsimp only at hr8 hp0 hp1 hrw
  have HV : Hid (∃ a k c, v = .slice a k c) := let ⟨a, c, e, _⟩ := hs; ⟨a, _, c, e⟩
  have HL : Hid (Ls w vc l) := h
  obtain ⟨ca, ck, rfl, -⟩ := h
  have HM : Hid (Sl w v zs) := hs
  have HZ : Hid (chk zs = 0) := hz
  have HB : Hid (chkB ⟨mo, ba, l, op, oh, ot, st, fe, fp, fh, ft, lo⟩ = 0) := hb
  have HW : Hid (∀ i, i < 8 → 0 ≤ nth r i ∧ nth r i ≤ 65535) := hrw
  have H8 : Hid (r.length = 8) := hr8
  have HE : Hid _ := hE
  obtain ⟨b, o, cap, rfl, hbb, hcs⟩ := hs.open512 (chk_ok hz).1
  have HCS : Hid (∀ i, i < 512 → w.cell? ⟨b, o + i, none⟩ = some (.int .i64 (nth zs i))) := hcs
  obtain ⟨ra, rc, rfl, hrl, hrr⟩ := hr
  rcases hrr with e | ⟨rb, ro, rfl, hrb, hrc⟩
  · exact absurd hr8 (by rw [e]; simp)
  have HR : Hid (Sl w (.slice (some ⟨rb, ro, none⟩) 8 rc) r) := by
    show Sl _ _ _
    rw [← hr8]; exact ⟨_, rc, rfl, hrl, .inr ⟨rb, ro, rfl, hrb, hrc⟩⟩
  rw [hr8] at hrc ⊢
  have HRC : Hid (∀ i, i < 8 → w.cell? ⟨rb, ro + i, none⟩ = some (.int .i64 (nth r i))) := hrc
  have gz := hcs p.toNat (by omega)
  obtain ⟨z, hzz⟩ : ∃ z, nth zs p.toNat = z := ⟨_, rfl⟩
  rw [hzz] at gz
  have HI : Hid (insW zs ⟨p, r, false⟩ = z) := hzz
  clear hz hh hb hs hcs hrc hrw hE hzz hr8 hrl
  have t1 : b < w.heap.size + 1 := by omega
  have t2 : b < w.heap.size + 1 + 1 := by omega
  have t3 : b < w.heap.size + 1 + 1 + 1 := by omega
  have t4 : b < w.heap.size + 1 + 1 + 1 + 1 := by omega
  have t5 : b < w.heap.size + 1 + 1 + 1 + 1 + 1 := by omega
  have hE2 : riE z = 0 := by have := hI; rw [HI.out] at this; exact this
  have hX2 : riX z = (7, x, y, 6) := by have := hX; rw [HI.out] at this; exact this
  have HE2 : Hid (riE z = 0) := hE2
  have HX2 : Hid (riX z = (7, x, y, 6)) := hX2
  clear hI hX
  clear hE2 hX2
  go_enter Try.func23, Try.ntmps23
  go_wp2_with fail
  refine (insOf_at HE2.out HX2.out).mono ?_
  rintro e w1 ⟨rfl, b1⟩
  have X0 := ((((((Box.newAt (w := w) (n := w.heap.size) rfl 33 #[.slice (some ⟨b, o, none⟩) 512 cap]).past _).past _).past _).past _).past _).keep b1
  have X1 := (((((Box.newAt (n := w.heap.size + 1) (by simp) 35 #[.int .i64 p, .slice (some ⟨rb, ro, none⟩) 8 rc, .bool false]).past _).past _).past _).past _).keep b1
  have X2 := ((((Box.newAt (n := w.heap.size + 1 + 1) (by simp) 40 #[.int .i64 mo, .int .i64 ba, .slice ca l.length ck, .int .i64 op, .int .i64 oh, .int .i64 ot, .bool st, .int .i64 fe, .int .i64 fp, .int .i64 fh, .int .i64 ft, .bool lo]).past _).past _).past _).keep b1
  have X3 := (((Box.newAt (n := w.heap.size + 1 + 1 + 1) (by simp) 33 #[.slice none 0 0]).past _).past _).keep b1
  have X4 := ((Box.newAt (n := w.heap.size + 1 + 1 + 1 + 1) (by simp) 35 #[.int .i64 0, .slice none 0 0, .bool false]).past _).keep b1
  have X5 := (Box.newAt (n := w.heap.size + 1 + 1 + 1 + 1 + 1) (by simp) 40 #[.int .i64 0, .int .i64 0, .slice none 0 0, .int .i64 0, .int .i64 0, .int .i64 0, .bool false, .int .i64 0, .int .i64 0, .int .i64 0, .int .i64 0, .bool false]).keep b1
  have B1 : Hid (Below w.heap.size w w1) := bel_trans (bel_alloc (bel_alloc (bel_alloc (bel_alloc (bel_alloc (bel_alloc (Below.refl _ _) _) _) _) _) _) _) b1
  have z1 : w.heap.size + 1 + 1 + 1 + 1 + 1 + 1 ≤ w1.heap.size := by have := b1.size; simpa using this
  clear b1 gz t1 t2 t3 t4 t5
  have XI := Box.newAt (w := w1) (n := w1.heap.size) rfl 23 #[.int .i64 7, .int .i64 x, .int .i64 y, .int .i64 6]
  have X0 := X0.past (.cells #[.int .i64 7, .int .i64 x, .int .i64 y, .int .i64 6] 23)
  have X1 := X1.past (.cells #[.int .i64 7, .int .i64 x, .int .i64 y, .int .i64 6] 23)
  have X2 := X2.past (.cells #[.int .i64 7, .int .i64 x, .int .i64 y, .int .i64 6] 23)
  have X3 := X3.past (.cells #[.int .i64 7, .int .i64 x, .int .i64 y, .int .i64 6] 23)
  have X4 := X4.past (.cells #[.int .i64 7, .int .i64 x, .int .i64 y, .int .i64 6] 23)
  have X5 := X5.past (.cells #[.int .i64 7, .int .i64 x, .int .i64 y, .int .i64 6] 23)
  have BW : Hid (Below w.heap.size w (w1.alloc (.cells #[.int .i64 7, .int .i64 x, .int .i64 y, .int .i64 6] 23))) := bel_alloc B1.out _
  clear B1
  go_upto_region 5 with fail
  generalize hI : w1.heap.size = I at *
  generalize hW : (w1.alloc (.cells #[.int .i64 7, .int .i64 x, .int .i64 y, .int .i64 6] 23)) = W at *
  clear hW hI
  have HRW : Hid (Sl W (.slice (some ⟨rb, ro, none⟩) 8 rc) r) := HR.out.keep BW.out
  have HPN : Hid ((IntKind.i64.wrap (p + 1)).tmod 512 = nextP p) := next_wrap hp0 hp1
  have HNE : Hid (r ≠ []) := fun e => by have := H8.out; rw [e] at this; simp at this
  have HOL : Hid (OwnI (W.alloc (.cells #[] 3)) W.heap.size (.slice (some ⟨W.heap.size, 0, none⟩) 0 0) []) := own_lit rfl (Nat.le_refl _)
  have HOL2 : Hid (∀ ob : Obj, OwnI ((W.alloc ob).alloc (.cells #[] 3)) W.heap.size (.slice (some ⟨W.heap.size + 1, 0, none⟩) 0 0) []) := fun ob => own_lit (by simp) (by simp)
  obtain ⟨a0, a1, -, -, -, -, s1⟩ := X1.three
  have zI := XI.lt
  go_cut [12] from 37 to 45 (fun s wx => ∃ n g cg, s = .pointer (some ⟨n, 0, none⟩) ∧ Box wx n 35 #[.int .i64 (nextP p), .slice (some ⟨g, 0, none⟩) r.length cg, .bool false] ∧ OwnI wx W.heap.size (.slice (some ⟨g, 0, none⟩) r.length cg) r ∧ W.heap.size ≤ n ∧ Below W.heap.size W wx)
  case first =>
    go_region_held3 (fun w' => w'.cell? ⟨w.heap.size + 1, 0, none⟩ = some (.int .i64 p) ∧ w'.cell? ⟨w.heap.size + 1, 1, none⟩ = some (.slice (some ⟨rb, ro, none⟩) 8 rc) ∧ Below W.heap.size W w')
      (with_reducible refine keep2H (by assumption) (by assumption) (by assumption) ?_; (repeat (first | with_reducible assumption | (with_reducible (refine limb2H (?_ : _ ∧ _ ∧ _); assumption)) | with_reducible exact Below.refl _ _ | with_reducible refine Below.drew ?_ | with_reducible refine bel_drewN ?_ _ | with_reducible refine bel_alloc ?_ _ | with_reducible refine Below.trans ?_ (by assumption) | (with_reducible refine bel_set3 ?_ ?_ _ _ _; (focus omega)))))
      (first | (refine step_append_I rfl (.tmp 41) (.tmp 43) rfl W.heap.size (.slice (some ⟨_, 0, none⟩) 0 0) (.slice (some ⟨rb, ro, none⟩) 8 rc) [] r rfl rfl ?_ ?_ ?_ ?_ ?_ ?_; (focus ((repeat (first | with_reducible refine OwnI.drew ?_ | with_reducible exact HOL.out | with_reducible exact HOL2.out _ | with_reducible refine OwnI.alloc ?_ _)); done)); (focus (refine HRW.out.keep ?_; (repeat (first | with_reducible exact Below.refl _ _ | with_reducible refine Below.drew ?_ | with_reducible refine bel_alloc ?_ _)); done)); (focus (rw [H8.out]; simp; done)); (focus (first | (simp; done) | (simp; omega))); (focus (exact HNE.out)); intro g cg w7 hown hgr hbel hat; first | (have XN := ord2 hgr; obtain ⟨i0, i1, i2, j0, j1, j2, l9⟩ := XN.three) | (have XN := ord3 hgr; obtain ⟨i0, i1, i2, j0, j1, j2, l9⟩ := XN.three) | skip))
    all_goals (rename_i hH; have HBE := limb2H hH; clear hH)
    all_goals (go_wp2_with fail; go_meet)
    · refine ⟨_, g, cg, rfl, by rw [← HPN.out]; exact Box.newAt rfl _ _, hown.alloc _, by have := hbel.size; simp at this; omega, HBE⟩
    · refine ⟨_, g, cg, rfl, by rw [← HPN.out]; exact XN.set3 _ _ _, hown.far3 (own_ne hown XN) _ _ _, by omega, HBE⟩
    · refine ⟨_, g, cg, rfl, by rw [← HPN.out]; exact XN.set3 _ _ _, hown.far3 (own_ne hown XN) _ _ _, by omega, HBE⟩
  case rest =>
    obtain ⟨n, g, cg, rfl, XN, HO, hn, BC⟩ := hcut
    rw [H8.out] at XN
    have HO : OwnI wc W.heap.size (.slice (some ⟨g, 0, none⟩) 8 cg) r := by rw [← H8.out]; exact HO
    have X0 := X0.keep BC
    have X1 := X1.keep BC
    have X2 := X2.keep BC
    have X3 := X3.keep BC
    have X4 := X4.keep BC
    have X5 := X5.keep BC
    have XI := XI.keep BC
    have B2 : Hid (Below w.heap.size w wc) := bel_trans BW.out BC
    have HOW : Hid (OwnI wc W.heap.size (.slice (some ⟨g, 0, none⟩) 8 cg) r) := HO
    have hgn := own_ne HO XN
    have hgW := HO.base g rfl
    clear BC BW HRW HOL HOL2 HNE HPN HO
    obtain ⟨i1, i2, i3, i4, -⟩ := iE_ok (i_read HE2.out HX2.out).1
    have rx := HW.out x.toNat (by omega)
    have ry := HW.out y.toNat (by omega)
    have gx := HRC.out x.toNat (by omega)
    have gy := HRC.out y.toNat (by omega)
    obtain ⟨one, h1⟩ : ∃ one, nth r x.toNat = one := ⟨_, rfl⟩
    obtain ⟨two, h2⟩ : ∃ two, nth r y.toNat = two := ⟨_, rfl⟩
    rw [h1] at rx gx
    rw [h2] at ry gy
    rw [← B2.out.cell (p := ⟨rb, ro + x.toNat, none⟩) hrb] at gx
    rw [← B2.out.cell (p := ⟨rb, ro + y.toNat, none⟩) hrb] at gy
    have HT : Hid (goS zs ⟨p, r, false⟩ ⟨mo, ba, l, op, oh, ot, st, fe, fp, fh, ft, lo⟩ = exeI zs ⟨p, r, false⟩ ⟨mo, ba, l, op, oh, ot, st, fe, fp, fh, ft, lo⟩ 7 x y 6) := by
      show _ = _
      rw [goS, HI.out, if_pos HE2.out, HX2.out]
    have HO1 : Hid (nth r x.toNat = one) := h1
    have HO2 : Hid (nth r y.toNat = two) := h2
    clear h1 h2 HE2 HX2
    clear i1
    obtain ⟨i2a, i2b⟩ := i2
    obtain ⟨i3a, i3b⟩ := i3
    clear i4
    obtain ⟨c0, c1, c2, c3, -, -, -, -, zI2⟩ := XI.four
    clear a0 a1 s1
    obtain ⟨a0, a1, -, -, -, -, s1⟩ := X1.three
    have hrb1 : rb < wc.heap.size := by omega
    go_upto_region 6 with fail
    go_quiet (fail)
    have X0 := X0.drewN nq
    have X1 := X1.drewN nq
    have X2 := X2.drewN nq
    have X3 := X3.drewN nq
    have X4 := X4.drewN nq
    have X5 := X5.drewN nq
    have XN := XN.drewN nq
    have XI := XI.drewN nq
    have HOV : Hid (OwnI (wc.drewN nq) W.heap.size (.slice (some ⟨g, 0, none⟩) 8 cg) r) := HOW.out
    have BV : Hid (Below w.heap.size w (wc.drewN nq)) := bel_drewN B2.out nq
    have lg : g < (wc.drewN nq).heap.size := OwnI.lt HOV.out g rfl
    clear HOW B2 gx gy c0 c1 c2 c3 a0 a1 s1 zI2 hrb1
    generalize wc.drewN nq = V at *
    obtain ⟨rx0, rx1⟩ := rx
    obtain ⟨ry0, ry1⟩ := ry
    have hx9 : x < 8 := by omega
    obtain ⟨c0, c1, c2, c3, -, -, -, -, zI2⟩ := XI.four
    obtain ⟨⟨d0, d1, d2, d3, d4, d5, d6, d7, d8, d9, d10, d11⟩, s2⟩ := X2.twelve
    have lx5 := X5.lt
    by_cases hq : one ≤ 7
    · focus
      have hq1 : ¬ 7 < one := by omega
      have HT1 : Hid (goS zs ⟨p, r, false⟩ ⟨mo, ba, l, op, oh, ot, st, fe, fp, fh, ft, lo⟩ = (zs, ⟨nextP p, r, false⟩, ⟨mo, ba, l, op, oh, ot, st, fe, fp, one, ft, lo⟩)) := by
        show _ = _
        rw [HT.out, exeI, if_neg (by decide), if_neg (by decide), if_neg (by decide), if_neg (by decide), if_neg (by decide), if_neg (by decide), if_pos rfl, HO1.out, if_pos (show one ≤ mostB 6 from hq)]; rfl
      clear hq
      go_upto_region 62 with fail
      clear c0 c1 c2 c3 zI2 d0 d1 d2 d3 d4 d5 d6 d7 d8 d9 d10 d11 s2
      have X0 := X0.past (.cells #[.int .i64 mo, .int .i64 ba, .slice ca l.length ck, .int .i64 op, .int .i64 oh, .int .i64 ot, .bool st, .int .i64 fe, .int .i64 fp, .int .i64 one, .int .i64 ft, .bool lo] 40)
      have X1 := X1.past (.cells #[.int .i64 mo, .int .i64 ba, .slice ca l.length ck, .int .i64 op, .int .i64 oh, .int .i64 ot, .bool st, .int .i64 fe, .int .i64 fp, .int .i64 one, .int .i64 ft, .bool lo] 40)
      have X2 := X2.past (.cells #[.int .i64 mo, .int .i64 ba, .slice ca l.length ck, .int .i64 op, .int .i64 oh, .int .i64 ot, .bool st, .int .i64 fe, .int .i64 fp, .int .i64 one, .int .i64 ft, .bool lo] 40)
      have X3 := X3.past (.cells #[.int .i64 mo, .int .i64 ba, .slice ca l.length ck, .int .i64 op, .int .i64 oh, .int .i64 ot, .bool st, .int .i64 fe, .int .i64 fp, .int .i64 one, .int .i64 ft, .bool lo] 40)
      have X4 := X4.past (.cells #[.int .i64 mo, .int .i64 ba, .slice ca l.length ck, .int .i64 op, .int .i64 oh, .int .i64 ot, .bool st, .int .i64 fe, .int .i64 fp, .int .i64 one, .int .i64 ft, .bool lo] 40)
      have X5 := X5.past (.cells #[.int .i64 mo, .int .i64 ba, .slice ca l.length ck, .int .i64 op, .int .i64 oh, .int .i64 ot, .bool st, .int .i64 fe, .int .i64 fp, .int .i64 one, .int .i64 ft, .bool lo] 40)
      have XN := XN.past (.cells #[.int .i64 mo, .int .i64 ba, .slice ca l.length ck, .int .i64 op, .int .i64 oh, .int .i64 ot, .bool st, .int .i64 fe, .int .i64 fp, .int .i64 one, .int .i64 ft, .bool lo] 40)
      have XI := XI.past (.cells #[.int .i64 mo, .int .i64 ba, .slice ca l.length ck, .int .i64 op, .int .i64 oh, .int .i64 ot, .bool st, .int .i64 fe, .int .i64 fp, .int .i64 one, .int .i64 ft, .bool lo] 40)
      have XC := Box.newAt (w := V) (n := V.heap.size) rfl 40 #[.int .i64 mo, .int .i64 ba, .slice ca l.length ck, .int .i64 op, .int .i64 oh, .int .i64 ot, .bool st, .int .i64 fe, .int .i64 fp, .int .i64 one, .int .i64 ft, .bool lo]
      have HOV : Hid (OwnI (V.alloc (.cells #[.int .i64 mo, .int .i64 ba, .slice ca l.length ck, .int .i64 op, .int .i64 oh, .int .i64 ot, .bool st, .int .i64 fe, .int .i64 fp, .int .i64 one, .int .i64 ft, .bool lo] 40)) W.heap.size (.slice (some ⟨g, 0, none⟩) 8 cg) r) := OwnI.alloc HOV.out _
      have BV : Hid (Below w.heap.size w (V.alloc (.cells #[.int .i64 mo, .int .i64 ba, .slice ca l.length ck, .int .i64 op, .int .i64 oh, .int .i64 ot, .bool st, .int .i64 fe, .int .i64 fp, .int .i64 one, .int .i64 ft, .bool lo] 40))) := bel_alloc BV.out _
      have lC : w.heap.size + 1 + 1 + 1 + 1 + 1 < V.heap.size := lx5
      generalize (V.alloc (.cells #[.int .i64 mo, .int .i64 ba, .slice ca l.length ck, .int .i64 op, .int .i64 oh, .int .i64 ot, .bool st, .int .i64 fe, .int .i64 fp, .int .i64 one, .int .i64 ft, .bool lo] 40)) = V2 at *
      generalize V.heap.size = C at *
      have B3 := BV
      have ZO := HOV
      clear BV HOV
      obtain ⟨m0, -, s0⟩ := X0.one
      obtain ⟨n0, n1, n2, -, -, -, zN⟩ := XN.three
      obtain ⟨⟨d0, d1, d2, d3, d4, d5, d6, d7, d8, d9, d10, d11⟩, s2⟩ := XC.twelve
      obtain ⟨a3, j3, s3⟩ := X3.one
      obtain ⟨a0, a1, a2, f0, f1, f2, s4⟩ := X4.three
      obtain ⟨⟨q0, q1, q2, q3, q4, q5, q6, q7, q8, q9, q10, q11⟩, s5⟩ := X5.twelve
      obtain ⟨y0, y1, y2, y3, y4, y5, y6, y7, y8, y9, y10, y11⟩ := X5.marks
      clear X0 X1 X2 X3 X4 X5 XN XI XC
      have e1 : ¬ n = w.heap.size + 1 + 1 + 1 := by omega
      have e2 : ¬ n = w.heap.size + 1 + 1 + 1 + 1 := by omega
      have e3 : ¬ n = w.heap.size + 1 + 1 + 1 + 1 + 1 := by omega
      have e4 : ¬ C = w.heap.size + 1 + 1 + 1 := by omega
      have e5 : ¬ C = w.heap.size + 1 + 1 + 1 + 1 := by omega
      have e6 : ¬ C = w.heap.size + 1 + 1 + 1 + 1 + 1 := by omega
      go_region
      go_wp2
      refine bodyPost_ret (v := .tuple #[.agg #[.slice (some ⟨b, o, none⟩) 512 cap], .agg #[.int .i64 (nextP p), .slice (some ⟨g, 0, none⟩) 8 cg, .bool false], .agg #[.int .i64 mo, .int .i64 ba, .slice ca l.length ck, .int .i64 op, .int .i64 oh, .int .i64 ot, .bool st, .int .i64 fe, .int .i64 fp, .int .i64 one, .int .i64 ft, .bool lo]]) (by simp [results, Try.results23, go_sem, *]) rfl ⟨_, _, _, _, _, _, _, _, _, _, _, _, _, _, rfl, HM.out.keep ?_, OwnI.sl (base := W.heap.size) ?_ (by rw [H8.out]; simp [maxLen]), HT1.out, ?_⟩
      rotate_left
      · repeat (first | with_reducible exact ZO.out | with_reducible refine OwnI.drew ?_ | with_reducible refine OwnI.alloc ?_ _ | (with_reducible refine OwnI.setLow ?_ ?_ _; (focus omega)))
      all_goals (repeat (first | with_reducible exact B3.out | with_reducible refine Below.drew ?_ | with_reducible refine bel_alloc ?_ _ | (with_reducible refine bel_set12 ?_ ?_ _ _ _ _ _ _ _ _ _ _ _ _; (focus omega)) | (with_reducible refine bel_set3 ?_ ?_ _ _ _; (focus omega)) | (with_reducible refine bel_set1 ?_ ?_ _; (focus omega))))
    · focus
      have hq1 : 7 < one := by omega
      go_upto_region 61 with fail
      clear c0 c1 c2 c3 zI2 d0 d1 d2 d3 d4 d5 d6 d7 d8 d9 d10 d11 s2
      have X0 := X0.past (.cells #[.int .i64 mo, .int .i64 ba, .slice ca l.length ck, .int .i64 op, .int .i64 oh, .int .i64 ot, .bool st, .int .i64 fe, .int .i64 fp, .int .i64 one, .int .i64 ft, .bool lo] 40)
      have X1 := X1.past (.cells #[.int .i64 mo, .int .i64 ba, .slice ca l.length ck, .int .i64 op, .int .i64 oh, .int .i64 ot, .bool st, .int .i64 fe, .int .i64 fp, .int .i64 one, .int .i64 ft, .bool lo] 40)
      have X2 := X2.past (.cells #[.int .i64 mo, .int .i64 ba, .slice ca l.length ck, .int .i64 op, .int .i64 oh, .int .i64 ot, .bool st, .int .i64 fe, .int .i64 fp, .int .i64 one, .int .i64 ft, .bool lo] 40)
      have X3 := X3.past (.cells #[.int .i64 mo, .int .i64 ba, .slice ca l.length ck, .int .i64 op, .int .i64 oh, .int .i64 ot, .bool st, .int .i64 fe, .int .i64 fp, .int .i64 one, .int .i64 ft, .bool lo] 40)
      have X4 := X4.past (.cells #[.int .i64 mo, .int .i64 ba, .slice ca l.length ck, .int .i64 op, .int .i64 oh, .int .i64 ot, .bool st, .int .i64 fe, .int .i64 fp, .int .i64 one, .int .i64 ft, .bool lo] 40)
      have X5 := X5.past (.cells #[.int .i64 mo, .int .i64 ba, .slice ca l.length ck, .int .i64 op, .int .i64 oh, .int .i64 ot, .bool st, .int .i64 fe, .int .i64 fp, .int .i64 one, .int .i64 ft, .bool lo] 40)
      have XN := XN.past (.cells #[.int .i64 mo, .int .i64 ba, .slice ca l.length ck, .int .i64 op, .int .i64 oh, .int .i64 ot, .bool st, .int .i64 fe, .int .i64 fp, .int .i64 one, .int .i64 ft, .bool lo] 40)
      have XI := XI.past (.cells #[.int .i64 mo, .int .i64 ba, .slice ca l.length ck, .int .i64 op, .int .i64 oh, .int .i64 ot, .bool st, .int .i64 fe, .int .i64 fp, .int .i64 one, .int .i64 ft, .bool lo] 40)
      have XC := Box.newAt (w := V) (n := V.heap.size) rfl 40 #[.int .i64 mo, .int .i64 ba, .slice ca l.length ck, .int .i64 op, .int .i64 oh, .int .i64 ot, .bool st, .int .i64 fe, .int .i64 fp, .int .i64 one, .int .i64 ft, .bool lo]
      have HOV : Hid (OwnI (V.alloc (.cells #[.int .i64 mo, .int .i64 ba, .slice ca l.length ck, .int .i64 op, .int .i64 oh, .int .i64 ot, .bool st, .int .i64 fe, .int .i64 fp, .int .i64 one, .int .i64 ft, .bool lo] 40)) W.heap.size (.slice (some ⟨g, 0, none⟩) 8 cg) r) := OwnI.alloc HOV.out _
      have BV : Hid (Below w.heap.size w (V.alloc (.cells #[.int .i64 mo, .int .i64 ba, .slice ca l.length ck, .int .i64 op, .int .i64 oh, .int .i64 ot, .bool st, .int .i64 fe, .int .i64 fp, .int .i64 one, .int .i64 ft, .bool lo] 40))) := bel_alloc BV.out _
      have lC : w.heap.size + 1 + 1 + 1 + 1 + 1 < V.heap.size := lx5
      generalize (V.alloc (.cells #[.int .i64 mo, .int .i64 ba, .slice ca l.length ck, .int .i64 op, .int .i64 oh, .int .i64 ot, .bool st, .int .i64 fe, .int .i64 fp, .int .i64 one, .int .i64 ft, .bool lo] 40)) = V2 at *
      generalize V.heap.size = C at *
      have HT1 : Hid (goS zs ⟨p, r, false⟩ ⟨mo, ba, l, op, oh, ot, st, fe, fp, fh, ft, lo⟩ = (zs, ⟨p, r, true⟩, ⟨mo, ba, l, op, oh, ot, st, fe, fp, fh, ft, lo⟩)) := by
        show _ = _
        rw [HT.out, exeI, if_neg (by decide), if_neg (by decide), if_neg (by decide), if_neg (by decide), if_neg (by decide), if_neg (by decide), if_pos rfl, HO1.out, if_neg (show ¬ one ≤ mostB 6 from hq)]; rfl
      go_wp2_with fail
      refine (stands_any (w.heap.size + 1) w.heap.size (w.heap.size + 1 + 1) _ _ p false mo ba op oh ot fe fp fh ft st lo _ _ X1 X0 X2 (by omega) (by omega) ⟨_, _, _, rfl⟩ ⟨_, _, _, rfl⟩ ⟨_, _, _, rfl⟩).mono ?_
      rintro e w2 ⟨rfl, K⟩
      have Y3 := K.box _ _ _ (by omega) X3
      have Y4 := K.box _ _ _ (by omega) X4
      have Y5 := K.box _ _ _ (by omega) X5
      have B3 : Hid (Below w.heap.size w w2) := K.bel w (by omega) BV.out
      clear K X0 X1 X2 X3 X4 X5 XN XI XC HOV BV
      obtain ⟨m0, j0, s3⟩ := Y3.one
      obtain ⟨a0, a1, a2, f0, f1, f2, s4⟩ := Y4.three
      obtain ⟨⟨q0, q1, q2, q3, q4, q5, q6, q7, q8, q9, q10, q11⟩, s5⟩ := Y5.twelve
      obtain ⟨y0, y1, y2, y3, y4, y5, y6, y7, y8, y9, y10, y11⟩ := Y5.marks
      clear Y3 Y4 Y5
      go_wp2
      refine bodyPost_ret (v := .tuple #[.agg #[.slice (some ⟨b, o, none⟩) 512 cap], .agg #[.int .i64 p, .slice (some ⟨rb, ro, none⟩) 8 rc, .bool true], .agg #[.int .i64 mo, .int .i64 ba, .slice ca l.length ck, .int .i64 op, .int .i64 oh, .int .i64 ot, .bool st, .int .i64 fe, .int .i64 fp, .int .i64 fh, .int .i64 ft, .bool lo]]) (by simp [results, Try.results23, go_sem, *]) rfl ⟨_, _, _, _, _, _, _, _, _, _, _, _, _, _, rfl, HM.out.keep ?_, HR.out.keep ?_, HT1.out, ?_⟩
      all_goals (repeat (first | with_reducible exact B3.out | with_reducible refine Below.drew ?_ | with_reducible refine bel_alloc ?_ _ | (with_reducible refine bel_set12 ?_ ?_ _ _ _ _ _ _ _ _ _ _ _ _; (focus omega)) | (with_reducible refine bel_set3 ?_ ?_ _ _ _; (focus omega)) | (with_reducible refine bel_set1 ?_ ?_ _; (focus omega))))
end Go.Proofs.Ytfbmmiikhkmpfac
/-
  drawbridgeref's Stepped: kind 7, register 9; nothing that was there turns.
-/
namespace Go.Proofs.Ytfbmmiikhkmpfac
open Go.RowKit

set_option maxRecDepth 10000 in
set_option maxHeartbeats 8000000 in
theorem stepped_7_9 (v : Value) (zs : List Int) (p : Int) (u : Value) (r : List Int) (mo ba op oh ot fe fp fh ft : Int) (st lo : Bool) (vc : Value) (l : List Ln) (w : World) (hs : Sl w v zs) (hr : Sl w u r) (h : Ls w vc l) (hE : stE zs ⟨p, r, false⟩ ⟨mo, ba, l, op, oh, ot, st, fe, fp, fh, ft, lo⟩ = 0) (x y : Int) (hI : riE (insW zs ⟨p, r, false⟩) = 0) (hX : riX (insW zs ⟨p, r, false⟩) = (7, x, y, 9)) :
    Calls Try.prog 23 #[.agg #[v], .agg #[.int .i64 p, u, .bool false], .agg #[.int .i64 mo, .int .i64 ba, vc, .int .i64 op, .int .i64 oh, .int .i64 ot, .bool st, .int .i64 fe, .int .i64 fp, .int .i64 fh, .int .i64 ft, .bool lo]] w fun e w' => StepOut w.heap.size zs ⟨p, r, false⟩ mo ba op oh ot fe fp fh ft st lo vc l w e w' := by
  obtain ⟨hz, hh, hb, -⟩ := stE_ok hE
  obtain ⟨hr8, ⟨hp0, hp1⟩, hrw⟩ := chkH_ok hh
  dsimp only at hr8 hp0 hp1 hrw
  have HV : Hid (∃ a k c, v = .slice a k c) := let ⟨a, c, e, _⟩ := hs; ⟨a, _, c, e⟩
  have HL : Hid (Ls w vc l) := h
  obtain ⟨ca, ck, rfl, -⟩ := h
  have HM : Hid (Sl w v zs) := hs
  have HZ : Hid (chk zs = 0) := hz
  have HB : Hid (chkB ⟨mo, ba, l, op, oh, ot, st, fe, fp, fh, ft, lo⟩ = 0) := hb
  have HW : Hid (∀ i, i < 8 → 0 ≤ nth r i ∧ nth r i ≤ 65535) := hrw
  have H8 : Hid (r.length = 8) := hr8
  have HE : Hid _ := hE
  obtain ⟨b, o, cap, rfl, hbb, hcs⟩ := hs.open512 (chk_ok hz).1
  have HCS : Hid (∀ i, i < 512 → w.cell? ⟨b, o + i, none⟩ = some (.int .i64 (nth zs i))) := hcs
  obtain ⟨ra, rc, rfl, hrl, hrr⟩ := hr
  rcases hrr with e | ⟨rb, ro, rfl, hrb, hrc⟩
  · exact absurd hr8 (by rw [e]; simp)
  have HR : Hid (Sl w (.slice (some ⟨rb, ro, none⟩) 8 rc) r) := by
    show Sl _ _ _
    rw [← hr8]; exact ⟨_, rc, rfl, hrl, .inr ⟨rb, ro, rfl, hrb, hrc⟩⟩
  rw [hr8] at hrc ⊢
  have HRC : Hid (∀ i, i < 8 → w.cell? ⟨rb, ro + i, none⟩ = some (.int .i64 (nth r i))) := hrc
  have gz := hcs p.toNat (by omega)
  obtain ⟨z, hzz⟩ : ∃ z, nth zs p.toNat = z := ⟨_, rfl⟩
  rw [hzz] at gz
  have HI : Hid (insW zs ⟨p, r, false⟩ = z) := hzz
  clear hz hh hb hs hcs hrc hrw hE hzz hr8 hrl
  have t1 : b < w.heap.size + 1 := by omega
  have t2 : b < w.heap.size + 1 + 1 := by omega
  have t3 : b < w.heap.size + 1 + 1 + 1 := by omega
  have t4 : b < w.heap.size + 1 + 1 + 1 + 1 := by omega
  have t5 : b < w.heap.size + 1 + 1 + 1 + 1 + 1 := by omega
  have hE2 : riE z = 0 := by have := hI; rw [HI.out] at this; exact this
  have hX2 : riX z = (7, x, y, 9) := by have := hX; rw [HI.out] at this; exact this
  have HE2 : Hid (riE z = 0) := hE2
  have HX2 : Hid (riX z = (7, x, y, 9)) := hX2
  clear hI hX
  clear hE2 hX2
  go_enter Try.func23, Try.ntmps23
  go_wp2_with fail
  refine (insOf_at HE2.out HX2.out).mono ?_
  rintro e w1 ⟨rfl, b1⟩
  have X0 := ((((((Box.newAt (w := w) (n := w.heap.size) rfl 33 #[.slice (some ⟨b, o, none⟩) 512 cap]).past _).past _).past _).past _).past _).keep b1
  have X1 := (((((Box.newAt (n := w.heap.size + 1) (by simp) 35 #[.int .i64 p, .slice (some ⟨rb, ro, none⟩) 8 rc, .bool false]).past _).past _).past _).past _).keep b1
  have X2 := ((((Box.newAt (n := w.heap.size + 1 + 1) (by simp) 40 #[.int .i64 mo, .int .i64 ba, .slice ca l.length ck, .int .i64 op, .int .i64 oh, .int .i64 ot, .bool st, .int .i64 fe, .int .i64 fp, .int .i64 fh, .int .i64 ft, .bool lo]).past _).past _).past _).keep b1
  have X3 := (((Box.newAt (n := w.heap.size + 1 + 1 + 1) (by simp) 33 #[.slice none 0 0]).past _).past _).keep b1
  have X4 := ((Box.newAt (n := w.heap.size + 1 + 1 + 1 + 1) (by simp) 35 #[.int .i64 0, .slice none 0 0, .bool false]).past _).keep b1
  have X5 := (Box.newAt (n := w.heap.size + 1 + 1 + 1 + 1 + 1) (by simp) 40 #[.int .i64 0, .int .i64 0, .slice none 0 0, .int .i64 0, .int .i64 0, .int .i64 0, .bool false, .int .i64 0, .int .i64 0, .int .i64 0, .int .i64 0, .bool false]).keep b1
  have B1 : Hid (Below w.heap.size w w1) := bel_trans (bel_alloc (bel_alloc (bel_alloc (bel_alloc (bel_alloc (bel_alloc (Below.refl _ _) _) _) _) _) _) _) b1
  have z1 : w.heap.size + 1 + 1 + 1 + 1 + 1 + 1 ≤ w1.heap.size := by have := b1.size; simpa using this
  clear b1 gz t1 t2 t3 t4 t5
  have XI := Box.newAt (w := w1) (n := w1.heap.size) rfl 23 #[.int .i64 7, .int .i64 x, .int .i64 y, .int .i64 9]
  have X0 := X0.past (.cells #[.int .i64 7, .int .i64 x, .int .i64 y, .int .i64 9] 23)
  have X1 := X1.past (.cells #[.int .i64 7, .int .i64 x, .int .i64 y, .int .i64 9] 23)
  have X2 := X2.past (.cells #[.int .i64 7, .int .i64 x, .int .i64 y, .int .i64 9] 23)
  have X3 := X3.past (.cells #[.int .i64 7, .int .i64 x, .int .i64 y, .int .i64 9] 23)
  have X4 := X4.past (.cells #[.int .i64 7, .int .i64 x, .int .i64 y, .int .i64 9] 23)
  have X5 := X5.past (.cells #[.int .i64 7, .int .i64 x, .int .i64 y, .int .i64 9] 23)
  have BW : Hid (Below w.heap.size w (w1.alloc (.cells #[.int .i64 7, .int .i64 x, .int .i64 y, .int .i64 9] 23))) := bel_alloc B1.out _
  clear B1
  go_upto_region 5 with fail
  generalize hI : w1.heap.size = I at *
  generalize hW : (w1.alloc (.cells #[.int .i64 7, .int .i64 x, .int .i64 y, .int .i64 9] 23)) = W at *
  clear hW hI
  have HRW : Hid (Sl W (.slice (some ⟨rb, ro, none⟩) 8 rc) r) := HR.out.keep BW.out
  have HPN : Hid ((IntKind.i64.wrap (p + 1)).tmod 512 = nextP p) := next_wrap hp0 hp1
  have HNE : Hid (r ≠ []) := fun e => by have := H8.out; rw [e] at this; simp at this
  have HOL : Hid (OwnI (W.alloc (.cells #[] 3)) W.heap.size (.slice (some ⟨W.heap.size, 0, none⟩) 0 0) []) := own_lit rfl (Nat.le_refl _)
  have HOL2 : Hid (∀ ob : Obj, OwnI ((W.alloc ob).alloc (.cells #[] 3)) W.heap.size (.slice (some ⟨W.heap.size + 1, 0, none⟩) 0 0) []) := fun ob => own_lit (by simp) (by simp)
  obtain ⟨a0, a1, -, -, -, -, s1⟩ := X1.three
  have zI := XI.lt
  go_cut [12] from 37 to 45 (fun s wx => ∃ n g cg, s = .pointer (some ⟨n, 0, none⟩) ∧ Box wx n 35 #[.int .i64 (nextP p), .slice (some ⟨g, 0, none⟩) r.length cg, .bool false] ∧ OwnI wx W.heap.size (.slice (some ⟨g, 0, none⟩) r.length cg) r ∧ W.heap.size ≤ n ∧ Below W.heap.size W wx)
  case first =>
    go_region_held3 (fun w' => w'.cell? ⟨w.heap.size + 1, 0, none⟩ = some (.int .i64 p) ∧ w'.cell? ⟨w.heap.size + 1, 1, none⟩ = some (.slice (some ⟨rb, ro, none⟩) 8 rc) ∧ Below W.heap.size W w')
      (with_reducible refine keep2H (by assumption) (by assumption) (by assumption) ?_; (repeat (first | with_reducible assumption | (with_reducible (refine limb2H (?_ : _ ∧ _ ∧ _); assumption)) | with_reducible exact Below.refl _ _ | with_reducible refine Below.drew ?_ | with_reducible refine bel_drewN ?_ _ | with_reducible refine bel_alloc ?_ _ | with_reducible refine Below.trans ?_ (by assumption) | (with_reducible refine bel_set3 ?_ ?_ _ _ _; (focus omega)))))
      (first | (refine step_append_I rfl (.tmp 41) (.tmp 43) rfl W.heap.size (.slice (some ⟨_, 0, none⟩) 0 0) (.slice (some ⟨rb, ro, none⟩) 8 rc) [] r rfl rfl ?_ ?_ ?_ ?_ ?_ ?_; (focus ((repeat (first | with_reducible refine OwnI.drew ?_ | with_reducible exact HOL.out | with_reducible exact HOL2.out _ | with_reducible refine OwnI.alloc ?_ _)); done)); (focus (refine HRW.out.keep ?_; (repeat (first | with_reducible exact Below.refl _ _ | with_reducible refine Below.drew ?_ | with_reducible refine bel_alloc ?_ _)); done)); (focus (rw [H8.out]; simp; done)); (focus (first | (simp; done) | (simp; omega))); (focus (exact HNE.out)); intro g cg w7 hown hgr hbel hat; first | (have XN := ord2 hgr; obtain ⟨i0, i1, i2, j0, j1, j2, l9⟩ := XN.three) | (have XN := ord3 hgr; obtain ⟨i0, i1, i2, j0, j1, j2, l9⟩ := XN.three) | skip))
    all_goals (rename_i hH; have HBE := limb2H hH; clear hH)
    all_goals (go_wp2_with fail; go_meet)
    · refine ⟨_, g, cg, rfl, by rw [← HPN.out]; exact Box.newAt rfl _ _, hown.alloc _, by have := hbel.size; simp at this; omega, HBE⟩
    · refine ⟨_, g, cg, rfl, by rw [← HPN.out]; exact XN.set3 _ _ _, hown.far3 (own_ne hown XN) _ _ _, by omega, HBE⟩
    · refine ⟨_, g, cg, rfl, by rw [← HPN.out]; exact XN.set3 _ _ _, hown.far3 (own_ne hown XN) _ _ _, by omega, HBE⟩
  case rest =>
    obtain ⟨n, g, cg, rfl, XN, HO, hn, BC⟩ := hcut
    rw [H8.out] at XN
    have HO : OwnI wc W.heap.size (.slice (some ⟨g, 0, none⟩) 8 cg) r := by rw [← H8.out]; exact HO
    have X0 := X0.keep BC
    have X1 := X1.keep BC
    have X2 := X2.keep BC
    have X3 := X3.keep BC
    have X4 := X4.keep BC
    have X5 := X5.keep BC
    have XI := XI.keep BC
    have B2 : Hid (Below w.heap.size w wc) := bel_trans BW.out BC
    have HOW : Hid (OwnI wc W.heap.size (.slice (some ⟨g, 0, none⟩) 8 cg) r) := HO
    have hgn := own_ne HO XN
    have hgW := HO.base g rfl
    clear BC BW HRW HOL HOL2 HNE HPN HO
    obtain ⟨i1, i2, i3, i4, -⟩ := iE_ok (i_read HE2.out HX2.out).1
    have rx := HW.out x.toNat (by omega)
    have ry := HW.out y.toNat (by omega)
    have gx := HRC.out x.toNat (by omega)
    have gy := HRC.out y.toNat (by omega)
    obtain ⟨one, h1⟩ : ∃ one, nth r x.toNat = one := ⟨_, rfl⟩
    obtain ⟨two, h2⟩ : ∃ two, nth r y.toNat = two := ⟨_, rfl⟩
    rw [h1] at rx gx
    rw [h2] at ry gy
    rw [← B2.out.cell (p := ⟨rb, ro + x.toNat, none⟩) hrb] at gx
    rw [← B2.out.cell (p := ⟨rb, ro + y.toNat, none⟩) hrb] at gy
    have HT : Hid (goS zs ⟨p, r, false⟩ ⟨mo, ba, l, op, oh, ot, st, fe, fp, fh, ft, lo⟩ = exeI zs ⟨p, r, false⟩ ⟨mo, ba, l, op, oh, ot, st, fe, fp, fh, ft, lo⟩ 7 x y 9) := by
      show _ = _
      rw [goS, HI.out, if_pos HE2.out, HX2.out]
    have HO1 : Hid (nth r x.toNat = one) := h1
    have HO2 : Hid (nth r y.toNat = two) := h2
    clear h1 h2 HE2 HX2
    clear i1
    obtain ⟨i2a, i2b⟩ := i2
    obtain ⟨i3a, i3b⟩ := i3
    clear i4
    obtain ⟨c0, c1, c2, c3, -, -, -, -, zI2⟩ := XI.four
    clear a0 a1 s1
    obtain ⟨a0, a1, -, -, -, -, s1⟩ := X1.three
    have hrb1 : rb < wc.heap.size := by omega
    go_upto_region 6 with fail
    go_quiet (fail)
    have X0 := X0.drewN nq
    have X1 := X1.drewN nq
    have X2 := X2.drewN nq
    have X3 := X3.drewN nq
    have X4 := X4.drewN nq
    have X5 := X5.drewN nq
    have XN := XN.drewN nq
    have XI := XI.drewN nq
    have HOV : Hid (OwnI (wc.drewN nq) W.heap.size (.slice (some ⟨g, 0, none⟩) 8 cg) r) := HOW.out
    have BV : Hid (Below w.heap.size w (wc.drewN nq)) := bel_drewN B2.out nq
    have lg : g < (wc.drewN nq).heap.size := OwnI.lt HOV.out g rfl
    clear HOW B2 gx gy c0 c1 c2 c3 a0 a1 s1 zI2 hrb1
    generalize wc.drewN nq = V at *
    obtain ⟨rx0, rx1⟩ := rx
    obtain ⟨ry0, ry1⟩ := ry
    have hx9 : x < 8 := by omega
    obtain ⟨c0, c1, c2, c3, -, -, -, -, zI2⟩ := XI.four
    obtain ⟨⟨d0, d1, d2, d3, d4, d5, d6, d7, d8, d9, d10, d11⟩, s2⟩ := X2.twelve
    have lx5 := X5.lt
    by_cases hq : one ≤ 0
    · focus
      have hq1 : ¬ 0 < one := by omega
      have HT1 : Hid (goS zs ⟨p, r, false⟩ ⟨mo, ba, l, op, oh, ot, st, fe, fp, fh, ft, lo⟩ = (zs, ⟨nextP p, r, false⟩, ⟨mo, ba, l, op, oh, ot, false, fe, fp, fh, ft, false⟩)) := by
        show _ = _
        rw [HT.out, exeI, if_neg (by decide), if_neg (by decide), if_neg (by decide), if_neg (by decide), if_neg (by decide), if_neg (by decide), if_pos rfl, HO1.out, if_pos (show one ≤ mostB 9 from hq)]; rfl
      clear hq
      go_upto_region 62 with fail
      clear c0 c1 c2 c3 zI2 d0 d1 d2 d3 d4 d5 d6 d7 d8 d9 d10 d11 s2
      have X0 := X0.past (.cells #[.int .i64 mo, .int .i64 ba, .slice ca l.length ck, .int .i64 op, .int .i64 oh, .int .i64 ot, .bool false, .int .i64 fe, .int .i64 fp, .int .i64 fh, .int .i64 ft, .bool false] 40)
      have X1 := X1.past (.cells #[.int .i64 mo, .int .i64 ba, .slice ca l.length ck, .int .i64 op, .int .i64 oh, .int .i64 ot, .bool false, .int .i64 fe, .int .i64 fp, .int .i64 fh, .int .i64 ft, .bool false] 40)
      have X2 := X2.past (.cells #[.int .i64 mo, .int .i64 ba, .slice ca l.length ck, .int .i64 op, .int .i64 oh, .int .i64 ot, .bool false, .int .i64 fe, .int .i64 fp, .int .i64 fh, .int .i64 ft, .bool false] 40)
      have X3 := X3.past (.cells #[.int .i64 mo, .int .i64 ba, .slice ca l.length ck, .int .i64 op, .int .i64 oh, .int .i64 ot, .bool false, .int .i64 fe, .int .i64 fp, .int .i64 fh, .int .i64 ft, .bool false] 40)
      have X4 := X4.past (.cells #[.int .i64 mo, .int .i64 ba, .slice ca l.length ck, .int .i64 op, .int .i64 oh, .int .i64 ot, .bool false, .int .i64 fe, .int .i64 fp, .int .i64 fh, .int .i64 ft, .bool false] 40)
      have X5 := X5.past (.cells #[.int .i64 mo, .int .i64 ba, .slice ca l.length ck, .int .i64 op, .int .i64 oh, .int .i64 ot, .bool false, .int .i64 fe, .int .i64 fp, .int .i64 fh, .int .i64 ft, .bool false] 40)
      have XN := XN.past (.cells #[.int .i64 mo, .int .i64 ba, .slice ca l.length ck, .int .i64 op, .int .i64 oh, .int .i64 ot, .bool false, .int .i64 fe, .int .i64 fp, .int .i64 fh, .int .i64 ft, .bool false] 40)
      have XI := XI.past (.cells #[.int .i64 mo, .int .i64 ba, .slice ca l.length ck, .int .i64 op, .int .i64 oh, .int .i64 ot, .bool false, .int .i64 fe, .int .i64 fp, .int .i64 fh, .int .i64 ft, .bool false] 40)
      have XC := Box.newAt (w := V) (n := V.heap.size) rfl 40 #[.int .i64 mo, .int .i64 ba, .slice ca l.length ck, .int .i64 op, .int .i64 oh, .int .i64 ot, .bool false, .int .i64 fe, .int .i64 fp, .int .i64 fh, .int .i64 ft, .bool false]
      have HOV : Hid (OwnI (V.alloc (.cells #[.int .i64 mo, .int .i64 ba, .slice ca l.length ck, .int .i64 op, .int .i64 oh, .int .i64 ot, .bool false, .int .i64 fe, .int .i64 fp, .int .i64 fh, .int .i64 ft, .bool false] 40)) W.heap.size (.slice (some ⟨g, 0, none⟩) 8 cg) r) := OwnI.alloc HOV.out _
      have BV : Hid (Below w.heap.size w (V.alloc (.cells #[.int .i64 mo, .int .i64 ba, .slice ca l.length ck, .int .i64 op, .int .i64 oh, .int .i64 ot, .bool false, .int .i64 fe, .int .i64 fp, .int .i64 fh, .int .i64 ft, .bool false] 40))) := bel_alloc BV.out _
      have lC : w.heap.size + 1 + 1 + 1 + 1 + 1 < V.heap.size := lx5
      generalize (V.alloc (.cells #[.int .i64 mo, .int .i64 ba, .slice ca l.length ck, .int .i64 op, .int .i64 oh, .int .i64 ot, .bool false, .int .i64 fe, .int .i64 fp, .int .i64 fh, .int .i64 ft, .bool false] 40)) = V2 at *
      generalize V.heap.size = C at *
      have B3 := BV
      have ZO := HOV
      clear BV HOV
      obtain ⟨m0, -, s0⟩ := X0.one
      obtain ⟨n0, n1, n2, -, -, -, zN⟩ := XN.three
      obtain ⟨⟨d0, d1, d2, d3, d4, d5, d6, d7, d8, d9, d10, d11⟩, s2⟩ := XC.twelve
      obtain ⟨a3, j3, s3⟩ := X3.one
      obtain ⟨a0, a1, a2, f0, f1, f2, s4⟩ := X4.three
      obtain ⟨⟨q0, q1, q2, q3, q4, q5, q6, q7, q8, q9, q10, q11⟩, s5⟩ := X5.twelve
      obtain ⟨y0, y1, y2, y3, y4, y5, y6, y7, y8, y9, y10, y11⟩ := X5.marks
      clear X0 X1 X2 X3 X4 X5 XN XI XC
      have e1 : ¬ n = w.heap.size + 1 + 1 + 1 := by omega
      have e2 : ¬ n = w.heap.size + 1 + 1 + 1 + 1 := by omega
      have e3 : ¬ n = w.heap.size + 1 + 1 + 1 + 1 + 1 := by omega
      have e4 : ¬ C = w.heap.size + 1 + 1 + 1 := by omega
      have e5 : ¬ C = w.heap.size + 1 + 1 + 1 + 1 := by omega
      have e6 : ¬ C = w.heap.size + 1 + 1 + 1 + 1 + 1 := by omega
      go_region
      go_wp2
      refine bodyPost_ret (v := .tuple #[.agg #[.slice (some ⟨b, o, none⟩) 512 cap], .agg #[.int .i64 (nextP p), .slice (some ⟨g, 0, none⟩) 8 cg, .bool false], .agg #[.int .i64 mo, .int .i64 ba, .slice ca l.length ck, .int .i64 op, .int .i64 oh, .int .i64 ot, .bool false, .int .i64 fe, .int .i64 fp, .int .i64 fh, .int .i64 ft, .bool false]]) (by simp [results, Try.results23, go_sem, *]) rfl ⟨_, _, _, _, _, _, _, _, _, _, _, _, _, _, rfl, HM.out.keep ?_, OwnI.sl (base := W.heap.size) ?_ (by rw [H8.out]; simp [maxLen]), HT1.out, ?_⟩
      rotate_left
      · repeat (first | with_reducible exact ZO.out | with_reducible refine OwnI.drew ?_ | with_reducible refine OwnI.alloc ?_ _ | (with_reducible refine OwnI.setLow ?_ ?_ _; (focus omega)))
      all_goals (repeat (first | with_reducible exact B3.out | with_reducible refine Below.drew ?_ | with_reducible refine bel_alloc ?_ _ | (with_reducible refine bel_set12 ?_ ?_ _ _ _ _ _ _ _ _ _ _ _ _; (focus omega)) | (with_reducible refine bel_set3 ?_ ?_ _ _ _; (focus omega)) | (with_reducible refine bel_set1 ?_ ?_ _; (focus omega))))
    · focus
      have hq1 : 0 < one := by omega
      go_upto_region 61 with fail
      clear c0 c1 c2 c3 zI2 d0 d1 d2 d3 d4 d5 d6 d7 d8 d9 d10 d11 s2
      have X0 := X0.past (.cells #[.int .i64 mo, .int .i64 ba, .slice ca l.length ck, .int .i64 op, .int .i64 oh, .int .i64 ot, .bool false, .int .i64 fe, .int .i64 fp, .int .i64 fh, .int .i64 ft, .bool false] 40)
      have X1 := X1.past (.cells #[.int .i64 mo, .int .i64 ba, .slice ca l.length ck, .int .i64 op, .int .i64 oh, .int .i64 ot, .bool false, .int .i64 fe, .int .i64 fp, .int .i64 fh, .int .i64 ft, .bool false] 40)
      have X2 := X2.past (.cells #[.int .i64 mo, .int .i64 ba, .slice ca l.length ck, .int .i64 op, .int .i64 oh, .int .i64 ot, .bool false, .int .i64 fe, .int .i64 fp, .int .i64 fh, .int .i64 ft, .bool false] 40)
      have X3 := X3.past (.cells #[.int .i64 mo, .int .i64 ba, .slice ca l.length ck, .int .i64 op, .int .i64 oh, .int .i64 ot, .bool false, .int .i64 fe, .int .i64 fp, .int .i64 fh, .int .i64 ft, .bool false] 40)
      have X4 := X4.past (.cells #[.int .i64 mo, .int .i64 ba, .slice ca l.length ck, .int .i64 op, .int .i64 oh, .int .i64 ot, .bool false, .int .i64 fe, .int .i64 fp, .int .i64 fh, .int .i64 ft, .bool false] 40)
      have X5 := X5.past (.cells #[.int .i64 mo, .int .i64 ba, .slice ca l.length ck, .int .i64 op, .int .i64 oh, .int .i64 ot, .bool false, .int .i64 fe, .int .i64 fp, .int .i64 fh, .int .i64 ft, .bool false] 40)
      have XN := XN.past (.cells #[.int .i64 mo, .int .i64 ba, .slice ca l.length ck, .int .i64 op, .int .i64 oh, .int .i64 ot, .bool false, .int .i64 fe, .int .i64 fp, .int .i64 fh, .int .i64 ft, .bool false] 40)
      have XI := XI.past (.cells #[.int .i64 mo, .int .i64 ba, .slice ca l.length ck, .int .i64 op, .int .i64 oh, .int .i64 ot, .bool false, .int .i64 fe, .int .i64 fp, .int .i64 fh, .int .i64 ft, .bool false] 40)
      have XC := Box.newAt (w := V) (n := V.heap.size) rfl 40 #[.int .i64 mo, .int .i64 ba, .slice ca l.length ck, .int .i64 op, .int .i64 oh, .int .i64 ot, .bool false, .int .i64 fe, .int .i64 fp, .int .i64 fh, .int .i64 ft, .bool false]
      have HOV : Hid (OwnI (V.alloc (.cells #[.int .i64 mo, .int .i64 ba, .slice ca l.length ck, .int .i64 op, .int .i64 oh, .int .i64 ot, .bool false, .int .i64 fe, .int .i64 fp, .int .i64 fh, .int .i64 ft, .bool false] 40)) W.heap.size (.slice (some ⟨g, 0, none⟩) 8 cg) r) := OwnI.alloc HOV.out _
      have BV : Hid (Below w.heap.size w (V.alloc (.cells #[.int .i64 mo, .int .i64 ba, .slice ca l.length ck, .int .i64 op, .int .i64 oh, .int .i64 ot, .bool false, .int .i64 fe, .int .i64 fp, .int .i64 fh, .int .i64 ft, .bool false] 40))) := bel_alloc BV.out _
      have lC : w.heap.size + 1 + 1 + 1 + 1 + 1 < V.heap.size := lx5
      generalize (V.alloc (.cells #[.int .i64 mo, .int .i64 ba, .slice ca l.length ck, .int .i64 op, .int .i64 oh, .int .i64 ot, .bool false, .int .i64 fe, .int .i64 fp, .int .i64 fh, .int .i64 ft, .bool false] 40)) = V2 at *
      generalize V.heap.size = C at *
      have HT1 : Hid (goS zs ⟨p, r, false⟩ ⟨mo, ba, l, op, oh, ot, st, fe, fp, fh, ft, lo⟩ = (zs, ⟨p, r, true⟩, ⟨mo, ba, l, op, oh, ot, st, fe, fp, fh, ft, lo⟩)) := by
        show _ = _
        rw [HT.out, exeI, if_neg (by decide), if_neg (by decide), if_neg (by decide), if_neg (by decide), if_neg (by decide), if_neg (by decide), if_pos rfl, HO1.out, if_neg (show ¬ one ≤ mostB 9 from hq)]; rfl
      go_wp2_with fail
      refine (stands_any (w.heap.size + 1) w.heap.size (w.heap.size + 1 + 1) _ _ p false mo ba op oh ot fe fp fh ft st lo _ _ X1 X0 X2 (by omega) (by omega) ⟨_, _, _, rfl⟩ ⟨_, _, _, rfl⟩ ⟨_, _, _, rfl⟩).mono ?_
      rintro e w2 ⟨rfl, K⟩
      have Y3 := K.box _ _ _ (by omega) X3
      have Y4 := K.box _ _ _ (by omega) X4
      have Y5 := K.box _ _ _ (by omega) X5
      have B3 : Hid (Below w.heap.size w w2) := K.bel w (by omega) BV.out
      clear K X0 X1 X2 X3 X4 X5 XN XI XC HOV BV
      obtain ⟨m0, j0, s3⟩ := Y3.one
      obtain ⟨a0, a1, a2, f0, f1, f2, s4⟩ := Y4.three
      obtain ⟨⟨q0, q1, q2, q3, q4, q5, q6, q7, q8, q9, q10, q11⟩, s5⟩ := Y5.twelve
      obtain ⟨y0, y1, y2, y3, y4, y5, y6, y7, y8, y9, y10, y11⟩ := Y5.marks
      clear Y3 Y4 Y5
      go_wp2
      refine bodyPost_ret (v := .tuple #[.agg #[.slice (some ⟨b, o, none⟩) 512 cap], .agg #[.int .i64 p, .slice (some ⟨rb, ro, none⟩) 8 rc, .bool true], .agg #[.int .i64 mo, .int .i64 ba, .slice ca l.length ck, .int .i64 op, .int .i64 oh, .int .i64 ot, .bool st, .int .i64 fe, .int .i64 fp, .int .i64 fh, .int .i64 ft, .bool lo]]) (by simp [results, Try.results23, go_sem, *]) rfl ⟨_, _, _, _, _, _, _, _, _, _, _, _, _, _, rfl, HM.out.keep ?_, HR.out.keep ?_, HT1.out, ?_⟩
      all_goals (repeat (first | with_reducible exact B3.out | with_reducible refine Below.drew ?_ | with_reducible refine bel_alloc ?_ _ | (with_reducible refine bel_set12 ?_ ?_ _ _ _ _ _ _ _ _ _ _ _ _; (focus omega)) | (with_reducible refine bel_set3 ?_ ?_ _ _ _; (focus omega)) | (with_reducible refine bel_set1 ?_ ?_ _; (focus omega))))
end Go.Proofs.Ytfbmmiikhkmpfac
/-
  drawbridgeref's Stepped: kind 7, no register that can be set; nothing that was there turns.
-/
namespace Go.Proofs.Ytfbmmiikhkmpfac
open Go.RowKit

set_option maxRecDepth 10000 in
set_option maxHeartbeats 8000000 in
theorem stepped_7_no (v : Value) (zs : List Int) (p : Int) (u : Value) (r : List Int) (mo ba op oh ot fe fp fh ft : Int) (st lo : Bool) (vc : Value) (l : List Ln) (w : World) (hs : Sl w v zs) (hr : Sl w u r) (h : Ls w vc l) (hE : stE zs ⟨p, r, false⟩ ⟨mo, ba, l, op, oh, ot, st, fe, fp, fh, ft, lo⟩ = 0) (x y i : Int) (hI : riE (insW zs ⟨p, r, false⟩) = 0) (hX : riX (insW zs ⟨p, r, false⟩) = (7, x, y, i)) (hno : ¬ (i = 0 ∨ i = 1 ∨ i = 2 ∨ i = 3 ∨ i = 5 ∨ i = 6 ∨ i = 9)) :
    Calls Try.prog 23 #[.agg #[v], .agg #[.int .i64 p, u, .bool false], .agg #[.int .i64 mo, .int .i64 ba, vc, .int .i64 op, .int .i64 oh, .int .i64 ot, .bool st, .int .i64 fe, .int .i64 fp, .int .i64 fh, .int .i64 ft, .bool lo]] w fun e w' => StepOut w.heap.size zs ⟨p, r, false⟩ mo ba op oh ot fe fp fh ft st lo vc l w e w' := by
  obtain ⟨hz, hh, hb, -⟩ := stE_ok hE
  obtain ⟨hr8, ⟨hp0, hp1⟩, hrw⟩ := chkH_ok hh
  dsimp only at hr8 hp0 hp1 hrw
  have HV : Hid (∃ a k c, v = .slice a k c) := let ⟨a, c, e, _⟩ := hs; ⟨a, _, c, e⟩
  have HL : Hid (Ls w vc l) := h
  obtain ⟨ca, ck, rfl, -⟩ := h
  have HM : Hid (Sl w v zs) := hs
  have HZ : Hid (chk zs = 0) := hz
  have HB : Hid (chkB ⟨mo, ba, l, op, oh, ot, st, fe, fp, fh, ft, lo⟩ = 0) := hb
  have HW : Hid (∀ i, i < 8 → 0 ≤ nth r i ∧ nth r i ≤ 65535) := hrw
  have H8 : Hid (r.length = 8) := hr8
  have HE : Hid _ := hE
  obtain ⟨b, o, cap, rfl, hbb, hcs⟩ := hs.open512 (chk_ok hz).1
  have HCS : Hid (∀ i, i < 512 → w.cell? ⟨b, o + i, none⟩ = some (.int .i64 (nth zs i))) := hcs
  obtain ⟨ra, rc, rfl, hrl, hrr⟩ := hr
  rcases hrr with e | ⟨rb, ro, rfl, hrb, hrc⟩
  · exact absurd hr8 (by rw [e]; simp)
  have HR : Hid (Sl w (.slice (some ⟨rb, ro, none⟩) 8 rc) r) := by
    show Sl _ _ _
    rw [← hr8]; exact ⟨_, rc, rfl, hrl, .inr ⟨rb, ro, rfl, hrb, hrc⟩⟩
  rw [hr8] at hrc ⊢
  have HRC : Hid (∀ i, i < 8 → w.cell? ⟨rb, ro + i, none⟩ = some (.int .i64 (nth r i))) := hrc
  have gz := hcs p.toNat (by omega)
  obtain ⟨z, hzz⟩ : ∃ z, nth zs p.toNat = z := ⟨_, rfl⟩
  rw [hzz] at gz
  have HI : Hid (insW zs ⟨p, r, false⟩ = z) := hzz
  clear hz hh hb hs hcs hrc hrw hE hzz hr8 hrl
  have t1 : b < w.heap.size + 1 := by omega
  have t2 : b < w.heap.size + 1 + 1 := by omega
  have t3 : b < w.heap.size + 1 + 1 + 1 := by omega
  have t4 : b < w.heap.size + 1 + 1 + 1 + 1 := by omega
  have t5 : b < w.heap.size + 1 + 1 + 1 + 1 + 1 := by omega
  have hE2 : riE z = 0 := by have := hI; rw [HI.out] at this; exact this
  have hX2 : riX z = (7, x, y, i) := by have := hX; rw [HI.out] at this; exact this
  have HE2 : Hid (riE z = 0) := hE2
  have HX2 : Hid (riX z = (7, x, y, i)) := hX2
  clear hI hX
  clear hE2 hX2
  go_enter Try.func23, Try.ntmps23
  go_wp2_with fail
  refine (insOf_at HE2.out HX2.out).mono ?_
  rintro e w1 ⟨rfl, b1⟩
  have X0 := ((((((Box.newAt (w := w) (n := w.heap.size) rfl 33 #[.slice (some ⟨b, o, none⟩) 512 cap]).past _).past _).past _).past _).past _).keep b1
  have X1 := (((((Box.newAt (n := w.heap.size + 1) (by simp) 35 #[.int .i64 p, .slice (some ⟨rb, ro, none⟩) 8 rc, .bool false]).past _).past _).past _).past _).keep b1
  have X2 := ((((Box.newAt (n := w.heap.size + 1 + 1) (by simp) 40 #[.int .i64 mo, .int .i64 ba, .slice ca l.length ck, .int .i64 op, .int .i64 oh, .int .i64 ot, .bool st, .int .i64 fe, .int .i64 fp, .int .i64 fh, .int .i64 ft, .bool lo]).past _).past _).past _).keep b1
  have X3 := (((Box.newAt (n := w.heap.size + 1 + 1 + 1) (by simp) 33 #[.slice none 0 0]).past _).past _).keep b1
  have X4 := ((Box.newAt (n := w.heap.size + 1 + 1 + 1 + 1) (by simp) 35 #[.int .i64 0, .slice none 0 0, .bool false]).past _).keep b1
  have X5 := (Box.newAt (n := w.heap.size + 1 + 1 + 1 + 1 + 1) (by simp) 40 #[.int .i64 0, .int .i64 0, .slice none 0 0, .int .i64 0, .int .i64 0, .int .i64 0, .bool false, .int .i64 0, .int .i64 0, .int .i64 0, .int .i64 0, .bool false]).keep b1
  have B1 : Hid (Below w.heap.size w w1) := bel_trans (bel_alloc (bel_alloc (bel_alloc (bel_alloc (bel_alloc (bel_alloc (Below.refl _ _) _) _) _) _) _) _) b1
  have z1 : w.heap.size + 1 + 1 + 1 + 1 + 1 + 1 ≤ w1.heap.size := by have := b1.size; simpa using this
  clear b1 gz t1 t2 t3 t4 t5
  have XI := Box.newAt (w := w1) (n := w1.heap.size) rfl 23 #[.int .i64 7, .int .i64 x, .int .i64 y, .int .i64 i]
  have X0 := X0.past (.cells #[.int .i64 7, .int .i64 x, .int .i64 y, .int .i64 i] 23)
  have X1 := X1.past (.cells #[.int .i64 7, .int .i64 x, .int .i64 y, .int .i64 i] 23)
  have X2 := X2.past (.cells #[.int .i64 7, .int .i64 x, .int .i64 y, .int .i64 i] 23)
  have X3 := X3.past (.cells #[.int .i64 7, .int .i64 x, .int .i64 y, .int .i64 i] 23)
  have X4 := X4.past (.cells #[.int .i64 7, .int .i64 x, .int .i64 y, .int .i64 i] 23)
  have X5 := X5.past (.cells #[.int .i64 7, .int .i64 x, .int .i64 y, .int .i64 i] 23)
  have BW : Hid (Below w.heap.size w (w1.alloc (.cells #[.int .i64 7, .int .i64 x, .int .i64 y, .int .i64 i] 23))) := bel_alloc B1.out _
  clear B1
  go_upto_region 5 with fail
  generalize hI : w1.heap.size = I at *
  generalize hW : (w1.alloc (.cells #[.int .i64 7, .int .i64 x, .int .i64 y, .int .i64 i] 23)) = W at *
  clear hW hI
  have HRW : Hid (Sl W (.slice (some ⟨rb, ro, none⟩) 8 rc) r) := HR.out.keep BW.out
  have HPN : Hid ((IntKind.i64.wrap (p + 1)).tmod 512 = nextP p) := next_wrap hp0 hp1
  have HNE : Hid (r ≠ []) := fun e => by have := H8.out; rw [e] at this; simp at this
  have HOL : Hid (OwnI (W.alloc (.cells #[] 3)) W.heap.size (.slice (some ⟨W.heap.size, 0, none⟩) 0 0) []) := own_lit rfl (Nat.le_refl _)
  have HOL2 : Hid (∀ ob : Obj, OwnI ((W.alloc ob).alloc (.cells #[] 3)) W.heap.size (.slice (some ⟨W.heap.size + 1, 0, none⟩) 0 0) []) := fun ob => own_lit (by simp) (by simp)
  obtain ⟨a0, a1, -, -, -, -, s1⟩ := X1.three
  have zI := XI.lt
  go_cut [12] from 37 to 45 (fun s wx => ∃ n g cg, s = .pointer (some ⟨n, 0, none⟩) ∧ Box wx n 35 #[.int .i64 (nextP p), .slice (some ⟨g, 0, none⟩) r.length cg, .bool false] ∧ OwnI wx W.heap.size (.slice (some ⟨g, 0, none⟩) r.length cg) r ∧ W.heap.size ≤ n ∧ Below W.heap.size W wx)
  case first =>
    go_region_held3 (fun w' => w'.cell? ⟨w.heap.size + 1, 0, none⟩ = some (.int .i64 p) ∧ w'.cell? ⟨w.heap.size + 1, 1, none⟩ = some (.slice (some ⟨rb, ro, none⟩) 8 rc) ∧ Below W.heap.size W w')
      (with_reducible refine keep2H (by assumption) (by assumption) (by assumption) ?_; (repeat (first | with_reducible assumption | (with_reducible (refine limb2H (?_ : _ ∧ _ ∧ _); assumption)) | with_reducible exact Below.refl _ _ | with_reducible refine Below.drew ?_ | with_reducible refine bel_drewN ?_ _ | with_reducible refine bel_alloc ?_ _ | with_reducible refine Below.trans ?_ (by assumption) | (with_reducible refine bel_set3 ?_ ?_ _ _ _; (focus omega)))))
      (first | (refine step_append_I rfl (.tmp 41) (.tmp 43) rfl W.heap.size (.slice (some ⟨_, 0, none⟩) 0 0) (.slice (some ⟨rb, ro, none⟩) 8 rc) [] r rfl rfl ?_ ?_ ?_ ?_ ?_ ?_; (focus ((repeat (first | with_reducible refine OwnI.drew ?_ | with_reducible exact HOL.out | with_reducible exact HOL2.out _ | with_reducible refine OwnI.alloc ?_ _)); done)); (focus (refine HRW.out.keep ?_; (repeat (first | with_reducible exact Below.refl _ _ | with_reducible refine Below.drew ?_ | with_reducible refine bel_alloc ?_ _)); done)); (focus (rw [H8.out]; simp; done)); (focus (first | (simp; done) | (simp; omega))); (focus (exact HNE.out)); intro g cg w7 hown hgr hbel hat; first | (have XN := ord2 hgr; obtain ⟨i0, i1, i2, j0, j1, j2, l9⟩ := XN.three) | (have XN := ord3 hgr; obtain ⟨i0, i1, i2, j0, j1, j2, l9⟩ := XN.three) | skip))
    all_goals (rename_i hH; have HBE := limb2H hH; clear hH)
    all_goals (go_wp2_with fail; go_meet)
    · refine ⟨_, g, cg, rfl, by rw [← HPN.out]; exact Box.newAt rfl _ _, hown.alloc _, by have := hbel.size; simp at this; omega, HBE⟩
    · refine ⟨_, g, cg, rfl, by rw [← HPN.out]; exact XN.set3 _ _ _, hown.far3 (own_ne hown XN) _ _ _, by omega, HBE⟩
    · refine ⟨_, g, cg, rfl, by rw [← HPN.out]; exact XN.set3 _ _ _, hown.far3 (own_ne hown XN) _ _ _, by omega, HBE⟩
  case rest =>
    obtain ⟨n, g, cg, rfl, XN, HO, hn, BC⟩ := hcut
    rw [H8.out] at XN
    have HO : OwnI wc W.heap.size (.slice (some ⟨g, 0, none⟩) 8 cg) r := by rw [← H8.out]; exact HO
    have X0 := X0.keep BC
    have X1 := X1.keep BC
    have X2 := X2.keep BC
    have X3 := X3.keep BC
    have X4 := X4.keep BC
    have X5 := X5.keep BC
    have XI := XI.keep BC
    have B2 : Hid (Below w.heap.size w wc) := bel_trans BW.out BC
    have HOW : Hid (OwnI wc W.heap.size (.slice (some ⟨g, 0, none⟩) 8 cg) r) := HO
    have hgn := own_ne HO XN
    have hgW := HO.base g rfl
    clear BC BW HRW HOL HOL2 HNE HPN HO
    obtain ⟨i1, i2, i3, i4, -⟩ := iE_ok (i_read HE2.out HX2.out).1
    have rx := HW.out x.toNat (by omega)
    have ry := HW.out y.toNat (by omega)
    have gx := HRC.out x.toNat (by omega)
    have gy := HRC.out y.toNat (by omega)
    obtain ⟨one, h1⟩ : ∃ one, nth r x.toNat = one := ⟨_, rfl⟩
    obtain ⟨two, h2⟩ : ∃ two, nth r y.toNat = two := ⟨_, rfl⟩
    rw [h1] at rx gx
    rw [h2] at ry gy
    rw [← B2.out.cell (p := ⟨rb, ro + x.toNat, none⟩) hrb] at gx
    rw [← B2.out.cell (p := ⟨rb, ro + y.toNat, none⟩) hrb] at gy
    have HT : Hid (goS zs ⟨p, r, false⟩ ⟨mo, ba, l, op, oh, ot, st, fe, fp, fh, ft, lo⟩ = exeI zs ⟨p, r, false⟩ ⟨mo, ba, l, op, oh, ot, st, fe, fp, fh, ft, lo⟩ 7 x y i) := by
      show _ = _
      rw [goS, HI.out, if_pos HE2.out, HX2.out]
    have HO1 : Hid (nth r x.toNat = one) := h1
    have HO2 : Hid (nth r y.toNat = two) := h2
    clear h1 h2 HE2 HX2
    clear i1
    obtain ⟨i2a, i2b⟩ := i2
    obtain ⟨i3a, i3b⟩ := i3
    obtain ⟨i4a, i4b⟩ := i4
    obtain ⟨c0, c1, c2, c3, -, -, -, -, zI2⟩ := XI.four
    clear a0 a1 s1
    obtain ⟨a0, a1, -, -, -, -, s1⟩ := X1.three
    have hrb1 : rb < wc.heap.size := by omega
    go_upto_region 6 with fail
    go_quiet (fail)
    have X0 := X0.drewN nq
    have X1 := X1.drewN nq
    have X2 := X2.drewN nq
    have X3 := X3.drewN nq
    have X4 := X4.drewN nq
    have X5 := X5.drewN nq
    have XN := XN.drewN nq
    have XI := XI.drewN nq
    have HOV : Hid (OwnI (wc.drewN nq) W.heap.size (.slice (some ⟨g, 0, none⟩) 8 cg) r) := HOW.out
    have BV : Hid (Below w.heap.size w (wc.drewN nq)) := bel_drewN B2.out nq
    have lg : g < (wc.drewN nq).heap.size := OwnI.lt HOV.out g rfl
    clear HOW B2 gx gy c0 c1 c2 c3 a0 a1 s1 zI2 hrb1
    generalize wc.drewN nq = V at *
    obtain ⟨rx0, rx1⟩ := rx
    obtain ⟨ry0, ry1⟩ := ry
    have hx9 : x < 8 := by omega
    obtain ⟨c0, c1, c2, c3, -, -, -, -, zI2⟩ := XI.four
    obtain ⟨⟨d0, d1, d2, d3, d4, d5, d6, d7, d8, d9, d10, d11⟩, s2⟩ := X2.twelve
    have lx5 := X5.lt
    have hm : mostB i = -1 := by unfold mostB; rw [if_neg (by omega), if_neg (by omega), if_neg (by omega), if_neg (by omega)]
    have j0 : (i == 0) = false := by simp; omega
    have j1 : (i == 1) = false := by simp; omega
    have j2 : (i == 2) = false := by simp; omega
    have j3 : (i == 3) = false := by simp; omega
    have j5 : (i == 5) = false := by simp; omega
    have j6 : (i == 6) = false := by simp; omega
    have j9 : (i == 9) = false := by simp; omega
    have hq1 : -1 < one := by omega
    have HQ : Hid (¬ one ≤ mostB i) := by show ¬ _; rw [hm]; omega
    clear hno hm
    go_upto_region 61 with fail
    clear c0 c1 c2 c3 zI2 d0 d1 d2 d3 d4 d5 d6 d7 d8 d9 d10 d11 s2
    have X0 := X0.past (.cells #[.int .i64 mo, .int .i64 ba, .slice ca l.length ck, .int .i64 op, .int .i64 oh, .int .i64 ot, .bool st, .int .i64 fe, .int .i64 fp, .int .i64 fh, .int .i64 ft, .bool lo] 40)
    have X1 := X1.past (.cells #[.int .i64 mo, .int .i64 ba, .slice ca l.length ck, .int .i64 op, .int .i64 oh, .int .i64 ot, .bool st, .int .i64 fe, .int .i64 fp, .int .i64 fh, .int .i64 ft, .bool lo] 40)
    have X2 := X2.past (.cells #[.int .i64 mo, .int .i64 ba, .slice ca l.length ck, .int .i64 op, .int .i64 oh, .int .i64 ot, .bool st, .int .i64 fe, .int .i64 fp, .int .i64 fh, .int .i64 ft, .bool lo] 40)
    have X3 := X3.past (.cells #[.int .i64 mo, .int .i64 ba, .slice ca l.length ck, .int .i64 op, .int .i64 oh, .int .i64 ot, .bool st, .int .i64 fe, .int .i64 fp, .int .i64 fh, .int .i64 ft, .bool lo] 40)
    have X4 := X4.past (.cells #[.int .i64 mo, .int .i64 ba, .slice ca l.length ck, .int .i64 op, .int .i64 oh, .int .i64 ot, .bool st, .int .i64 fe, .int .i64 fp, .int .i64 fh, .int .i64 ft, .bool lo] 40)
    have X5 := X5.past (.cells #[.int .i64 mo, .int .i64 ba, .slice ca l.length ck, .int .i64 op, .int .i64 oh, .int .i64 ot, .bool st, .int .i64 fe, .int .i64 fp, .int .i64 fh, .int .i64 ft, .bool lo] 40)
    have XN := XN.past (.cells #[.int .i64 mo, .int .i64 ba, .slice ca l.length ck, .int .i64 op, .int .i64 oh, .int .i64 ot, .bool st, .int .i64 fe, .int .i64 fp, .int .i64 fh, .int .i64 ft, .bool lo] 40)
    have XI := XI.past (.cells #[.int .i64 mo, .int .i64 ba, .slice ca l.length ck, .int .i64 op, .int .i64 oh, .int .i64 ot, .bool st, .int .i64 fe, .int .i64 fp, .int .i64 fh, .int .i64 ft, .bool lo] 40)
    have XC := Box.newAt (w := V) (n := V.heap.size) rfl 40 #[.int .i64 mo, .int .i64 ba, .slice ca l.length ck, .int .i64 op, .int .i64 oh, .int .i64 ot, .bool st, .int .i64 fe, .int .i64 fp, .int .i64 fh, .int .i64 ft, .bool lo]
    have HOV : Hid (OwnI (V.alloc (.cells #[.int .i64 mo, .int .i64 ba, .slice ca l.length ck, .int .i64 op, .int .i64 oh, .int .i64 ot, .bool st, .int .i64 fe, .int .i64 fp, .int .i64 fh, .int .i64 ft, .bool lo] 40)) W.heap.size (.slice (some ⟨g, 0, none⟩) 8 cg) r) := OwnI.alloc HOV.out _
    have BV : Hid (Below w.heap.size w (V.alloc (.cells #[.int .i64 mo, .int .i64 ba, .slice ca l.length ck, .int .i64 op, .int .i64 oh, .int .i64 ot, .bool st, .int .i64 fe, .int .i64 fp, .int .i64 fh, .int .i64 ft, .bool lo] 40))) := bel_alloc BV.out _
    have lC : w.heap.size + 1 + 1 + 1 + 1 + 1 < V.heap.size := lx5
    generalize (V.alloc (.cells #[.int .i64 mo, .int .i64 ba, .slice ca l.length ck, .int .i64 op, .int .i64 oh, .int .i64 ot, .bool st, .int .i64 fe, .int .i64 fp, .int .i64 fh, .int .i64 ft, .bool lo] 40)) = V2 at *
    generalize V.heap.size = C at *
    have HT1 : Hid (goS zs ⟨p, r, false⟩ ⟨mo, ba, l, op, oh, ot, st, fe, fp, fh, ft, lo⟩ = (zs, ⟨p, r, true⟩, ⟨mo, ba, l, op, oh, ot, st, fe, fp, fh, ft, lo⟩)) := by
      show _ = _
      rw [HT.out, exeI, if_neg (by decide), if_neg (by decide), if_neg (by decide), if_neg (by decide), if_neg (by decide), if_neg (by decide), if_pos rfl, HO1.out, if_neg HQ.out]; rfl
    go_wp2_with fail
    refine (stands_any (w.heap.size + 1) w.heap.size (w.heap.size + 1 + 1) _ _ p false mo ba op oh ot fe fp fh ft st lo _ _ X1 X0 X2 (by omega) (by omega) ⟨_, _, _, rfl⟩ ⟨_, _, _, rfl⟩ ⟨_, _, _, rfl⟩).mono ?_
    rintro e w2 ⟨rfl, K⟩
    have Y3 := K.box _ _ _ (by omega) X3
    have Y4 := K.box _ _ _ (by omega) X4
    have Y5 := K.box _ _ _ (by omega) X5
    have B3 : Hid (Below w.heap.size w w2) := K.bel w (by omega) BV.out
    clear K X0 X1 X2 X3 X4 X5 XN XI XC HOV BV
    obtain ⟨m0, j0, s3⟩ := Y3.one
    obtain ⟨a0, a1, a2, f0, f1, f2, s4⟩ := Y4.three
    obtain ⟨⟨q0, q1, q2, q3, q4, q5, q6, q7, q8, q9, q10, q11⟩, s5⟩ := Y5.twelve
    obtain ⟨y0, y1, y2, y3, y4, y5, y6, y7, y8, y9, y10, y11⟩ := Y5.marks
    clear Y3 Y4 Y5
    go_wp2
    refine bodyPost_ret (v := .tuple #[.agg #[.slice (some ⟨b, o, none⟩) 512 cap], .agg #[.int .i64 p, .slice (some ⟨rb, ro, none⟩) 8 rc, .bool true], .agg #[.int .i64 mo, .int .i64 ba, .slice ca l.length ck, .int .i64 op, .int .i64 oh, .int .i64 ot, .bool st, .int .i64 fe, .int .i64 fp, .int .i64 fh, .int .i64 ft, .bool lo]]) (by simp [results, Try.results23, go_sem, *]) rfl ⟨_, _, _, _, _, _, _, _, _, _, _, _, _, _, rfl, HM.out.keep ?_, HR.out.keep ?_, HT1.out, ?_⟩
    all_goals (repeat (first | with_reducible exact B3.out | with_reducible refine Below.drew ?_ | with_reducible refine bel_alloc ?_ _ | (with_reducible refine bel_set12 ?_ ?_ _ _ _ _ _ _ _ _ _ _ _ _; (focus omega)) | (with_reducible refine bel_set3 ?_ ?_ _ _ _; (focus omega)) | (with_reducible refine bel_set1 ?_ ?_ _; (focus omega))))
end Go.Proofs.Ytfbmmiikhkmpfac
