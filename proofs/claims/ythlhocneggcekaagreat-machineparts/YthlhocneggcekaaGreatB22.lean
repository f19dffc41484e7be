/-
  Laid together: HSet2, HOut.
-/
import Derived.Test.YthlhocneggcekaaGreatB1
import Derived.Test.YthlhocneggcekaaGreatB2
import Derived.Test.YthlhocneggcekaaGreatB3
import Derived.Test.YthlhocneggcekaaGreatB4
import Derived.Test.YthlhocneggcekaaGreatB5
import Derived.Test.YthlhocneggcekaaGreatB6
import Derived.Test.YthlhocneggcekaaGreatB7
import Derived.Test.YthlhocneggcekaaGreatB9
import Derived.Test.YthlhocneggcekaaGreatB10
import Derived.Test.YthlhocneggcekaaGreatB11
import Derived.Test.YthlhocneggcekaaGreatB13
import Derived.Test.YthlhocneggcekaaGreatB14
import Derived.Test.YthlhocneggcekaaGreatB15
import Derived.Test.YthlhocneggcekaaGreatB20
import Derived.Test.YthlhocneggcekaaGreatB21
import Derived.Maps.OwnOps
import Derived.Maps.OwnSet
import Derived.Test.YthlhocneggcekaaGreatRows
import Derived.WalkKit
import Derived.WalkSpells
import Derived.WalkLawsBesides
import Derived.Below
import Derived.WalkSmall
import Derived.Deep.QuietTactic
import Derived.BigQuiet
import Derived.Deep.Draws
import Derived.Deep.AppendLies
import Derived.Deep.RegionWith
import Derived.Deep.RegionHeld3
import Derived.LoopN
import Derived.Deep.CutRange
import Derived.Deep.DrawnRows
import Derived.Laws.CopyOwn
import Derived.Deep.RegionHeld
namespace Go.Proofs.YthlhocneggcekaaGreat
open Go.RowKit
set_option maxRecDepth 10000 in
set_option maxHeartbeats 4000000 in
theorem set_9 (mo ba op oh ot fe fp fh ft : Int) (st lo : Bool) (vc : Value) (l : List Ln) (v : Int) (w : World) (h : Ls w vc l) (hv : 0 ≤ v) :
    Calls Tryz.prog 171 #[.agg #[J mo, J ba, vc, J op, J oh, J ot, .bool st, J fe, J fp, J fh, J ft, .bool lo], J 9, J v] w fun e w' => SetOut mo ba op oh ot fe fp fh ft st lo vc l 9 v w e w' := by
  obtain ⟨ca, cc, rfl, -⟩ := h.shape
  obtain ⟨ck, hck⟩ : ∃ ck, ck = l.length := ⟨_, rfl⟩
  rw [← hck]
  have HS : Hid (setB ⟨mo, ba, l, op, oh, ot, st, fe, fp, fh, ft, lo⟩ 9 v = ⟨mo, ba, l, op, oh, ot, false, fe, fp, fh, ft, false⟩) := rfl
  obtain ⟨ok, hok⟩ : ∃ ok, (v == 0) = ok := ⟨_, rfl⟩
  have HOK : Hid (decide (v ≤ mostB 9) = ok) := by
    show _ = _
    rw [← hok]
    have : mostB 9 = 0 := rfl
    rw [this]
    by_cases e : v = 0
    · subst e; rfl
    · rw [decide_eq_false (by omega)]; simpa using e
  clear h hv hck
  go_enter Tryz.func171, Tryz.ntmps171
  go_wp2
  refine bodyPost_ret (v := .tuple #[.agg #[J mo, J ba, .slice ca ck cc, J op, J oh, J ot, .bool false, J fe, J fp, J fh, J ft, .bool false], .bool ok]) (by simp [results, Tryz.results171, go_sem, *]) rfl ⟨_, _, _, _, _, _, _, _, _, _, _, _, _, _, by rw [HOK.out], fun _ => ⟨rfl, HS.out⟩, ?_⟩
  exact bel_alloc (bel_alloc (Below.refl _ _) _) _
set_option maxRecDepth 10000 in
set_option maxHeartbeats 4000000 in
theorem set_no (mo ba op oh ot fe fp fh ft : Int) (st lo : Bool) (vc : Value) (l : List Ln) (i v : Int) (w : World) (h : Ls w vc l) (hv : 0 ≤ v) (hi : ¬ (i = 0 ∨ i = 1 ∨ i = 2 ∨ i = 3 ∨ i = 5 ∨ i = 6 ∨ i = 9)) :
    Calls Tryz.prog 171 #[.agg #[J mo, J ba, vc, J op, J oh, J ot, .bool st, J fe, J fp, J fh, J ft, .bool lo], J i, J v] w fun e w' => SetOut mo ba op oh ot fe fp fh ft st lo vc l i v w e w' := by
  obtain ⟨ca, cc, rfl, -⟩ := h.shape
  obtain ⟨ck, hck⟩ : ∃ ck, ck = l.length := ⟨_, rfl⟩
  rw [← hck]
  have hm : mostB i = -1 := by unfold mostB; rw [if_neg (by omega), if_neg (by omega), if_neg (by omega), if_neg (by omega)]
  have HM : Hid (decide (v ≤ mostB i) = false) := decide_eq_false (by rw [hm]; omega)
  have i0 : (i == 0) = false := by simp; omega
  have i1 : (i == 1) = false := by simp; omega
  have i2 : (i == 2) = false := by simp; omega
  have i3 : (i == 3) = false := by simp; omega
  have i5 : (i == 5) = false := by simp; omega
  have i6 : (i == 6) = false := by simp; omega
  have i9 : (i == 9) = false := by simp; omega
  clear h hv hck hi hm
  go_enter Tryz.func171, Tryz.ntmps171
  go_wp2
  refine bodyPost_ret (v := .tuple #[.agg #[J 0, J 0, .slice none 0 0, J 0, J 0, J 0, .bool false, J 0, J 0, J 0, J 0, .bool false], .bool false]) (by simp [results, Tryz.results171, go_sem, *]) rfl ⟨_, _, _, _, _, _, _, _, _, _, _, _, _, _, by rw [HM.out], fun q => absurd q (of_decide_eq_false HM.out), ?_⟩
  exact bel_alloc (bel_alloc (Below.refl _ _) _) _
theorem set_any (mo ba op oh ot fe fp fh ft : Int) (st lo : Bool) (vc : Value) (l : List Ln) (i v : Int) (w : World) (h : Ls w vc l) (hb : chkB ⟨mo, ba, l, op, oh, ot, st, fe, fp, fh, ft, lo⟩ = 0) (hv : 0 ≤ v) :
    Calls Tryz.prog 171 #[.agg #[J mo, J ba, vc, J op, J oh, J ot, .bool st, J fe, J fp, J fh, J ft, .bool lo], J i, J v] w fun e w' => SetOut mo ba op oh ot fe fp fh ft st lo vc l i v w e w' := by
  by_cases hi : i = 0 ∨ i = 1 ∨ i = 2 ∨ i = 3 ∨ i = 5 ∨ i = 6 ∨ i = 9
  · rcases hi with rfl | rfl | rfl | rfl | rfl | rfl | rfl
    · exact set_0 mo ba op oh ot fe fp fh ft st lo vc l v w h hb hv
    · exact set_1 mo ba op oh ot fe fp fh ft st lo vc l v w h hb hv
    · exact set_2 mo ba op oh ot fe fp fh ft st lo vc l v w h hb hv
    · exact set_3 mo ba op oh ot fe fp fh ft st lo vc l v w h hb hv
    · exact set_5 mo ba op oh ot fe fp fh ft st lo vc l v w h hb hv
    · exact set_6 mo ba op oh ot fe fp fh ft st lo vc l v w h hb hv
    · exact set_9 mo ba op oh ot fe fp fh ft st lo vc l v w h hv
  · exact set_no mo ba op oh ot fe fp fh ft st lo vc l i v w h hv hi
theorem Box.setBr {w : World} {n : Nat} {t : TypeId} {a0 a1 a2 a3 a4 a5 a6 a7 a8 a9 a10 a11 a12 a13 a14 a15 a16 a17 a18 a19 a20 a21 : Value} (h : Box w n t #[a0, a1, a2, a3, a4, a5, a6, a7, a8, a9, a10, a11, a12, a13, a14, a15, a16, a17, a18, a19, a20, a21]) (u0 u1 u2 u3 u4 u5 u6 u7 u8 u9 u10 u11 : Value) :
    Box ((((((((((((w.setCell ⟨n, 10, none⟩ u0).setCell ⟨n, 11, none⟩ u1).setCell ⟨n, 12, none⟩ u2).setCell ⟨n, 13, none⟩ u3).setCell ⟨n, 14, none⟩ u4).setCell ⟨n, 15, none⟩ u5).setCell ⟨n, 16, none⟩ u6).setCell ⟨n, 17, none⟩ u7).setCell ⟨n, 18, none⟩ u8).setCell ⟨n, 19, none⟩ u9).setCell ⟨n, 20, none⟩ u10).setCell ⟨n, 21, none⟩ u11) n t #[a0, a1, a2, a3, a4, a5, a6, a7, a8, a9, u0, u1, u2, u3, u4, u5, u6, u7, u8, u9, u10, u11] := by
  have h0 : Box _ n t #[a0, a1, a2, a3, a4, a5, a6, a7, a8, a9, u0, a11, a12, a13, a14, a15, a16, a17, a18, a19, a20, a21] := h.set 10 u0
  have h1 : Box _ n t #[a0, a1, a2, a3, a4, a5, a6, a7, a8, a9, u0, u1, a12, a13, a14, a15, a16, a17, a18, a19, a20, a21] := h0.set 11 u1
  have h2 : Box _ n t #[a0, a1, a2, a3, a4, a5, a6, a7, a8, a9, u0, u1, u2, a13, a14, a15, a16, a17, a18, a19, a20, a21] := h1.set 12 u2
  have h3 : Box _ n t #[a0, a1, a2, a3, a4, a5, a6, a7, a8, a9, u0, u1, u2, u3, a14, a15, a16, a17, a18, a19, a20, a21] := h2.set 13 u3
  have h4 : Box _ n t #[a0, a1, a2, a3, a4, a5, a6, a7, a8, a9, u0, u1, u2, u3, u4, a15, a16, a17, a18, a19, a20, a21] := h3.set 14 u4
  have h5 : Box _ n t #[a0, a1, a2, a3, a4, a5, a6, a7, a8, a9, u0, u1, u2, u3, u4, u5, a16, a17, a18, a19, a20, a21] := h4.set 15 u5
  have h6 : Box _ n t #[a0, a1, a2, a3, a4, a5, a6, a7, a8, a9, u0, u1, u2, u3, u4, u5, u6, a17, a18, a19, a20, a21] := h5.set 16 u6
  have h7 : Box _ n t #[a0, a1, a2, a3, a4, a5, a6, a7, a8, a9, u0, u1, u2, u3, u4, u5, u6, u7, a18, a19, a20, a21] := h6.set 17 u7
  have h8 : Box _ n t #[a0, a1, a2, a3, a4, a5, a6, a7, a8, a9, u0, u1, u2, u3, u4, u5, u6, u7, u8, a19, a20, a21] := h7.set 18 u8
  have h9 : Box _ n t #[a0, a1, a2, a3, a4, a5, a6, a7, a8, a9, u0, u1, u2, u3, u4, u5, u6, u7, u8, u9, a20, a21] := h8.set 19 u9
  have h10 : Box _ n t #[a0, a1, a2, a3, a4, a5, a6, a7, a8, a9, u0, u1, u2, u3, u4, u5, u6, u7, u8, u9, u10, a21] := h9.set 20 u10
  have h11 : Box _ n t #[a0, a1, a2, a3, a4, a5, a6, a7, a8, a9, u0, u1, u2, u3, u4, u5, u6, u7, u8, u9, u10, u11] := h10.set 21 u11
  exact h11
theorem Box.otherBr {w : World} {n m : Nat} {t : TypeId} {cs : Array Value} (h : Box w n t cs) (hp : n ≠ m) (u0 u1 u2 u3 u4 u5 u6 u7 u8 u9 u10 u11 : Value) : Box ((((((((((((w.setCell ⟨m, 10, none⟩ u0).setCell ⟨m, 11, none⟩ u1).setCell ⟨m, 12, none⟩ u2).setCell ⟨m, 13, none⟩ u3).setCell ⟨m, 14, none⟩ u4).setCell ⟨m, 15, none⟩ u5).setCell ⟨m, 16, none⟩ u6).setCell ⟨m, 17, none⟩ u7).setCell ⟨m, 18, none⟩ u8).setCell ⟨m, 19, none⟩ u9).setCell ⟨m, 20, none⟩ u10).setCell ⟨m, 21, none⟩ u11) n t cs :=
  ((((((((((((h.other (p := ⟨m, 10, none⟩) hp u0).other (p := ⟨m, 11, none⟩) hp u1).other (p := ⟨m, 12, none⟩) hp u2).other (p := ⟨m, 13, none⟩) hp u3).other (p := ⟨m, 14, none⟩) hp u4).other (p := ⟨m, 15, none⟩) hp u5).other (p := ⟨m, 16, none⟩) hp u6).other (p := ⟨m, 17, none⟩) hp u7).other (p := ⟨m, 18, none⟩) hp u8).other (p := ⟨m, 19, none⟩) hp u9).other (p := ⟨m, 20, none⟩) hp u10).other (p := ⟨m, 21, none⟩) hp u11)
theorem bel_setBr {a w : World} {m : Nat} (hp : a.heap.size ≤ m) (h : Below a.heap.size a w) (u0 u1 u2 u3 u4 u5 u6 u7 u8 u9 u10 u11 : Value) : Below a.heap.size a ((((((((((((w.setCell ⟨m, 10, none⟩ u0).setCell ⟨m, 11, none⟩ u1).setCell ⟨m, 12, none⟩ u2).setCell ⟨m, 13, none⟩ u3).setCell ⟨m, 14, none⟩ u4).setCell ⟨m, 15, none⟩ u5).setCell ⟨m, 16, none⟩ u6).setCell ⟨m, 17, none⟩ u7).setCell ⟨m, 18, none⟩ u8).setCell ⟨m, 19, none⟩ u9).setCell ⟨m, 20, none⟩ u10).setCell ⟨m, 21, none⟩ u11) :=
  ((((((((((((h.setCell (p := ⟨m, 10, none⟩) hp u0).setCell (p := ⟨m, 11, none⟩) hp u1).setCell (p := ⟨m, 12, none⟩) hp u2).setCell (p := ⟨m, 13, none⟩) hp u3).setCell (p := ⟨m, 14, none⟩) hp u4).setCell (p := ⟨m, 15, none⟩) hp u5).setCell (p := ⟨m, 16, none⟩) hp u6).setCell (p := ⟨m, 17, none⟩) hp u7).setCell (p := ⟨m, 18, none⟩) hp u8).setCell (p := ⟨m, 19, none⟩) hp u9).setCell (p := ⟨m, 20, none⟩) hp u10).setCell (p := ⟨m, 21, none⟩) hp u11)
set_option maxRecDepth 10000 in
set_option maxHeartbeats 4000000 in
theorem hOut_any (am : Option Addr) (nm cm : Nat) (pc : Int) (rs : List Int) (mo ba op oh ot fe fp fh ft : Int) (st lo : Bool) (ca : Option Addr) (ck cc : Nat) (l : List Ln) (k x y i : Int) (w : World) (hL : Ls w (.slice ca ck cc) l) (hb : chkB ⟨mo, ba, l, op, oh, ot, st, fe, fp, fh, ft, lo⟩ = 0) (h8 : rs.length = 8) (hw : ∀ j, j < 8 → 0 ≤ nth rs j ∧ nth rs j ≤ 65535) (hx : 0 ≤ x ∧ x ≤ 7) (hy : 0 ≤ y ∧ y ≤ 7) (hi : 0 ≤ i ∧ i ≤ 63) :
    Calls Tryz.prog 159 #[.agg #[.slice am nm cm, J pc, J (nth rs 0), J (nth rs 1), J (nth rs 2), J (nth rs 3), J (nth rs 4), J (nth rs 5), J (nth rs 6), J (nth rs 7), J mo, J ba, .slice ca ck cc, J op, J oh, J ot, .bool st, J fe, J fp, J fh, J ft, .bool lo], .agg #[J k, J x, J y, J i]] w fun e w' =>
      ∃ mo1 ba1 op1 oh1 ot1 fe1 fp1 fh1 ft1 st1 lo1 ca1 ck1 cc1, e = .returned (.tuple #[.agg #[.slice am nm cm, J pc, J (nth rs 0), J (nth rs 1), J (nth rs 2), J (nth rs 3), J (nth rs 4), J (nth rs 5), J (nth rs 6), J (nth rs 7), J mo1, J ba1, .slice ca1 ck1 cc1, J op1, J oh1, J ot1, .bool st1, J fe1, J fp1, J fh1, J ft1, .bool lo1], .bool (decide (nth rs x.toNat ≤ mostB i))]) ∧ (nth rs x.toNat ≤ mostB i → Value.slice ca ck cc = .slice ca1 ck1 cc1 ∧ setB ⟨mo, ba, l, op, oh, ot, st, fe, fp, fh, ft, lo⟩ i (nth rs x.toNat) = ⟨mo1, ba1, l, op1, oh1, ot1, st1, fe1, fp1, fh1, ft1, lo1⟩) ∧ Below w.heap.size w w' := by
  have HL : Hid (Ls w (.slice ca ck cc) l) := hL
  have HB : Hid (chkB ⟨mo, ba, l, op, oh, ot, st, fe, fp, fh, ft, lo⟩ = 0) := hb
  obtain ⟨hx0, hx1⟩ := hx
  obtain ⟨hy0, hy1⟩ := hy
  obtain ⟨hi0, hi1⟩ := hi
  have hx9 : x < 8 := by omega
  have hy9 : y < 8 := by omega
  have hx8 : x.toNat < 8 := by omega
  have hy8 : y.toNat < 8 := by omega
  have H8 : Hid (rs.length = 8) := h8
  have rx := hw x.toNat hx8
  have ry := hw y.toNat hy8
  obtain ⟨one, h1⟩ : ∃ one, nth rs x.toNat = one := ⟨_, rfl⟩
  obtain ⟨two, h2⟩ : ∃ two, nth rs y.toNat = two := ⟨_, rfl⟩
  have H1 : Hid (nth rs x.toNat = one) := h1
  have H2 : Hid (nth rs y.toNat = two) := h2
  rw [h1] at rx
  rw [h2] at ry
  rw [h1]
  obtain ⟨rx0, rx1⟩ := rx
  have HR0 : Hid (0 ≤ one) := rx0
  obtain ⟨ok, hok⟩ : ∃ ok, decide (one ≤ mostB i) = ok := ⟨_, rfl⟩
  have HOK : Hid (decide (one ≤ mostB i) = ok) := hok
  clear hok h1 h2 h8 hw rx0 rx1 ry hL hb
  go_enter Tryz.func159, Tryz.ntmps159
  go_upto_region 1 with fail
  have X0 := ((Box.newAt (w := w) (n := w.heap.size) rfl 154 #[.slice am nm cm, J pc, J (nth rs 0), J (nth rs 1), J (nth rs 2), J (nth rs 3), J (nth rs 4), J (nth rs 5), J (nth rs 6), J (nth rs 7), J mo, J ba, .slice ca ck cc, J op, J oh, J ot, .bool st, J fe, J fp, J fh, J ft, .bool lo]).past (.cells #[J k, J x, J y, J i] 130)).past (.cells #[.slice none 0 0, J 0, J 0, J 0, J 0, J 0, J 0, J 0, J 0, J 0, J 0, J 0, .slice none 0 0, J 0, J 0, J 0, .bool false, J 0, J 0, J 0, J 0, .bool false] 154)
  have X1 := (Box.newAt (w := w.alloc (.cells #[.slice am nm cm, J pc, J (nth rs 0), J (nth rs 1), J (nth rs 2), J (nth rs 3), J (nth rs 4), J (nth rs 5), J (nth rs 6), J (nth rs 7), J mo, J ba, .slice ca ck cc, J op, J oh, J ot, .bool st, J fe, J fp, J fh, J ft, .bool lo] 154)) (n := w.heap.size + 1) (by simp) 130 #[J k, J x, J y, J i]).past (.cells #[.slice none 0 0, J 0, J 0, J 0, J 0, J 0, J 0, J 0, J 0, J 0, J 0, J 0, .slice none 0 0, J 0, J 0, J 0, .bool false, J 0, J 0, J 0, J 0, .bool false] 154)
  have X2 := Box.newAt (w := (w.alloc (.cells #[.slice am nm cm, J pc, J (nth rs 0), J (nth rs 1), J (nth rs 2), J (nth rs 3), J (nth rs 4), J (nth rs 5), J (nth rs 6), J (nth rs 7), J mo, J ba, .slice ca ck cc, J op, J oh, J ot, .bool st, J fe, J fp, J fh, J ft, .bool lo] 154)).alloc (.cells #[J k, J x, J y, J i] 130)) (n := w.heap.size + 1 + 1) (by simp) 154 #[.slice none 0 0, J 0, J 0, J 0, J 0, J 0, J 0, J 0, J 0, J 0, J 0, J 0, .slice none 0 0, J 0, J 0, J 0, .bool false, J 0, J 0, J 0, J 0, .bool false]
  have B0 : Hid (Below w.heap.size w _) := bel_alloc (bel_alloc (bel_alloc (Below.refl w.heap.size w) (.cells #[.slice am nm cm, J pc, J (nth rs 0), J (nth rs 1), J (nth rs 2), J (nth rs 3), J (nth rs 4), J (nth rs 5), J (nth rs 6), J (nth rs 7), J mo, J ba, .slice ca ck cc, J op, J oh, J ot, .bool st, J fe, J fp, J fh, J ft, .bool lo] 154)) (.cells #[J k, J x, J y, J i] 130)) (.cells #[.slice none 0 0, J 0, J 0, J 0, J 0, J 0, J 0, J 0, J 0, J 0, J 0, J 0, .slice none 0 0, J 0, J 0, J 0, .bool false, J 0, J 0, J 0, J 0, .bool false] 154)
  have W3 : Hid ((((w.alloc (.cells #[.slice am nm cm, J pc, J (nth rs 0), J (nth rs 1), J (nth rs 2), J (nth rs 3), J (nth rs 4), J (nth rs 5), J (nth rs 6), J (nth rs 7), J mo, J ba, .slice ca ck cc, J op, J oh, J ot, .bool st, J fe, J fp, J fh, J ft, .bool lo] 154)).alloc (.cells #[J k, J x, J y, J i] 130)).alloc (.cells #[.slice none 0 0, J 0, J 0, J 0, J 0, J 0, J 0, J 0, J 0, J 0, J 0, J 0, .slice none 0 0, J 0, J 0, J 0, .bool false, J 0, J 0, J 0, J 0, .bool false] 154)).heap.size = w.heap.size + 1 + 1 + 1) := by show _ = _; simp
  generalize (((w.alloc (.cells #[.slice am nm cm, J pc, J (nth rs 0), J (nth rs 1), J (nth rs 2), J (nth rs 3), J (nth rs 4), J (nth rs 5), J (nth rs 6), J (nth rs 7), J mo, J ba, .slice ca ck cc, J op, J oh, J ot, .bool st, J fe, J fp, J fh, J ft, .bool lo] 154)).alloc (.cells #[J k, J x, J y, J i] 130)).alloc (.cells #[.slice none 0 0, J 0, J 0, J 0, J 0, J 0, J 0, J 0, J 0, J 0, J 0, J 0, .slice none 0 0, J 0, J 0, J 0, .bool false, J 0, J 0, J 0, J 0, .bool false] 154)) = W at *
  refine wp_region_held_drew (S := fun w' => Below W.heap.size W w') (by kernel_rfl) (Below.drew (Below.refl _ _)) (fun hHeld => ?_)
  refine tkH 0 rfl (by kernel_rfl) (fun _ _ _ h => h) (by assumption) (by intro wz hSz; (try dsimp only at hSz); (obtain ⟨⟨q0, q1, q2, q3, q4, q5, q6, q7, q8, q9⟩, ⟨g0, g1, g2, g3, g4, g5, g6, g7, g8, g9, g10, g11⟩, s0⟩ := (X0.keep hSz).state); (obtain ⟨i0, i1, i2, i3, -, -, -, -, s1⟩ := (X1.keep hSz).four); (have gx := (X0.keep hSz).reg hx8); (rw [H1.out] at gx); (have gy := (X0.keep hSz).reg hy8); (rw [H2.out] at gy); go_simp; (try with_reducible rfl)) ?_
  simp only [nmz]
  refine tkH 1 rfl (by kernel_rfl) (fun _ _ _ h => h) (by assumption) (by intro wz hSz; (try dsimp only at hSz); (obtain ⟨⟨q0, q1, q2, q3, q4, q5, q6, q7, q8, q9⟩, ⟨g0, g1, g2, g3, g4, g5, g6, g7, g8, g9, g10, g11⟩, s0⟩ := (X0.keep hSz).state); (obtain ⟨i0, i1, i2, i3, -, -, -, -, s1⟩ := (X1.keep hSz).four); (have gx := (X0.keep hSz).reg hx8); (rw [H1.out] at gx); (have gy := (X0.keep hSz).reg hy8); (rw [H2.out] at gy); go_simp; (try with_reducible rfl)) ?_
  simp only [nmz]
  refine tkH 2 rfl (by kernel_rfl) (fun _ _ _ h => h) (by assumption) (by intro wz hSz; (try dsimp only at hSz); (obtain ⟨⟨q0, q1, q2, q3, q4, q5, q6, q7, q8, q9⟩, ⟨g0, g1, g2, g3, g4, g5, g6, g7, g8, g9, g10, g11⟩, s0⟩ := (X0.keep hSz).state); (obtain ⟨i0, i1, i2, i3, -, -, -, -, s1⟩ := (X1.keep hSz).four); (have gx := (X0.keep hSz).reg hx8); (rw [H1.out] at gx); (have gy := (X0.keep hSz).reg hy8); (rw [H2.out] at gy); go_simp; (try with_reducible rfl)) ?_
  simp only [nmz]
  refine tkH 3 rfl (by kernel_rfl) (fun _ _ _ h => h) (by assumption) (by intro wz hSz; (try dsimp only at hSz); (obtain ⟨⟨q0, q1, q2, q3, q4, q5, q6, q7, q8, q9⟩, ⟨g0, g1, g2, g3, g4, g5, g6, g7, g8, g9, g10, g11⟩, s0⟩ := (X0.keep hSz).state); (obtain ⟨i0, i1, i2, i3, -, -, -, -, s1⟩ := (X1.keep hSz).four); (have gx := (X0.keep hSz).reg hx8); (rw [H1.out] at gx); (have gy := (X0.keep hSz).reg hy8); (rw [H2.out] at gy); go_simp; (try with_reducible rfl)) ?_
  simp only [nmz]
  refine tkH 4 rfl (by kernel_rfl) (fun _ _ _ h => h) (by assumption) (by intro wz hSz; (try dsimp only at hSz); (obtain ⟨⟨q0, q1, q2, q3, q4, q5, q6, q7, q8, q9⟩, ⟨g0, g1, g2, g3, g4, g5, g6, g7, g8, g9, g10, g11⟩, s0⟩ := (X0.keep hSz).state); (obtain ⟨i0, i1, i2, i3, -, -, -, -, s1⟩ := (X1.keep hSz).four); (have gx := (X0.keep hSz).reg hx8); (rw [H1.out] at gx); (have gy := (X0.keep hSz).reg hy8); (rw [H2.out] at gy); go_simp; (try with_reducible rfl)) ?_
  simp only [nmz]
  refine tkH 5 rfl (by kernel_rfl) (fun _ _ _ h => h) (by assumption) (by intro wz hSz; (try dsimp only at hSz); (obtain ⟨⟨q0, q1, q2, q3, q4, q5, q6, q7, q8, q9⟩, ⟨g0, g1, g2, g3, g4, g5, g6, g7, g8, g9, g10, g11⟩, s0⟩ := (X0.keep hSz).state); (obtain ⟨i0, i1, i2, i3, -, -, -, -, s1⟩ := (X1.keep hSz).four); (have gx := (X0.keep hSz).reg hx8); (rw [H1.out] at gx); (have gy := (X0.keep hSz).reg hy8); (rw [H2.out] at gy); go_simp; (try with_reducible rfl)) ?_
  simp only [nmz]
  refine tkH 6 rfl (by kernel_rfl) (fun _ _ _ h => h) (by assumption) (by intro wz hSz; (try dsimp only at hSz); (obtain ⟨⟨q0, q1, q2, q3, q4, q5, q6, q7, q8, q9⟩, ⟨g0, g1, g2, g3, g4, g5, g6, g7, g8, g9, g10, g11⟩, s0⟩ := (X0.keep hSz).state); (obtain ⟨i0, i1, i2, i3, -, -, -, -, s1⟩ := (X1.keep hSz).four); (have gx := (X0.keep hSz).reg hx8); (rw [H1.out] at gx); (have gy := (X0.keep hSz).reg hy8); (rw [H2.out] at gy); go_simp; (try with_reducible rfl)) ?_
  simp only [nmz]
  refine tkH 7 rfl (by kernel_rfl) (fun _ _ _ h => h) (by assumption) (by intro wz hSz; (try dsimp only at hSz); (obtain ⟨⟨q0, q1, q2, q3, q4, q5, q6, q7, q8, q9⟩, ⟨g0, g1, g2, g3, g4, g5, g6, g7, g8, g9, g10, g11⟩, s0⟩ := (X0.keep hSz).state); (obtain ⟨i0, i1, i2, i3, -, -, -, -, s1⟩ := (X1.keep hSz).four); (have gx := (X0.keep hSz).reg hx8); (rw [H1.out] at gx); (have gy := (X0.keep hSz).reg hy8); (rw [H2.out] at gy); go_simp; (try with_reducible rfl)) ?_
  simp only [nmz]
  refine tkH 8 rfl (by kernel_rfl) (fun _ _ _ h => h) (by assumption) (by intro wz hSz; (try dsimp only at hSz); (obtain ⟨⟨q0, q1, q2, q3, q4, q5, q6, q7, q8, q9⟩, ⟨g0, g1, g2, g3, g4, g5, g6, g7, g8, g9, g10, g11⟩, s0⟩ := (X0.keep hSz).state); (obtain ⟨i0, i1, i2, i3, -, -, -, -, s1⟩ := (X1.keep hSz).four); (have gx := (X0.keep hSz).reg hx8); (rw [H1.out] at gx); (have gy := (X0.keep hSz).reg hy8); (rw [H2.out] at gy); go_simp; (try with_reducible rfl)) ?_
  simp only [nmz]
  refine wpHeld_twoL (i := 9) (j := 13) (by kernel_rfl) (by rfl) (by rfl) (fun K hK => ?_) (fun K hK => ?_)
  · go_simp
    refine (set_any mo ba op oh ot fe fp fh ft st lo (.slice ca ck cc) l i one _ (HL.out.keep (bel_trans B0.out hHeld)) HB.out HR0.out).mono ?_
    rintro e w5 ⟨mo1, ba1, op1, oh1, ot1, fe1, fp1, fh1, ft1, st1, lo1, ca1, ck1, cc1, rfl, hS1, b5⟩
    rw [HOK.out]
    have HS1 : Hid _ := hS1
    clear hS1
    go_wp2_with fail
    refine hK.out _ _ ?_ (fun hHeld2 => ?_)
    · exact bel_trans hHeld b5
    clear hK K hHeld
    have hHeld := hHeld2
    clear hHeld2
    refine tkH 10 rfl (by kernel_rfl) (fun _ _ _ h => h) (by assumption) (by intro wz hSz; (try dsimp only at hSz); go_simp; (try with_reducible rfl)) ?_
    simp only [nmz]
    refine tkH 11 rfl (by kernel_rfl) (fun _ _ _ h => h) (by assumption) (by intro wz hSz; (try dsimp only at hSz); go_simp; (try with_reducible rfl)) ?_
    simp only [nmz]
    refine tkH 12 rfl (by kernel_rfl) (fun _ _ _ h => h) (by assumption) (by intro wz hSz; (try dsimp only at hSz); go_simp; (try with_reducible rfl)) ?_
    simp only [nmz]
    refine wpHeld_oneL (i := 13) (by kernel_rfl) (by rfl) (fun K hK => ?_)
    go_simp
    refine hK.out _ _ ?_ (fun hHeld2 => ?_)
    · exact bel_alloc hHeld _
    clear hK K hHeld
    have hHeld := hHeld2
    clear hHeld2
    refine wpHeld_oneL (i := 14) (by kernel_rfl) (by rfl) (fun K hK => ?_)
    go_simp
    refine hK.out _ _ ?_ (fun hHeld2 => ?_)
    · exact bel_alloc (bel_trans (Below.drew (Below.refl _ _)) b5) _
    clear hK K hHeld
    have hHeld := hHeld2
    clear hHeld2
    refine tkH 15 rfl (by kernel_rfl) (fun _ _ _ h => h) (by assumption) (by intro wz hSz; (try dsimp only at hSz); go_simp; (try with_reducible rfl)) ?_
    simp only [nmz]
    refine wpAnyH_done (by kernel_rfl) ?_ _
    have X6 := Box.newAt (w := w5) (n := w5.heap.size) rfl 31 #[J mo1, J ba1, .slice ca1 ck1 cc1, J op1, J oh1, J ot1, .bool st1, J fe1, J fp1, J fh1, J ft1, .bool lo1]
    have hN6 : w.heap.size + 1 + 1 < w5.heap.size := by have := b5.size; have w3 := W3.out; simp at this; omega
    clear b5
    generalize (w5.alloc (.cells #[J mo1, J ba1, .slice ca1 ck1 cc1, J op1, J oh1, J ot1, .bool st1, J fe1, J fp1, J fh1, J ft1, .bool lo1] 31)) = W5 at *
    generalize w5.heap.size = N6 at *
    have X0 := X0.keep hHeld
    have X2 := X2.keep hHeld
    have B5 : Hid (Below w.heap.size w W5) := bel_trans B0.out hHeld
    clear hHeld B0 X1
    have Y0 := X0.setBr (J mo1) (J ba1) (.slice ca1 ck1 cc1) (J op1) (J oh1) (J ot1) (.bool st1) (J fe1) (J fp1) (J fh1) (J ft1) (.bool lo1)
    have Y2 := X2.otherBr (m := w.heap.size) (by omega) (J mo1) (J ba1) (.slice ca1 ck1 cc1) (J op1) (J oh1) (J ot1) (.bool st1) (J fe1) (J fp1) (J fh1) (J ft1) (.bool lo1)
    have B6 : Hid (Below w.heap.size w _) := bel_setBr (Nat.le_refl _) B5.out (J mo1) (J ba1) (.slice ca1 ck1 cc1) (J op1) (J oh1) (J ot1) (.bool st1) (J fe1) (J fp1) (J fh1) (J ft1) (.bool lo1)
    obtain ⟨-, ⟨g0, g1, g2, g3, g4, g5, g6, g7, g8, g9, g10, g11⟩, s0⟩ := X0.state0
    have fx := X0.marksAll
    obtain ⟨⟨u0, u1, u2, u3, u4, u5, u6, u7, u8, u9, u10, u11⟩, s6⟩ := X6.twelve
    go_upto_region 3 with fail
    clear g0 g1 g2 g3 g4 g5 g6 g7 g8 g9 g10 g11 fx s0 u0 u1 u2 u3 u4 u5 u6 u7 u8 u9 u10 u11 s6 X0 X2 X6
    generalize ((((((((((((W5.setCell ⟨w.heap.size, 10, none⟩ (J mo1)).setCell ⟨w.heap.size, 11, none⟩ (J ba1)).setCell ⟨w.heap.size, 12, none⟩ (.slice ca1 ck1 cc1)).setCell ⟨w.heap.size, 13, none⟩ (J op1)).setCell ⟨w.heap.size, 14, none⟩ (J oh1)).setCell ⟨w.heap.size, 15, none⟩ (J ot1)).setCell ⟨w.heap.size, 16, none⟩ (.bool st1)).setCell ⟨w.heap.size, 17, none⟩ (J fe1)).setCell ⟨w.heap.size, 18, none⟩ (J fp1)).setCell ⟨w.heap.size, 19, none⟩ (J fh1)).setCell ⟨w.heap.size, 20, none⟩ (J ft1)).setCell ⟨w.heap.size, 21, none⟩ (.bool lo1)) = W6 at *
    go_wp2_with (first
      | (refine wpList_load_row rfl 154 (.tmp 2) rfl w.heap.size rfl _ _ _ _ Y0 Tryz.underlying154 rfl infoState ?_)
      | (refine wpList_store_row rfl 154 (.tmp 4) (.tmp 23) rfl (w.heap.size + 1 + 1) _ rfl rfl _ _ Y2 infoState rfl (stateOne _ _ _ _ _ _ _ _ _ _ _ _ _ _ _ _ _ _ _ _ _ _ _ _ _ _) ?_))
    have hl := Box.loadState (Y2.setRow #[.slice am nm cm, J pc, J (nth rs 0), J (nth rs 1), J (nth rs 2), J (nth rs 3), J (nth rs 4), J (nth rs 5), J (nth rs 6), J (nth rs 7), J mo1, J ba1, .slice ca1 ck1 cc1, J op1, J oh1, J ot1, .bool st1, J fe1, J fp1, J fh1, J ft1, .bool lo1]) rfl
    refine bodyPost_ret (v := .tuple #[.agg #[.slice am nm cm, J pc, J (nth rs 0), J (nth rs 1), J (nth rs 2), J (nth rs 3), J (nth rs 4), J (nth rs 5), J (nth rs 6), J (nth rs 7), J mo1, J ba1, .slice ca1 ck1 cc1, J op1, J oh1, J ot1, .bool st1, J fe1, J fp1, J fh1, J ft1, .bool lo1], .bool ok]) (by simp [results, Tryz.results159, asAddr, hl]) rfl ⟨_, _, _, _, _, _, _, _, _, _, _, _, _, _, by rw [HOK.out], HS1.out, ?_⟩
    exact bel_setRow (by omega) B6.out _
  · go_simp
    refine hK.out _ _ ?_ (fun hHeld2 => ?_)
    · exact bel_alloc hHeld _
    clear hK K hHeld
    have hHeld := hHeld2
    clear hHeld2
    refine wpHeld_oneL (i := 9) (by kernel_rfl) (by rfl) (fun K hK => ?_)
    go_simp
    refine (set_any mo ba op oh ot fe fp fh ft st lo (.slice ca ck cc) l i one _ (HL.out.keep (bel_trans B0.out hHeld)) HB.out HR0.out).mono ?_
    rintro e w5 ⟨mo1, ba1, op1, oh1, ot1, fe1, fp1, fh1, ft1, st1, lo1, ca1, ck1, cc1, rfl, hS1, b5⟩
    rw [HOK.out]
    have HS1 : Hid _ := hS1
    clear hS1
    have X6 := ((Box.newAt (w := W) (n := W.heap.size) rfl 31 #[J 0, J 0, .slice none 0 0, J 0, J 0, J 0, .bool false, J 0, J 0, J 0, J 0, .bool false]).drew.keep b5)
    go_wp2_with fail
    refine hK.out _ _ ?_ (fun hHeld2 => ?_)
    · exact bel_trans hHeld b5
    clear hK K hHeld
    have hHeld := hHeld2
    clear hHeld2
    refine tkH 10 rfl (by kernel_rfl) (fun _ _ _ h => h) (by assumption) (by intro wz hSz; (try dsimp only at hSz); go_simp; (try with_reducible rfl)) ?_
    simp only [nmz]
    refine tkH 11 rfl (by kernel_rfl) (fun _ _ _ h => h) (by assumption) (by intro wz hSz; (try dsimp only at hSz); go_simp; (try with_reducible rfl)) ?_
    simp only [nmz]
    refine tkH 12 rfl (by kernel_rfl) (fun _ _ _ h => h) (by assumption) (by intro wz hSz; (try dsimp only at hSz); go_simp; (try with_reducible rfl)) ?_
    simp only [nmz]
    obtain ⟨⟨u0, u1, u2, u3, u4, u5, u6, u7, u8, u9, u10, u11⟩, s6⟩ := X6.twelve
    have f6 := X6.marksAll
    refine wpHeld_oneL (i := 14) (by kernel_rfl) (by rfl) (fun K hK => ?_)
    go_simp
    refine hK.out _ _ ?_ (fun hHeld2 => ?_)
    · exact bel_set12 (Nat.le_refl _) hHeld _ _ _ _ _ _ _ _ _ _ _ _
    clear hK K hHeld
    have hHeld := hHeld2
    clear hHeld2
    refine tkH 15 rfl (by kernel_rfl) (fun _ _ _ h => h) (by assumption) (by intro wz hSz; (try dsimp only at hSz); go_simp; (try with_reducible rfl)) ?_
    simp only [nmz]
    refine wpAnyH_done (by kernel_rfl) ?_ _
    have X6 := X6.set12 (J mo1) (J ba1) (.slice ca1 ck1 cc1) (J op1) (J oh1) (J ot1) (.bool st1) (J fe1) (J fp1) (J fh1) (J ft1) (.bool lo1)
    have hN6 : w.heap.size + 1 + 1 < W.heap.size := by have := W3.out; omega
    clear b5 u0 u1 u2 u3 u4 u5 u6 u7 u8 u9 u10 u11 f6 s6
    generalize ((((((((((((w5.setCell ⟨W.heap.size, 0, none⟩ (J mo1)).setCell ⟨W.heap.size, 1, none⟩ (J ba1)).setCell ⟨W.heap.size, 2, none⟩ (.slice ca1 ck1 cc1)).setCell ⟨W.heap.size, 3, none⟩ (J op1)).setCell ⟨W.heap.size, 4, none⟩ (J oh1)).setCell ⟨W.heap.size, 5, none⟩ (J ot1)).setCell ⟨W.heap.size, 6, none⟩ (.bool st1)).setCell ⟨W.heap.size, 7, none⟩ (J fe1)).setCell ⟨W.heap.size, 8, none⟩ (J fp1)).setCell ⟨W.heap.size, 9, none⟩ (J fh1)).setCell ⟨W.heap.size, 10, none⟩ (J ft1)).setCell ⟨W.heap.size, 11, none⟩ (.bool lo1)) = W5 at *
    obtain ⟨N6, hWN⟩ : ∃ N6, W.heap.size = N6 := ⟨_, rfl⟩
    rw [hWN] at X6 hN6 ⊢
    clear hWN
    have X0 := X0.keep hHeld
    have X2 := X2.keep hHeld
    have B5 : Hid (Below w.heap.size w W5) := bel_trans B0.out hHeld
    clear hHeld B0 X1
    have Y0 := X0.setBr (J mo1) (J ba1) (.slice ca1 ck1 cc1) (J op1) (J oh1) (J ot1) (.bool st1) (J fe1) (J fp1) (J fh1) (J ft1) (.bool lo1)
    have Y2 := X2.otherBr (m := w.heap.size) (by omega) (J mo1) (J ba1) (.slice ca1 ck1 cc1) (J op1) (J oh1) (J ot1) (.bool st1) (J fe1) (J fp1) (J fh1) (J ft1) (.bool lo1)
    have B6 : Hid (Below w.heap.size w _) := bel_setBr (Nat.le_refl _) B5.out (J mo1) (J ba1) (.slice ca1 ck1 cc1) (J op1) (J oh1) (J ot1) (.bool st1) (J fe1) (J fp1) (J fh1) (J ft1) (.bool lo1)
    obtain ⟨-, ⟨g0, g1, g2, g3, g4, g5, g6, g7, g8, g9, g10, g11⟩, s0⟩ := X0.state0
    have fx := X0.marksAll
    obtain ⟨⟨u0, u1, u2, u3, u4, u5, u6, u7, u8, u9, u10, u11⟩, s6⟩ := X6.twelve
    go_upto_region 3 with fail
    clear g0 g1 g2 g3 g4 g5 g6 g7 g8 g9 g10 g11 fx s0 u0 u1 u2 u3 u4 u5 u6 u7 u8 u9 u10 u11 s6 X0 X2 X6
    generalize ((((((((((((W5.setCell ⟨w.heap.size, 10, none⟩ (J mo1)).setCell ⟨w.heap.size, 11, none⟩ (J ba1)).setCell ⟨w.heap.size, 12, none⟩ (.slice ca1 ck1 cc1)).setCell ⟨w.heap.size, 13, none⟩ (J op1)).setCell ⟨w.heap.size, 14, none⟩ (J oh1)).setCell ⟨w.heap.size, 15, none⟩ (J ot1)).setCell ⟨w.heap.size, 16, none⟩ (.bool st1)).setCell ⟨w.heap.size, 17, none⟩ (J fe1)).setCell ⟨w.heap.size, 18, none⟩ (J fp1)).setCell ⟨w.heap.size, 19, none⟩ (J fh1)).setCell ⟨w.heap.size, 20, none⟩ (J ft1)).setCell ⟨w.heap.size, 21, none⟩ (.bool lo1)) = W6 at *
    go_wp2_with (first
      | (refine wpList_load_row rfl 154 (.tmp 2) rfl w.heap.size rfl _ _ _ _ Y0 Tryz.underlying154 rfl infoState ?_)
      | (refine wpList_store_row rfl 154 (.tmp 4) (.tmp 23) rfl (w.heap.size + 1 + 1) _ rfl rfl _ _ Y2 infoState rfl (stateOne _ _ _ _ _ _ _ _ _ _ _ _ _ _ _ _ _ _ _ _ _ _ _ _ _ _) ?_))
    have hl := Box.loadState (Y2.setRow #[.slice am nm cm, J pc, J (nth rs 0), J (nth rs 1), J (nth rs 2), J (nth rs 3), J (nth rs 4), J (nth rs 5), J (nth rs 6), J (nth rs 7), J mo1, J ba1, .slice ca1 ck1 cc1, J op1, J oh1, J ot1, .bool st1, J fe1, J fp1, J fh1, J ft1, .bool lo1]) rfl
    refine bodyPost_ret (v := .tuple #[.agg #[.slice am nm cm, J pc, J (nth rs 0), J (nth rs 1), J (nth rs 2), J (nth rs 3), J (nth rs 4), J (nth rs 5), J (nth rs 6), J (nth rs 7), J mo1, J ba1, .slice ca1 ck1 cc1, J op1, J oh1, J ot1, .bool st1, J fe1, J fp1, J fh1, J ft1, .bool lo1], .bool ok]) (by simp [results, Tryz.results159, asAddr, hl]) rfl ⟨_, _, _, _, _, _, _, _, _, _, _, _, _, _, by rw [HOK.out], HS1.out, ?_⟩
    exact bel_setRow (by omega) B6.out _
end Go.Proofs.YthlhocneggcekaaGreat
