/-
  Laid together: Dma1, TouchL, AppendI.
-/
import Derived.Test.YthlhocneggcekaaGreatB1
import Derived.Test.YthlhocneggcekaaGreatB2
import Derived.Test.YthlhocneggcekaaGreatB3
import Derived.Test.YthlhocneggcekaaGreatB4
import Derived.Test.YthlhocneggcekaaGreatB5
import Derived.Test.YthlhocneggcekaaGreatB6
import Derived.Test.YthlhocneggcekaaGreatB7
import Derived.Test.YthlhocneggcekaaGreatB8
import Derived.Test.YthlhocneggcekaaGreatB9
import Derived.Test.YthlhocneggcekaaGreatB10
import Derived.Test.YthlhocneggcekaaGreatB11
import Derived.Deep.RegionHeld3
import Derived.Maps.OwnOps
import Derived.Maps.OwnSet
import Derived.Deep.AppendLies
import Derived.Deep.RegionWith
import Derived.LoopN
import Derived.Deep.CutRange
import Derived.Test.YthlhocneggcekaaGreatRows
import Derived.WalkKit
import Derived.WalkSpells
import Derived.WalkLawsBesides
import Derived.Below
import Derived.WalkSmall
import Derived.Deep.QuietTactic
import Derived.BigQuiet
import Derived.Deep.Draws
import Derived.Deep.DrawnRows
import Derived.Laws.CopyOwn
namespace Go.Proofs.YthlhocneggcekaaGreat
open Go.RowKit
theorem isWordD_any (z : Int) (w : World) : Calls Tryz.prog 162 #[J z] w fun e w' => e = .returned (.bool (wordB z)) ∧ w' = w := by
  by_cases h1 : 0 ≤ z
  · by_cases h2 : z ≤ 65535
    · have : wordB z = true := by simp [wordB, h1, h2]
      rw [this]
      go_enter Tryz.func162, Tryz.ntmps162
      go_wp2
      go_ret
      exact ⟨rfl, rfl⟩
    · have : wordB z = false := by simp [wordB, h2]
      rw [this]
      go_enter Tryz.func162, Tryz.ntmps162
      go_wp2
      go_ret
      exact ⟨rfl, rfl⟩
  · have : wordB z = false := by simp [wordB, h1]
    rw [this]
    go_enter Tryz.func162, Tryz.ntmps162
    go_wp2
    go_ret
    exact ⟨rfl, rfl⟩
theorem hasWords_any (a n : Int) (w : World) (hn : 1 ≤ n ∧ n ≤ 20) : Calls Tryz.prog 160 #[J a, J n] w fun e w' => e = .returned (.bool (hasW a n)) ∧ w' = w := by
  obtain ⟨n1, n2⟩ := hn
  by_cases h1 : 0 ≤ a
  · by_cases h2 : a ≤ 512 - n
    · have : hasW a n = true := by simp [hasW, h1, h2]
      rw [this]
      go_enter Tryz.func160, Tryz.ntmps160
      go_wp2
      go_ret
      exact ⟨rfl, rfl⟩
    · have : hasW a n = false := by simp [hasW, h2]
      rw [this]
      go_enter Tryz.func160, Tryz.ntmps160
      go_wp2
      go_ret
      exact ⟨rfl, rfl⟩
  · have : hasW a n = false := by simp [hasW, h1]
    rw [this]
    go_enter Tryz.func160, Tryz.ntmps160
    go_wp2
    go_ret
    exact ⟨rfl, rfl⟩
theorem nextPage_any (x : Nat) (w : World) (hx : x < 1000) : Calls Tryz.prog 106 #[J x] w fun e w' => e = .returned (J ((x / 8 + 1) * 8 : Nat)) ∧ w' = w := by
  have h0 : (0 : Int) ≤ x := by omega
  have h1 : (x : Int) < 1000 := by omega
  go_enter Tryz.func106, Tryz.ntmps106
  go_wp2
  go_ret
  exact ⟨ret_int (by omega), rfl⟩
theorem dataOf_any (d a n : Int) (x : Bool) (da : Option Addr) (dn dc : Nat) (w : World) : Calls Tryz.prog 161 #[.agg #[J d, J a, J n, .bool x, .slice da dn dc]] w fun e w' => e = .returned (J (needA x n)) ∧ w' = w.alloc (.cells #[J d, J a, J n, .bool x, .slice da dn dc] 35) := by
  cases x
  all_goals
    go_enter Tryz.func161, Tryz.ntmps161
    go_wp2
    go_ret
    exact ⟨rfl, rfl⟩
theorem ckA_many {d a n : Int} {x : Bool} {ds : List Int} (h : ¬ (1 ≤ n ∧ n ≤ 20)) : ckA d a n x ds = 1 := if_neg h
theorem ckA_who {d a n : Int} {x : Bool} {ds : List Int} (h : 1 ≤ n ∧ n ≤ 20) (h2 : ¬ ((0 ≤ d ∧ d ≤ 7) ∧ hasW a n = true)) : ckA d a n x ds = 4 := by rw [ckA, if_pos h, if_neg h2]
theorem ckA_form {d a n : Int} {x : Bool} {ds : List Int} (h : 1 ≤ n ∧ n ≤ 20) (h2 : (0 ≤ d ∧ d ≤ 7) ∧ hasW a n = true) (h3 : ¬ (ds.length : Int) = needA x n) : ckA d a n x ds = 3 := by rw [ckA, if_pos h, if_pos h2, if_neg h3]
theorem ckA_last {d a n : Int} {x : Bool} {ds : List Int} (h : 1 ≤ n ∧ n ≤ 20) (h2 : (0 ≤ d ∧ d ≤ 7) ∧ hasW a n = true) (h3 : (ds.length : Int) = needA x n) : ckA d a n x ds = if ds.all wordB = true then 0 else 2 := by rw [ckA, if_pos h, if_pos h2, if_pos h3]
theorem all_not {ds : List Int} {k : Nat} (hk : k < ds.length) (h : wordB (nth ds k) = false) : ¬ ds.all wordB = true := fun e => by
  rw [all_nth e hk] at h; exact absurd h (by decide)
theorem all_yes {ds : List Int} (h : ∀ k, k < ds.length → wordB (nth ds k) = true) : ds.all wordB = true := by
  rw [List.all_eq_true]
  intro z hz
  obtain ⟨i, hi, rfl⟩ := List.mem_iff_getElem.1 hz
  have := h i hi
  rwa [nth, List.getD_eq_getElem?_getD, List.getElem?_eq_getElem hi] at this
theorem needA_in {x : Bool} {n : Int} (h : 1 ≤ n ∧ n ≤ 20) : 0 ≤ needA x n ∧ needA x n ≤ 20 := by unfold needA; split <;> omega
set_option maxHeartbeats 2000000 in
theorem dCheck_any (d a n : Int) (x : Bool) (v : Value) (ds : List Int) (w : World) (h : Sl w v ds) :
    Calls Tryz.prog 134 #[.agg #[J d, J a, J n, .bool x, v]] w fun e w' => e = .returned (J (ckA d a n x ds)) ∧ Below w.heap.size w w' := by
  have HD : Hid (Sl w v ds) := h
  obtain ⟨da, dc, rfl, hl, h⟩ := h
  unfold maxLen at hl
  have HH : Hid _ := h
  clear h
  by_cases hn : 1 ≤ n ∧ n ≤ 20
  rotate_left
  · have HE : Hid (ckA d a n x ds = 1) := ckA_many hn
    by_cases h1 : n < 1
    · go_enter Tryz.func134, Tryz.ntmps134
      go_wp2
      go_ret
      exact ⟨ret_int HE.out.symm, bel_alloc (Below.refl _ _) _⟩
    · have h2 : 20 < n := by omega
      go_enter Tryz.func134, Tryz.ntmps134
      go_wp2
      go_ret
      exact ⟨ret_int HE.out.symm, bel_alloc (Below.refl _ _) _⟩
  have HN : Hid (1 ≤ n ∧ n ≤ 20) := hn
  have n1 : ¬ n < 1 := by omega
  have n2 : ¬ 20 < n := by omega
  clear hn
  by_cases hw : (0 ≤ d ∧ d ≤ 7) ∧ hasW a n = true
  rotate_left
  · have HE : Hid (ckA d a n x ds = 4) := ckA_who HN.out hw
    by_cases h1 : d < 0
    · clear hw
      go_enter Tryz.func134, Tryz.ntmps134
      go_wp2
      go_ret
      exact ⟨ret_int HE.out.symm, bel_alloc (Below.refl _ _) _⟩
    by_cases h2 : 8 ≤ d
    · clear hw
      go_enter Tryz.func134, Tryz.ntmps134
      go_wp2
      go_ret
      exact ⟨ret_int HE.out.symm, bel_alloc (Below.refl _ _) _⟩
    have h3 : hasW a n = false := by
      cases hq : hasW a n
      · rfl
      · exact absurd ⟨by omega, hq⟩ hw
    clear hw
    go_enter Tryz.func134, Tryz.ntmps134
    go_wp2_with (go_at_call 160; refine (hasWords_any _ _ _ HN.out).mono ?_; rintro e w' ⟨rfl, rfl⟩)
    go_ret
    exact ⟨ret_int HE.out.symm, bel_alloc (Below.refl _ _) _⟩
  have HW : Hid ((0 ≤ d ∧ d ≤ 7) ∧ hasW a n = true) := hw
  obtain ⟨⟨d0, d7⟩, hwa⟩ := hw
  have d1 : ¬ d < 0 := by omega
  have d2 : ¬ 8 ≤ d := by omega
  clear d0 d7
  go_enter Tryz.func134, Tryz.ntmps134
  go_wp2_with (go_at_call 160; refine (hasWords_any _ _ _ HN.out).mono ?_; rintro e w' ⟨rfl, rfl⟩)
  have K := Blk.new w #[J d, J a, J n, .bool x, .slice da ds.length dc] 35 (0, 0)
  have B0 : Hid (Below w.heap.size w (w.alloc (.cells #[J d, J a, J n, .bool x, .slice da ds.length dc] 35))) := bel_alloc (Below.refl _ _) _
  generalize w.alloc (.cells #[J d, J a, J n, .bool x, .slice da ds.length dc] 35) = W at *
  obtain ⟨c0, c1, c2, c3, c4⟩ := K.five
  have s0 := K.lt
  go_cut [34] from 29 to 34 (fun s wx => s = .bool ((ds.length : Int) != needA x n) ∧ Below W.heap.size W wx)
  case first =>
    go_region_held3 (fun w' => w'.cell? ⟨w.heap.size, 0, none⟩ = some (J d) ∧ w'.cell? ⟨w.heap.size, 1, none⟩ = some (J a) ∧ w'.cell? ⟨w.heap.size, 2, none⟩ = some (J n) ∧ w'.cell? ⟨w.heap.size, 3, none⟩ = some (.bool x) ∧ w'.cell? ⟨w.heap.size, 4, none⟩ = some (.slice da ds.length dc) ∧ Below W.heap.size W w')
      (with_reducible refine keep5 (by assumption) (by assumption) (by assumption) (by assumption) (by assumption) (by assumption) ?_; (repeat (first | with_reducible assumption | (with_reducible (refine limb5 (?_ : _ ∧ _ ∧ _ ∧ _ ∧ _ ∧ _); assumption)) | with_reducible exact Below.refl _ _ | with_reducible refine Below.drew ?_ | with_reducible refine bel_drewN ?_ _ | with_reducible refine bel_alloc ?_ _ | with_reducible refine Below.trans ?_ (by assumption))))
      (first | (go_at_call 161; refine (dataOf_any d a n x da ds.length dc _).mono ?_; rintro e w2 ⟨rfl, rfl⟩))
    all_goals
      rename_i hH
      have hB := limb5 hH
      clear hH
      go_wp2_with fail
      go_meet
      exact ⟨rfl, hB⟩
  case rest =>
    obtain ⟨rfl, bc⟩ := hcut
    have B1 : Hid (Below w.heap.size w wc) := bel_trans B0.out bc
    have K1 := K.keep bc
    clear bc B0 c0 c1 c2 c3 c4 s0 K
    by_cases hln : (ds.length : Int) = needA x n
    rotate_left
    · have HE : Hid (ckA d a n x ds = 3) := ckA_form HN.out HW.out hln
      have hq : ((ds.length : Int) != needA x n) = true := by simpa using hln
      rw [hq]
      clear hln
      go_wp2
      go_ret
      exact ⟨ret_int HE.out.symm, B1.out⟩
    have HE : Hid (ckA d a n x ds = if ds.all wordB = true then 0 else 2) := ckA_last HN.out HW.out hln
    have hl20 : ds.length ≤ 20 := by have := needA_in (x := x) HN.out; omega
    have hq : ((ds.length : Int) != needA x n) = false := by simpa using hln
    rw [hq]
    clear hln
    obtain ⟨c0, c1, c2, c3, c4⟩ := K1.five
    have s0 := K1.lt
    have HS : Hid (Sl wc (.slice da ds.length dc) ds) := HD.out.keep B1.out
    clear HD HH
    obtain ⟨a', cap', he, -, HS'⟩ := HS.out
    simp only [Value.slice.injEq] at he
    obtain ⟨rfl, -, rfl⟩ := he
    have HS2 : Hid _ := HS'
    clear HS' HS
    go_wp2
    go_loop [38] (fun i => ∃ k : Nat, k ≤ ds.length ∧ i = J k ∧ ∀ j, j < k → wordB (nth ds j) = true) (fun i => ds.length - (intOf i).toNat)
    case atStart => exact ⟨0, Nat.zero_le _, rfl, fun j hj => absurd hj (Nat.not_lt_zero _)⟩
    case round =>
      obtain ⟨k, hk, rfl, hpre⟩ := hrel
      have HP : Hid (∀ j, j < k → wordB (nth ds j) = true) := hpre
      clear hpre
      by_cases hlt : k < ds.length
      · have hlt1 : (k : Int) < ds.length := by omega
        rcases HS2.out with h0 | ⟨b, o, rfl, hb, hc⟩
        · exact absurd hlt (by rw [h0]; simp)
        have g := hc k hlt
        have HC : Hid _ := hc
        clear hc
        by_cases hq : wordB (nth ds k) = true
        · go_wp2_with (go_at_call 162; refine (isWordD_any _ _).mono ?_; rintro e w' ⟨rfl, rfl⟩)
          refine ⟨⟨k + 1, by omega, by go_num, fun j hj => ?_⟩, by simp [intOf]; omega⟩
          by_cases e : j = k
          · rw [e]; exact hq
          · exact HP.out j (by omega)
        · have hq' : wordB (nth ds k) = false := by simpa using hq
          have HX : Hid (ckA d a n x ds = 2) := by show _ = _; rw [HE.out, if_neg (all_not hlt hq')]
          clear hq
          go_wp2_with (go_at_call 162; refine (isWordD_any _ _).mono ?_; rintro e w' ⟨rfl, rfl⟩)
          go_ret
          exact ⟨ret_int HX.out.symm, B1.out⟩
      · have HX : Hid (ckA d a n x ds = 0) := by show _ = _; rw [HE.out, if_pos (all_yes fun j hj => HP.out j (by omega))]
        have hge : ¬ (k : Int) < ds.length := by omega
        go_wp2
        go_ret
        exact ⟨ret_int HX.out.symm, B1.out⟩
set_option maxHeartbeats 2000000 in
theorem checkAll_any (v : Value) (zs : List Int) (mo ba op oh ot fe fp fh ft : Int) (st lo : Bool) (vc : Value) (l : List Ln) (d a n : Int) (x : Bool) (u : Value) (ds : List Int) (w : World) (hs : Sl w v zs) (h : Ls w vc l) (hd : Sl w u ds) :
    Calls Tryz.prog 104 #[.agg #[v], .agg #[J mo, J ba, vc, J op, J oh, J ot, .bool st, J fe, J fp, J fh, J ft, .bool lo], .agg #[J d, J a, J n, .bool x, u]] w fun e w' => e = .returned (J (doE zs ⟨mo, ba, l, op, oh, ot, st, fe, fp, fh, ft, lo⟩ d a n x ds)) ∧ Below w.heap.size w w' := by
  have HS : Hid (Ls w vc l) := h
  obtain ⟨va, vk, rfl, -⟩ := h.shape
  have HM : Hid (Sl w v zs) := hs
  obtain ⟨ma, mc, rfl⟩ := hs.shape
  have HD : Hid (Sl w u ds) := hd
  obtain ⟨da, dc, rfl⟩ := hd.shape
  clear h hs hd
  go_enter Tryz.func104, Tryz.ntmps104
  go_wp2_with fail
  have B0 : Hid (Below w.heap.size w _) := bel_alloc (bel_alloc (bel_alloc (Below.refl w.heap.size w) (.cells #[.slice ma zs.length mc] 24)) (.cells #[J mo, J ba, .slice va l.length vk, J op, J oh, J ot, .bool st, J fe, J fp, J fh, J ft, .bool lo] 31)) (.cells #[J d, J a, J n, .bool x, .slice da ds.length dc] 35)
  refine (check_any _ zs _ (HM.out.keep B0.out)).mono ?_
  rintro e w1 ⟨rfl, b1⟩
  have X1 := ((Box.newAt (n := w.heap.size + 1) (by simp) 31 #[J mo, J ba, .slice va l.length vk, J op, J oh, J ot, .bool st, J fe, J fp, J fh, J ft, .bool lo]).past _).keep b1
  have X2 := (Box.newAt (n := w.heap.size + 1 + 1) (by simp) 35 #[J d, J a, J n, .bool x, .slice da ds.length dc]).keep b1
  have B1 : Hid (Below w.heap.size w w1) := bel_trans B0.out b1
  clear b1 B0
  by_cases hz : chk zs = 0
  rotate_left
  · have HE : Hid (doE zs ⟨mo, ba, l, op, oh, ot, st, fe, fp, fh, ft, lo⟩ d a n x ds = chk zs) := by
      have hb : bothB zs ⟨mo, ba, l, op, oh, ot, st, fe, fp, fh, ft, lo⟩ = chk zs := if_neg hz
      show _ = _
      rw [doE, hb, if_neg hz]
    have hq : (chk zs != 0) = true := by simpa using hz
    go_wp2
    go_ret
    exact ⟨ret_int HE.out.symm, B1.out⟩
  rw [hz]
  obtain ⟨⟨q0, q1, q2, q3, q4, q5, q6, q7, q8, q9, q10, q11⟩, s1⟩ := X1.twelve
  go_wp2_with fail
  refine (bCheck_any _ _ _ _ _ _ _ _ _ _ _ _ l _ (HS.out.keep B1.out)).mono ?_
  rintro e w2 ⟨rfl, b2⟩
  have X2 := X2.keep b2
  have B2 : Hid (Below w.heap.size w w2) := bel_trans B1.out b2
  clear b2 B1 q0 q1 q2 q3 q4 q5 q6 q7 q8 q9 q10 q11 s1 X1
  have hbo : bothB zs ⟨mo, ba, l, op, oh, ot, st, fe, fp, fh, ft, lo⟩ = chkB ⟨mo, ba, l, op, oh, ot, st, fe, fp, fh, ft, lo⟩ := if_pos hz
  by_cases hb : chkB ⟨mo, ba, l, op, oh, ot, st, fe, fp, fh, ft, lo⟩ = 0
  rotate_left
  · have HE : Hid (doE zs ⟨mo, ba, l, op, oh, ot, st, fe, fp, fh, ft, lo⟩ d a n x ds = chkB ⟨mo, ba, l, op, oh, ot, st, fe, fp, fh, ft, lo⟩) := by show _ = _; rw [doE, hbo, if_neg hb]
    have hq : (chkB ⟨mo, ba, l, op, oh, ot, st, fe, fp, fh, ft, lo⟩ != 0) = true := by simpa using hb
    clear hbo
    go_wp2
    go_ret
    exact ⟨ret_int HE.out.symm, B2.out⟩
  have HE : Hid (doE zs ⟨mo, ba, l, op, oh, ot, st, fe, fp, fh, ft, lo⟩ d a n x ds = ckA d a n x ds) := by show _ = _; rw [doE, hbo, if_pos hb]
  rw [hb]
  clear hbo
  obtain ⟨c0, c1, c2, c3, c4⟩ := X2.blk.five
  have s2 := X2.lt
  go_wp2_with fail
  refine (dCheck_any d a n x _ ds _ (HD.out.keep B2.out)).mono ?_
  rintro e w3 ⟨rfl, b3⟩
  have B3 : Hid (Below w.heap.size w w3) := bel_trans B2.out b3
  clear b3 B2
  rw [← HE.out]
  go_wp2
  go_ret
  exact ⟨rfl, B3.out⟩
def cellsT (x : Tc) : List Value := [J x.1, J x.2.1, J x.2.2.1, .bool x.2.2.2.1, J x.2.2.2.2]
def AtT (w : World) (b o : Nat) (x : Tc) : Prop :=
  w.cell? ⟨b, o, none⟩ = some (J x.1) ∧ w.cell? ⟨b, o + 1, none⟩ = some (J x.2.1) ∧ w.cell? ⟨b, o + 2, none⟩ = some (J x.2.2.1) ∧ w.cell? ⟨b, o + 3, none⟩ = some (.bool x.2.2.2.1) ∧ w.cell? ⟨b, o + 4, none⟩ = some (J x.2.2.2.2)
def Ts (w : World) (v : Value) (l : List Tc) : Prop :=
  ∃ a cap, v = .slice a l.length cap ∧ l.length ≤ cap ∧ cap ≤ maxLen ∧
    (l = [] ∨ ∃ b o, a = some ⟨b, o, none⟩ ∧ b < w.heap.size ∧ ∀ i, i < l.length → AtT w b (o + i * 5) (tth l i))
theorem AtT.keep {w w' : World} {b o : Nat} {x : Tc} (h : AtT w b o x) (hb : Below w.heap.size w w') (hl : b < w.heap.size) : AtT w' b o x := by
  obtain ⟨c, _⟩ := bcell hb
  unfold AtT
  rw [c _ _ hl, c _ _ hl, c _ _ hl, c _ _ hl, c _ _ hl]
  exact h
theorem Ts.keep {w w' : World} {v : Value} {l : List Tc} (h : Ts w v l) (hb : Below w.heap.size w w') : Ts w' v l := by
  obtain ⟨a, cap, rfl, hl, hm, h⟩ := h
  refine ⟨a, cap, rfl, hl, hm, ?_⟩
  rcases h with h | ⟨b, o, rfl, hlt, hc⟩
  · exact .inl h
  · exact .inr ⟨b, o, rfl, Nat.lt_of_lt_of_le hlt hb.size, fun i hi => (hc i hi).keep hb hlt⟩
theorem Ts.nil (w : World) (a : Option Addr) (cap : Nat) (h : cap ≤ maxLen) : Ts w (.slice a 0 cap) [] := ⟨a, cap, rfl, Nat.zero_le _, h, .inl rfl⟩
theorem Ts.nothing (w : World) : Ts w (.slice none 0 0) [] := Ts.nil w _ _ (Nat.zero_le _)
theorem infoTouch : ∃ i, Tryz.prog.info? 72 = some i ∧ i.zero = some (.agg #[J 0, J 0, J 0, .bool false, J 0]) ∧ i.size = 5 ∧ i.bytes = 40 := by
  have h : (Tryz.prog.info? 72).map (fun i => (i.zero, i.size, i.bytes)) = some (some (.agg #[J 0, J 0, J 0, .bool false, J 0]), 5, 40) := by kernel_rfl
  cases hi : Tryz.prog.info? 72 with
  | none => rw [hi] at h; simp at h
  | some i => rw [hi] at h; simp at h; exact ⟨i, rfl, h.1, h.2.1, h.2.2⟩
theorem cellsT_len (x : Tc) : (cellsT x).length = 5 := rfl
theorem flatT_len (l : List Tc) : (l.flatMap cellsT).length = l.length * 5 := by
  induction l with
  | nil => rfl
  | cons x t ih => rw [List.flatMap_cons, List.length_append, ih, cellsT_len, List.length_cons]; omega
theorem tth_succ (x : Tc) (t : List Tc) (i : Nat) : tth (x :: t) (i + 1) = tth t i := by simp [tth]
theorem flatT_at (l : List Tc) : ∀ (i r : Nat), i < l.length → r < 5 → (l.flatMap cellsT)[i * 5 + r]? = (cellsT (tth l i))[r]? := by
  induction l with
  | nil => intro i r hi _; exact absurd hi (Nat.not_lt_zero _)
  | cons x t ih =>
    intro i r hi hr
    rw [List.flatMap_cons]
    cases i with
    | zero =>
      rw [Nat.zero_mul, Nat.zero_add, List.getElem?_append_left (by rw [cellsT_len]; exact hr)]
      rfl
    | succ i =>
      rw [List.getElem?_append_right (by rw [cellsT_len]; omega), cellsT_len, tth_succ, ← ih i r (by simpa using hi) hr]
      congr 1; omega
theorem flatT_of {l : List Tc} {j : Nat} {u : Value} (h : (l.flatMap cellsT)[j]? = some u) : ∃ i r, i < l.length ∧ r < 5 ∧ j = i * 5 + r ∧ (cellsT (tth l i))[r]? = some u := by
  have hj : j < l.length * 5 := by
    rw [← flatT_len]
    rcases Nat.lt_or_ge j (l.flatMap cellsT).length with k | k
    · exact k
    · rw [List.getElem?_eq_none k] at h; cases h
  refine ⟨j / 5, j % 5, by omega, by omega, by omega, ?_⟩
  rw [← flatT_at l (j / 5) (j % 5) (by omega) (by omega), ← h]
  congr 1; omega
theorem flatT_one (l : List Tc) : ∀ u ∈ l.flatMap cellsT, u.oneCell' = true := by
  intro u hu
  obtain ⟨x, _, hx⟩ := List.mem_flatMap.1 hu
  simp only [cellsT, List.mem_cons, List.not_mem_nil, or_false] at hx
  rcases hx with rfl | rfl | rfl | rfl | rfl <;> rfl
theorem atT_cell {w : World} {b o : Nat} {x : Tc} (h : AtT w b o x) {r : Nat} {u : Value} (hr : r < 5) (hu : (cellsT x)[r]? = some u) : w.cell? ⟨b, o + r, none⟩ = some u := by
  obtain ⟨h0, h1, h2, h3, h4⟩ := h
  match r, hr with
  | 0, _ => simp [cellsT] at hu; subst hu; exact h0
  | 1, _ => simp [cellsT] at hu; subst hu; exact h1
  | 2, _ => simp [cellsT] at hu; subst hu; exact h2
  | 3, _ => simp [cellsT] at hu; subst hu; exact h3
  | 4, _ => simp [cellsT] at hu; subst hu; exact h4
def OwnT (w : World) (base : Nat) (v : Value) (l : List Tc) : Prop := w.ownsRow base 72 5 v l.length (l.flatMap cellsT)
theorem OwnT.nothing (w : World) (base : Nat) : OwnT w base (.slice none 0 0) [] := World.ownsRow_nil w base _ _
theorem OwnT.alloc {w : World} {base : Nat} {v : Value} {l : List Tc} (h : OwnT w base v l) (o : Obj) : OwnT (w.alloc o) base v l := World.ownsRow.alloc h o
theorem OwnT.drew {w : World} {base : Nat} {v : Value} {l : List Tc} (h : OwnT w base v l) : OwnT w.drew base v l := h
theorem OwnT.ls {w : World} {base : Nat} {v : Value} {l : List Tc} (h : OwnT w base v l) : Ts w v l := by
  have h' := h
  rcases h.2 with ⟨rfl, h0⟩ | ⟨g, cap, cur, rfl, hb, hg, hnc, hcm, hcs, htake⟩
  · obtain rfl : l = [] := List.eq_nil_of_length_eq_zero h0
    exact Ts.nothing w
  · refine ⟨_, cap, rfl, hnc, hcm, .inr ⟨g, 0, rfl, ?_, fun i hi => ?_⟩⟩
    · exact (h.lt g rfl).2
    · have hc : ∀ r, r < 5 → w.cell? ⟨g, 0 + i * 5 + r, none⟩ = (cellsT (tth l i))[r]? := fun r hr => by
        rw [Nat.zero_add]
        have := h.cellAt (i * 5 + r) (by omega)
        rw [this, flatT_at l i r hi hr]
      exact ⟨hc 0 (by omega), hc 1 (by omega), hc 2 (by omega), hc 3 (by omega), hc 4 (by omega)⟩
theorem OwnT.base {w : World} {base : Nat} {v : Value} {l : List Tc} (h : OwnT w base v l) : ∀ k, v.ownBlock = some k → base ≤ k := fun k hk => (World.ownsRow.lt h k hk).1
theorem run_append_T (w : World) (ty : TypeId) (base : Nat) (v x : Value) (l1 l2 : List Tc) (hown : OwnT w base v l1) (hx : Ts w x l2) (hn : l1.length + l2.length ≤ 1000) (hbase : base ≤ w.heap.size) (hne : (∃ c m n, v = .slice (some c) m n) ∨ l2 ≠ []) :
    ∃ g cap w', (Builtin.append_ #[38, 38] ty #[v, x]).run Tryz.prog w = .ok (.slice (some ⟨g, 0, none⟩) (l1 ++ l2).length cap) w' ∧ OwnT w' base (.slice (some ⟨g, 0, none⟩) (l1 ++ l2).length cap) (l1 ++ l2) ∧ w.grownBy w' v.ownBlock ∧ (v.ownBlock = some g ∨ g = w.heap.size) := by
  obtain ⟨i, hi, hz, hsz, hby⟩ := infoTouch
  obtain ⟨a, cap, rfl, hl, hm, h⟩ := hx
  rcases h with rfl | ⟨b, o, rfl, hb, hc⟩
  · rcases hown.2 with ⟨rfl, h0⟩ | ⟨g, c, cur, rfl, hbg, hg, hnc, hcm, hcs, htake⟩
    · rcases hne with ⟨_, _, _, hne⟩ | hne
      · simp at hne
      · exact absurd rfl hne
    · refine ⟨g, c, w, ?_, ?_, ⟨rfl, rfl, rfl, Nat.le_refl _, fun _ _ _ => rfl⟩, .inl rfl⟩
      · cases a <;>
        simp [Builtin.append_, run_underlying Tryz.underlying38, sizeOf, typeInfo, hi, Builtin.lenOf, Builtin.firstCells, loadCells, loadCellsFrom, hnc, storeCells]
      · simpa using hown
  · by_cases h0 : l2 = []
    · subst h0
      rcases hown.2 with ⟨rfl, h0⟩ | ⟨g, c, cur, rfl, hbg, hg, hnc, hcm, hcs, htake⟩
      · rcases hne with ⟨_, _, _, hne⟩ | hne
        · simp at hne
        · exact absurd rfl hne
      · refine ⟨g, c, w, ?_, ?_, ⟨rfl, rfl, rfl, Nat.le_refl _, fun _ _ _ => rfl⟩, .inl rfl⟩
        · simp [Builtin.append_, run_underlying Tryz.underlying38, sizeOf, typeInfo, hi, Builtin.lenOf, Builtin.firstCells, loadCells, loadCellsFrom, hnc, storeCells]
        · simpa using hown
    · have hpos : 0 < l2.length := List.length_pos_iff.2 h0
      obtain ⟨g, c, w', hr, ho, hgr, hat, _⟩ := run_append_lies (P := Tryz.prog) w 38 ty base 72 i _ 5 40 Tryz.underlying38 hi hz hsz hby rfl (by omega) v l1.length (l1.flatMap cellsT) hown ⟨b, o, none⟩ l2.length cap (l2.flatMap cellsT) (flatT_len l2)
        (fun j u hu => by
          obtain ⟨i', r, h1, h2, rfl, h4⟩ := flatT_of hu
          rw [add_off, ← Nat.add_assoc]
          exact atT_cell (hc i' h1) h2 h4)
        (flatT_one l2) hpos (by unfold maxLen; omega) (by omega) hbase w.heap.size rfl
      refine ⟨g, c, w', ?_, ?_, hgr, hat⟩
      · rw [List.length_append]; exact hr
      · unfold OwnT; rw [List.length_append, List.flatMap_append]; exact ho
theorem wp_append_T {w : World} {o : Oper} {a : Act} {K : Act → World → Prop} {Q : Exit → Act → World → Prop} (s x : Operand)
    (ho : o.op = .call { callee := .builtin .append, args := #[s, x], argTypes := #[38, 38] })
    (base : Nat) (v u : Value) (l1 l2 : List Tc) (hs : a.eval s = v) (hu : a.eval x = u) (hown : OwnT w base v l1) (hx : Ts w u l2) (hn : l1.length + l2.length ≤ 1000) (hbase : base ≤ w.heap.size) (hne : (∃ c m n, v = .slice (some c) m n) ∨ l2 ≠ [])
    (h : ∀ g cap w', OwnT w' base (.slice (some ⟨g, 0, none⟩) (l1 ++ l2).length cap) (l1 ++ l2) → w.grownBy w' v.ownBlock → Below base w w' → (v.ownBlock = some g ∨ g = w.heap.size) → K (a.put o.dst (.slice (some ⟨g, 0, none⟩) (l1 ++ l2).length cap)) w') : o.wp Tryz.prog a w K Q := by
  obtain ⟨g, cap, w', hr, h2, h3, h4⟩ := run_append_T w o.type base v u l1 l2 hown hx hn hbase hne
  unfold Oper.wp execOp
  simp only [ho, resolve, invoke, builtin, Sem.run_bind, Sem.run_pure, Result.andThen_ok, List.map_toArray, List.map_cons, List.map_nil, hs, hu, hr]
  exact h g cap w' h2 h3 ((Below.refl base w).grown h3 hbase hown.base) h4
theorem step_append_T {w : World} {ops : Array Oper} {o : Oper} {a : Act} {K : Act → World → Prop} {Q : Exit → Act → World → Prop} {E : Prop} (hgd : o.guard = none) (s x : Operand)
    (ho : o.op = .call { callee := .builtin .append, args := #[s, x], argTypes := #[38, 38] })
    (base : Nat) (v u : Value) (l1 l2 : List Tc) (hs : a.eval s = v) (hu : a.eval x = u) (hown : OwnT w base v l1) (hx : Ts w u l2) (hn : l1.length + l2.length ≤ 1000) (hbase : base ≤ w.heap.size) (hne : (∃ c m n, v = .slice (some c) m n) ∨ l2 ≠ [])
    (h : ∀ g cap w', OwnT w' base (.slice (some ⟨g, 0, none⟩) (l1 ++ l2).length cap) (l1 ++ l2) → w.grownBy w' v.ownBlock → Below base w w' → (v.ownBlock = some g ∨ g = w.heap.size) → K (a.put o.dst (.slice (some ⟨g, 0, none⟩) (l1 ++ l2).length cap)) w') :
    if Region.wanted o (yielded ops a.tmps) = true then Oper.wp Tryz.prog o a w K Q else E := by
  have hw : Region.wanted o (yielded ops a.tmps) = true := by simp [Region.wanted, hgd]
  rw [if_pos hw]
  exact wp_append_T s x ho base v u l1 l2 hs hu hown hx hn hbase hne h
theorem ts_oneAt {w : World} {n : Nat} (h : n = w.heap.size) (d p a : Int) (r : Bool) (z : Int) (fr : Nat × Nat) : Ts (w.alloc (.cells #[J d, J p, J a, .bool r, J z] 72 fr)) (.slice (some ⟨n, 0, none⟩) 1 1) [(d, p, a, r, z)] := by
  subst h
  have k := Blk.new w #[J d, J p, J a, .bool r, J z] 72 fr
  refine ⟨_, 1, rfl, Nat.le_refl _, by simp [maxLen], .inr ⟨w.heap.size, 0, rfl, by simp, fun i hi => ?_⟩⟩
  obtain rfl : i = 0 := by simpa using hi
  exact ⟨k.cell 0, k.cell 1, k.cell 2, k.cell 3, k.cell 4⟩
theorem OwnT.lt {w : World} {base : Nat} {v : Value} {l : List Tc} (h : OwnT w base v l) : ∀ k, v.ownBlock = some k → k < w.heap.size := fun k hk => (World.ownsRow.lt h k hk).2
theorem OwnT.keep {w w' : World} {base : Nat} {v : Value} {l : List Tc} (h : OwnT w base v l) (hb : ∀ k, v.ownBlock = some k → w'.heap[k]? = w.heap[k]?) : OwnT w' base v l := by
  obtain ⟨h1, h2⟩ := h
  refine ⟨h1, ?_⟩
  rcases h2 with h2 | ⟨g, cap, cur, rfl, hb0, hg, r⟩
  · exact .inl h2
  · exact .inr ⟨g, cap, cur, rfl, hb0, by rw [hb g (by simp [Value.ownBlock])]; exact hg, r⟩
theorem OwnT.shape {w : World} {base : Nat} {v : Value} {l : List Tc} (h : OwnT w base v l) : ∃ a c, v = .slice a l.length c := by
  rcases h.2 with ⟨rfl, h0⟩ | ⟨g, cap, cur, rfl, hb, hg, hnc, hcm, hcs, htake⟩
  · obtain rfl : l = [] := List.eq_nil_of_length_eq_zero h0
    exact ⟨_, _, rfl⟩
  · exact ⟨_, _, rfl⟩
def Slc (w : World) (v : Value) (l : List Int) : Prop := Sl w v l ∧ ∃ a c, v = .slice a l.length c ∧ l.length ≤ c ∧ c ≤ maxLen
def OwnI (w : World) (base : Nat) (v : Value) (l : List Int) : Prop := w.ownsRow base 3 1 v l.length (l.map (fun z => J z))
theorem OwnI.nothing (w : World) (base : Nat) : OwnI w base (.slice none 0 0) [] := World.ownsRow_nil w base _ _
theorem OwnI.alloc {w : World} {base : Nat} {v : Value} {l : List Int} (h : OwnI w base v l) (o : Obj) : OwnI (w.alloc o) base v l := World.ownsRow.alloc h o
theorem OwnI.drew {w : World} {base : Nat} {v : Value} {l : List Int} (h : OwnI w base v l) : OwnI w.drew base v l := h
theorem OwnI.base {w : World} {base : Nat} {v : Value} {l : List Int} (h : OwnI w base v l) : ∀ k, v.ownBlock = some k → base ≤ k := fun k hk => (World.ownsRow.lt h k hk).1
theorem OwnI.lt {w : World} {base : Nat} {v : Value} {l : List Int} (h : OwnI w base v l) : ∀ k, v.ownBlock = some k → k < w.heap.size := fun k hk => (World.ownsRow.lt h k hk).2
theorem OwnI.sl {w : World} {base : Nat} {v : Value} {l : List Int} (h : OwnI w base v l) (hm : l.length ≤ maxLen) : Sl w v l := by
  have h' := h
  rcases h.2 with ⟨rfl, h0⟩ | ⟨g, cap, cur, rfl, hb, hg, hnc, hcm, hcs, htake⟩
  · obtain rfl : l = [] := List.eq_nil_of_length_eq_zero h0
    exact Sl.nil w _ _
  · exact sl_owned h' hm
theorem OwnI.shape {w : World} {base : Nat} {v : Value} {l : List Int} (h : OwnI w base v l) : ∃ a c, v = .slice a l.length c := by
  rcases h.2 with ⟨rfl, h0⟩ | ⟨g, cap, cur, rfl, hb, hg, hnc, hcm, hcs, htake⟩
  · obtain rfl : l = [] := List.eq_nil_of_length_eq_zero h0
    exact ⟨_, _, rfl⟩
  · exact ⟨_, _, rfl⟩
theorem OwnI.keep {w w' : World} {base : Nat} {v : Value} {l : List Int} (h : OwnI w base v l) (hb : ∀ k, v.ownBlock = some k → w'.heap[k]? = w.heap[k]?) : OwnI w' base v l := by
  obtain ⟨h1, h2⟩ := h
  refine ⟨h1, ?_⟩
  rcases h2 with h2 | ⟨g, cap, cur, rfl, hb0, hg, r⟩
  · exact .inl h2
  · exact .inr ⟨g, cap, cur, rfl, hb0, by rw [hb g (by simp [Value.ownBlock])]; exact hg, r⟩
theorem run_append_I (w : World) (ty : TypeId) (base : Nat) (v x : Value) (l1 l2 : List Int) (hown : OwnI w base v l1) (hx : Sl w x l2) (hn : l1.length + l2.length ≤ 1000) (hbase : base ≤ w.heap.size) (hne : l2 ≠ []) :
    ∃ g cap w', (Builtin.append_ #[22, 22] ty #[v, x]).run Tryz.prog w = .ok (.slice (some ⟨g, 0, none⟩) (l1 ++ l2).length cap) w' ∧ OwnI w' base (.slice (some ⟨g, 0, none⟩) (l1 ++ l2).length cap) (l1 ++ l2) ∧ w.grownBy w' v.ownBlock ∧ (v.ownBlock = some g ∨ g = w.heap.size) := by
  obtain ⟨i, hi, hz, hsz, hby⟩ := infoInt
  obtain ⟨a, cap, rfl, hl, h⟩ := hx
  rcases h with rfl | ⟨b, o, rfl, hb, hc⟩
  · exact absurd rfl hne
  · have hpos : 0 < l2.length := List.length_pos_iff.2 hne
    obtain ⟨g, c, w', hr, ho, hgr, hat, _⟩ := run_append_lies (P := Tryz.prog) w 22 ty base 3 i _ 1 8 Tryz.underlying22 hi hz hsz hby rfl (by omega) v l1.length (l1.map (fun z => J z)) hown ⟨b, o, none⟩ l2.length cap (l2.map (fun z => J z)) (by simp)
      (fun j u hu => by
        rw [List.getElem?_map] at hu
        by_cases hj : j < l2.length
        · rw [List.getElem?_eq_getElem hj] at hu
          simp only [Option.map_some, Option.some.injEq] at hu
          have ha : Addr.add ⟨b, o, none⟩ j = ⟨b, o + j, none⟩ := by unfold Addr.add; split <;> simp_all
          rw [ha, hc j hj, ← hu]
          simp [nth, hj]
        · rw [List.getElem?_eq_none (by omega)] at hu
          simp at hu)
      (fun u hu => by
        obtain ⟨z, _, rfl⟩ := List.mem_map.1 hu
        rfl) hpos (by unfold maxLen; omega) (by omega) hbase w.heap.size rfl
    refine ⟨g, c, w', ?_, ?_, hgr, hat⟩
    · rw [List.length_append]; exact hr
    · unfold OwnI; rw [List.length_append, List.map_append]; exact ho
theorem wp_append_I {w : World} {o : Oper} {a : Act} {K : Act → World → Prop} {Q : Exit → Act → World → Prop} (s x : Operand)
    (ho : o.op = .call { callee := .builtin .append, args := #[s, x], argTypes := #[22, 22] })
    (base : Nat) (v u : Value) (l1 l2 : List Int) (hs : a.eval s = v) (hu : a.eval x = u) (hown : OwnI w base v l1) (hx : Sl w u l2) (hn : l1.length + l2.length ≤ 1000) (hbase : base ≤ w.heap.size) (hne : l2 ≠ [])
    (h : ∀ g cap w', OwnI w' base (.slice (some ⟨g, 0, none⟩) (l1 ++ l2).length cap) (l1 ++ l2) → w.grownBy w' v.ownBlock → Below base w w' → (v.ownBlock = some g ∨ g = w.heap.size) → K (a.put o.dst (.slice (some ⟨g, 0, none⟩) (l1 ++ l2).length cap)) w') : o.wp Tryz.prog a w K Q := by
  obtain ⟨g, cap, w', hr, h2, h3, h4⟩ := run_append_I w o.type base v u l1 l2 hown hx hn hbase hne
  unfold Oper.wp execOp
  simp only [ho, resolve, invoke, builtin, Sem.run_bind, Sem.run_pure, Result.andThen_ok, List.map_toArray, List.map_cons, List.map_nil, hs, hu, hr]
  exact h g cap w' h2 h3 ((Below.refl base w).grown h3 hbase hown.base) h4
theorem wpList_append_I {w : World} {ops : Array Oper} {rest : List Oper} {o : Oper} {a : Act} {Q : Exit → Act → World → Prop} (hgd : o.guard = none) (s x : Operand)
    (ho : o.op = .call { callee := .builtin .append, args := #[s, x], argTypes := #[22, 22] })
    (base : Nat) (v u : Value) (l1 l2 : List Int) (hs : a.eval s = v) (hu : a.eval x = u) (hown : OwnI w base v l1) (hx : Sl w u l2) (hn : l1.length + l2.length ≤ 1000) (hbase : base ≤ w.heap.size) (hne : l2 ≠ [])
    (h : ∀ g cap w', OwnI w' base (.slice (some ⟨g, 0, none⟩) (l1 ++ l2).length cap) (l1 ++ l2) → w.grownBy w' v.ownBlock → Below base w w' → (v.ownBlock = some g ∨ g = w.heap.size) → wpList Tryz.prog ops Q rest (a.put o.dst (.slice (some ⟨g, 0, none⟩) (l1 ++ l2).length cap)) w') :
    wpList Tryz.prog ops Q (o :: rest) a w :=
  wpList_plain hgd fun _ hK => wp_append_I s x ho base v u l1 l2 hs hu hown hx hn hbase hne fun g cap w' h2 h3 hb h4 => hK _ _ (h g cap w' h2 h3 hb h4)
theorem step_append_I {w : World} {ops : Array Oper} {o : Oper} {a : Act} {K : Act → World → Prop} {Q : Exit → Act → World → Prop} {E : Prop} (hgd : o.guard = none) (s x : Operand)
    (ho : o.op = .call { callee := .builtin .append, args := #[s, x], argTypes := #[22, 22] })
    (base : Nat) (v u : Value) (l1 l2 : List Int) (hs : a.eval s = v) (hu : a.eval x = u) (hown : OwnI w base v l1) (hx : Sl w u l2) (hn : l1.length + l2.length ≤ 1000) (hbase : base ≤ w.heap.size) (hne : l2 ≠ [])
    (h : ∀ g cap w', OwnI w' base (.slice (some ⟨g, 0, none⟩) (l1 ++ l2).length cap) (l1 ++ l2) → w.grownBy w' v.ownBlock → Below base w w' → (v.ownBlock = some g ∨ g = w.heap.size) → K (a.put o.dst (.slice (some ⟨g, 0, none⟩) (l1 ++ l2).length cap)) w') :
    if Region.wanted o (yielded ops a.tmps) = true then Oper.wp Tryz.prog o a w K Q else E := by
  have hw : Region.wanted o (yielded ops a.tmps) = true := by simp [Region.wanted, hgd]
  rw [if_pos hw]
  exact wp_append_I s x ho base v u l1 l2 hs hu hown hx hn hbase hne h
theorem sl_oneAt {w : World} {n : Nat} (h : n = w.heap.size) (z : Int) (fr : Nat × Nat) : Sl (w.alloc (.cells #[J z] 3 fr)) (.slice (some ⟨n, 0, none⟩) 1 1) [z] :=
  sl_block (heap_at h) rfl rfl (by simp [maxLen])
end Go.Proofs.YthlhocneggcekaaGreat
