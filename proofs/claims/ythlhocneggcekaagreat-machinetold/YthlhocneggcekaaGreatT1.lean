/-
  Laid together: WordMath, Word3, Word4, Worded, ToldMath, MWalkB, ToldM, MToldWalk, Open0, MachineTold.
-/
import Derived.Test.YthlhocneggcekaaGreatB1
import Derived.Test.YthlhocneggcekaaGreatB2
import Derived.Test.YthlhocneggcekaaGreatB3
import Derived.Test.YthlhocneggcekaaGreatB4
import Derived.Test.YthlhocneggcekaaGreatB5
import Derived.Test.YthlhocneggcekaaGreatB6
import Derived.Test.YthlhocneggcekaaGreatB7
import Derived.Test.YthlhocneggcekaaGreatB8
import Derived.Test.YthlhocneggcekaaGreatB9
import Derived.Test.YthlhocneggcekaaGreatB10
import Derived.Test.YthlhocneggcekaaGreatB11
import Derived.Test.YthlhocneggcekaaGreatB12
import Derived.Test.YthlhocneggcekaaGreatB13
import Derived.Test.YthlhocneggcekaaGreatB14
import Derived.Test.YthlhocneggcekaaGreatB15
import Derived.Test.YthlhocneggcekaaGreatB16
import Derived.Test.YthlhocneggcekaaGreatB17
import Derived.Test.YthlhocneggcekaaGreatB18
import Derived.Test.YthlhocneggcekaaGreatB19
import Derived.Test.YthlhocneggcekaaGreatB20
import Derived.Test.YthlhocneggcekaaGreatB21
import Derived.Test.YthlhocneggcekaaGreatB22
import Derived.Test.YthlhocneggcekaaGreatB23
import Derived.Test.YthlhocneggcekaaGreatB24
import Derived.Test.YthlhocneggcekaaGreatB25
import Derived.Test.YthlhocneggcekaaGreatB26
import Derived.Test.YthlhocneggcekaaGreatB27
import Derived.Test.YthlhocneggcekaaGreatB28
import Derived.Test.YthlhocneggcekaaGreatB29
import Derived.Test.YthlhocneggcekaaGreatB30
import Derived.Test.YthlhocneggcekaaGreatB31
import Derived.Test.YthlhocneggcekaaGreatB32
import Derived.Test.YthlhocneggcekaaGreatB33
import Derived.Test.YthlhocneggcekaaGreatB34
import Derived.Test.YthlhocneggcekaaGreatB35
import Derived.Test.YthlhocneggcekaaGreatB36
import Derived.Test.YthlhocneggcekaaGreatB37
import Derived.Test.YthlhocneggcekaaGreatB38
import Derived.Test.YthlhocneggcekaaGreatB39
import Derived.Test.YthlhocneggcekaaGreatB40
import Derived.Test.YthlhocneggcekaaGreatB41
import Derived.Test.YthlhocneggcekaaGreatB42
import Derived.Test.YthlhocneggcekaaGreatB43
import Derived.Test.YthlhocneggcekaaGreatB44
import Derived.ProofKit
import Derived.OpenShut
import Derived.ShutString
import Derived.ChangeOld
namespace Go.Proofs.YthlhocneggcekaaGreat
open Go.RowKit
theorem f_read {w c d p : Int} {x : Bool} (h : rfE w = 0) (e : rfF w = (c, d, p, x)) : fE c d p = 0 ∧ fW c d p x = w := by
  obtain ⟨h1, h2, h3⟩ := rfE_ok h
  rw [rfF, if_pos h] at e
  simp only [Prod.mk.injEq] at e
  obtain ⟨rfl, rfl, rfl, rfl⟩ := e
  refine ⟨h2, ?_⟩
  rw [fW_ok h2]
  by_cases hx : w / 4096 = 1
  · rw [show decide (w / 4096 = 1) = true from decide_eq_true hx, show fX true = 4096 from rfl]; omega
  · rw [show decide (w / 4096 = 1) = false from decide_eq_false hx, show fX false = 0 from rfl]; omega
theorem rfE_out {z : Int} (h : ¬ (0 ≤ z ∧ z ≤ 65535)) : rfE z = 2 := if_neg h
theorem rfE_bad {z : Int} (h : 0 ≤ z ∧ z ≤ 65535) (k : ¬ (fE (z % 8) (z / 8 % 8) (z / 64 % 64) = 0 ∧ z < 8192)) : rfE z = 3 := by rw [rfE, if_pos h, if_neg k]
theorem rfF_bad {z e : Int} (h : rfE z = e) (hn : ¬ e = 0) : rfF z = (0, 0, 0, false) := if_neg (fun x => hn (h.symm.trans x))
theorem rfF_ok {z : Int} (h : rfE z = 0) : rfF z = (z % 8, z / 8 % 8, z / 64 % 64, decide (z / 4096 = 1)) := if_pos h
theorem rf_way {z : Int} (h : 0 ≤ z ∧ z ≤ 65535) :
    (rfE z = 3 ∧ rfF z = (0, 0, 0, false) ∧ (¬ fE (z % 8) (z / 8 % 8) (z / 64 % 64) = 0 ∨ (fE (z % 8) (z / 8 % 8) (z / 64 % 64) = 0 ∧ ¬ fW (z % 8) (z / 8 % 8) (z / 64 % 64) (z / 4096 % 2 == 1) = z))) ∨
    (rfE z = 0 ∧ rfF z = (z % 8, z / 8 % 8, z / 64 % 64, (z / 4096 % 2 == 1)) ∧ fE (z % 8) (z / 8 % 8) (z / 64 % 64) = 0 ∧ fW (z % 8) (z / 8 % 8) (z / 64 % 64) (z / 4096 % 2 == 1) = z) := by
  have hb : (z / 4096 % 2 == 1) = decide (z / 4096 % 2 = 1) := rfl
  rw [hb]
  by_cases hk : fE (z % 8) (z / 8 % 8) (z / 64 % 64) = 0
  · by_cases hs : z < 8192
    · have hr := rfE_mk h hk hs
      have e : z / 4096 % 2 = z / 4096 := by omega
      have hq := rfF_ok hr
      rw [e]
      exact .inr ⟨hr, hq, hk, (f_read hr hq).2⟩
    · have hr : rfE z = 3 := rfE_bad h fun x => hs x.2
      refine .inl ⟨hr, rfF_bad hr (by decide), .inr ⟨hk, ?_⟩⟩
      rw [fW_ok hk]
      rcases fX_cases (decide (z / 4096 % 2 = 1)) with ⟨_, e⟩ | ⟨_, e⟩ <;> rw [e] <;> omega
  · have hr : rfE z = 3 := rfE_bad h fun x => hk x.1
    exact .inl ⟨hr, rfF_bad hr (by decide), .inl hk⟩
set_option maxHeartbeats 2000000 in
theorem readFault_any (z : Int) (w : World) :
    Calls Tryz.prog 31 #[J z] w fun e w' => (∃ c d p x, e = .returned (.tuple #[.agg #[J c, J d, J p, .bool x], J (rfE z)]) ∧ rfF z = (c, d, p, x)) ∧ Below w.heap.size w w' := by
  cases hw : betweenB 0 65535 z
  · have hr : rfE z = 2 := rfE_out (of_decide_eq_false hw)
    have HO : Hid (rfF z = (0, 0, 0, false)) := rfF_bad hr (by decide)
    rw [hr]
    clear hr
    go_enter Tryz.func31, Tryz.ntmps31
    go_wp2_with fail
    refine (oIsWord_any _ _).mono ?_
    rintro e w1 ⟨rfl, rfl⟩
    rw [hw]
    go_wp2
    refine bodyPost_ret (v := .tuple #[.agg #[J 0, J 0, J 0, .bool false], J 2]) (by simp [results, Tryz.results31, go_sem]) rfl ⟨⟨_, _, _, _, rfl, HO.out⟩, ?_⟩
    exact bel_alloc (Below.refl _ _) _
  have hz := of_between hw
  have hway := rf_way hz
  obtain ⟨h0, h1⟩ := hz
  obtain ⟨eo, heo⟩ : ∃ eo, fE (z % 8) (z / 8 % 8) (z / 64 % 64) = eo := ⟨_, rfl⟩
  obtain ⟨xo, hxo⟩ : ∃ xo, fW (z % 8) (z / 8 % 8) (z / 64 % 64) (z / 4096 % 2 == 1) = xo := ⟨_, rfl⟩
  rw [heo, hxo] at hway
  have HW : Hid _ := hway
  have HE : Hid _ := heo
  have HX : Hid _ := hxo
  clear hway heo hxo
  go_enter Tryz.func31, Tryz.ntmps31
  go_wp2_with fail
  refine (oIsWord_any _ _).mono ?_
  rintro e w1 ⟨rfl, rfl⟩
  rw [hw]
  go_wp2_with fail
  refine (putFault_any _ _ _ _ _).mono ?_
  rintro e w1 ⟨rfl, b1⟩
  rw [HE.out, HX.out]
  have X0 := (Box.newAt (n := w.heap.size) (by simp) 74 #[J 0, J 0, J 0, .bool false]).past (.cells #[J (z % 8), J (z / 8 % 8), J (z / 64 % 64), .bool (z / 4096 % 2 == 1)] 74) |>.keep b1
  have X1 := (Box.newAt (w := w.alloc (.cells #[J 0, J 0, J 0, .bool false] 74)) (n := w.heap.size + 1) (by simp) 74 #[J (z % 8), J (z / 8 % 8), J (z / 64 % 64), .bool (z / 4096 % 2 == 1)]).keep b1
  have B1 : Hid (Below w.heap.size w w1) := bel_trans (bel_alloc (bel_alloc (Below.refl _ _) _) _) b1
  clear b1
  obtain ⟨u0, u1, u2, u3, g0, g1, g2, g3, s0⟩ := X0.four
  obtain ⟨q0, q1, q2, q3, -, -, -, -, s1⟩ := X1.four
  clear X0 X1
  rcases HW.out with ⟨hr, ho, hk | ⟨hk, hx⟩⟩ | ⟨hr, ho, hk, hx⟩
  · have HR : Hid _ := hr
    have HO : Hid _ := ho
    have hq : (eo != 0) = true := by simpa using hk
    clear hr ho HW HE HX hk
    go_wp2
    refine bodyPost_ret (v := .tuple #[.agg #[J 0, J 0, J 0, .bool false], J 3]) (by simp [results, Tryz.results31, go_sem, *]) rfl ⟨⟨_, _, _, _, by rw [HR.out], HO.out⟩, ?_⟩
    exact bel_set4 (by omega) B1.out _ _ _ _
  · have HR : Hid _ := hr
    have HO : Hid _ := ho
    have hq : (xo != z) = true := by simpa using hx
    clear hr ho HW HE HX hx
    subst hk
    go_wp2
    refine bodyPost_ret (v := .tuple #[.agg #[J 0, J 0, J 0, .bool false], J 3]) (by simp [results, Tryz.results31, go_sem, *]) rfl ⟨⟨_, _, _, _, by rw [HR.out], HO.out⟩, ?_⟩
    exact bel_set4 (by omega) B1.out _ _ _ _
  · have HR : Hid _ := hr
    have HO : Hid _ := ho
    clear hr ho HW HE HX
    subst hk hx
    go_wp2
    refine bodyPost_ret (v := .tuple #[.agg #[J (xo % 8), J (xo / 8 % 8), J (xo / 64 % 64), .bool (xo / 4096 % 2 == 1)], J 0]) (by simp [results, Tryz.results31, go_sem, *]) rfl ⟨⟨_, _, _, _, by rw [HR.out], HO.out⟩, ?_⟩
    exact bel_set4 (by omega) B1.out _ _ _ _
theorem readFault_at {z c d p e1 : Int} {x : Bool} {w : World} (hE : rfE z = e1) (hO : rfF z = (c, d, p, x)) :
    Calls Tryz.prog 31 #[J z] w fun e w' => e = .returned (.tuple #[.agg #[J c, J d, J p, .bool x], J e1]) ∧ Below w.heap.size w w' := by
  refine (readFault_any z w).mono ?_
  rintro e w' ⟨⟨c', d', p', x', rfl, h⟩, hb⟩
  rw [hO] at h
  simp only [Prod.mk.injEq] at h
  obtain ⟨rfl, rfl, rfl, rfl⟩ := h
  rw [hE]
  exact ⟨rfl, hb⟩
theorem runW_told {d : Int} {wr : Bool} {ds : List Int} {o : Nat} {b0 : Br} (hd : 0 ≤ d ∧ d ≤ 7) : ∀ (m x : Nat) (k : Int) (s s' : St) (f : Int),
    GoodS s → x = o + s.tch.length → x + m ≤ 512 → (wr = true → ∀ i, i < s.tch.length + m → wordB (nth ds i) = true) → (∃ l, s.b = b0.with l) → runW d wr ds o m x k s = (s', f) → ¬ f = 0 →
    ∃ s1 : St, GoodS s1 ∧ s1.tch = s'.tch ∧ (∃ l, s1.b = b0.with l) ∧ o + s'.tch.length < 512 ∧ tlE s1.zs s1.b f d (((o + s'.tch.length) / 8 : Nat) : Int) = 0 ∧
      s'.zs = tlM s1.zs s1.b f d (((o + s'.tch.length) / 8 : Nat) : Int) wr ∧ s'.b = tlB s1.zs s1.b f d (((o + s'.tch.length) / 8 : Nat) : Int)
  | 0, x, k, s, s', f, hG, hx, hm, hw, hl, e, hf => by
    rw [runW_zero, Prod.mk.injEq] at e
    exact absurd e.2.symm hf
  | m + 1, x, k, s, s', f, hG, hx, hm, hw, hl, e, hf => by
    have hwx : wr = true → wordB (nth ds (x - o)) = true := fun h => hw h (x - o) (by omega)
    have hlen : ∀ k c, (wd d wr ds o k x ⟨s.zs, c, s.dat, s.tch⟩).tch.length = s.tch.length + 1 := fun k c => by simp [wd]
    by_cases hp : x = o ∨ x % 8 = 0
    · obtain ⟨⟨c, k', f'⟩, hg⟩ : ∃ R, goT s.zs s.b d ((x / 8 : Nat) : Int) wr = R := ⟨_, rfl⟩
      have hth : thE s.zs s.b d ((x / 8 : Nat) : Int) = 0 := thE_mk hG.1 hG.2 hd (page_in (by omega))
      obtain ⟨g1, g2, g3, g4, l', g5⟩ := goT_good hth hg
      by_cases hf' : f' = 0
      · subst hf'
        rw [runW_page hp hg] at e
        have hl2 : ∃ l, c = b0.with l := by
          obtain ⟨l, hl⟩ := hl
          exact ⟨l', by rw [g5, hl]; rfl⟩
        exact runW_told hd m (x + 1) k' (wd d wr ds o k' x ⟨s.zs, c, s.dat, s.tch⟩) s' f (wd_good (s := ⟨s.zs, c, s.dat, s.tch⟩) ⟨hG.1, g1⟩ hwx) (by rw [hlen]; omega) (by omega) (fun h i hi => hw h i (by rw [hlen] at hi; omega)) hl2 e hf
      · have hc : c = s.b := g2 hf'
        subst hc
        rw [runW_fault hp hg hf', Prod.mk.injEq] at e
        obtain ⟨rfl, rfl⟩ := e
        have hx' : o + s.tch.length = x := hx.symm
        refine ⟨s, hG, rfl, hl, ?_, ?_, ?_, ?_⟩
        · show o + s.tch.length < 512
          omega
        · show tlE s.zs s.b f' d (((o + s.tch.length) / 8 : Nat) : Int) = 0
          rw [hx', tlE, if_pos (bothB_mk hG.1 hG.2), fE, if_pos ⟨by omega, hd, page_in (by omega)⟩]
        · show _ = tlM s.zs s.b f' d (((o + s.tch.length) / 8 : Nat) : Int) wr
          rw [hx']
        · show _ = tlB s.zs s.b f' d (((o + s.tch.length) / 8 : Nat) : Int)
          rw [hx']
    · rw [runW_word hp] at e
      exact runW_told hd m (x + 1) k _ s' f (wd_good hG hwx) (by rw [show (wd d wr ds o k x s) = wd d wr ds o k x ⟨s.zs, s.b, s.dat, s.tch⟩ from rfl, hlen]; omega) (by omega) (fun h i hi => hw h i (by rw [show (wd d wr ds o k x s) = wd d wr ds o k x ⟨s.zs, s.b, s.dat, s.tch⟩ from rfl, hlen] at hi; omega)) hl e hf
theorem runW_dat {d : Int} {ds : List Int} {o : Nat} : ∀ (m x : Nat) (k : Int) (s : St), (runW d true ds o m x k s).1.dat = s.dat
  | 0, _, _, _ => rfl
  | m + 1, x, k, s => by
    by_cases hp : x = o ∨ x % 8 = 0
    · obtain ⟨⟨c, k', f'⟩, hg⟩ : ∃ R, goT s.zs s.b d ((x / 8 : Nat) : Int) true = R := ⟨_, rfl⟩
      by_cases hf : f' = 0
      · subst hf
        rw [runW_page hp hg, runW_dat m]
        rfl
      · rw [runW_fault hp hg hf]
    · rw [runW_word hp, runW_dat m]
      rfl
theorem do_told {zs : List Int} {b c : Br} {d a n f : Int} {wr : Bool} {ds ms dat : List Int} {tch : List Tc} (hE : doE zs b d a n wr ds = 0) (hR : doR zs b d a n wr ds = (⟨ms, c, dat, tch⟩, f)) :
    (f = 0 → (tch.length : Int) = n) ∧ (wr = false → dat.length = tch.length) ∧ (wr = true → dat = []) ∧
    (¬ f = 0 → ¬ (c.fp = b.fp ∧ c.fh = b.fh ∧ c.ft = b.ft) → rfE (nth ms (b.fp * 8 + b.ft).toNat) = 0 ∧ rfF (nth ms (b.fp * 8 + b.ft).toNat) = (f, d, (((a.toNat + tch.length) / 8 : Nat) : Int), wr)) := by
  obtain ⟨g1, g2, g3, g4, g5, g6, g7, g8, g9, g10, g11⟩ := do_held hE hR
  obtain ⟨hz, hb, hc⟩ := doE_ok hE
  obtain ⟨hn, hd, ha, hln, hal⟩ := ckA_ok hc
  refine ⟨fun e => ?_, fun e => (g10 e).1, fun e => ?_, fun hf hne => ?_⟩
  · rw [decide_eq_true e] at g5
    exact of_decide_eq_true g5.symm
  · subst e
    have := runW_dat (d := d) (ds := ds) (o := a.toNat) n.toNat a.toNat 0 ⟨zs, b, [], []⟩
    rw [doR, if_pos hE] at hR
    rw [hR] at this
    exact this
  · rw [doR, if_pos hE] at hR
    have hdl : wr = true → ds.length = n.toNat := fun e => by rw [e, needA, if_pos rfl] at hln; omega
    have hw : wr = true → ∀ i, i < 0 + n.toNat → wordB (nth ds i) = true := fun e i hi => all_nth hal (by have := hdl e; omega)
    obtain ⟨s1, h1, h2, ⟨l, h3⟩, h4, h5, h6, h7⟩ := runW_told (b0 := b) hd n.toNat a.toNat 0 ⟨zs, b, [], []⟩ _ _ ⟨hz, hb⟩ rfl (by omega) hw ⟨_, (with_self b).symm⟩ hR hf
    dsimp only at h2 h4 h5 h6 h7
    have hlost : ¬ fullB s1.b = true := by
      intro e
      apply hne
      rw [h7, tlB, if_pos h5, if_pos e, h3]
      exact ⟨rfl, rfl, rfl⟩
    rw [tlM, if_pos h5, if_neg hlost] at h6
    have hfp : s1.b.fp = b.fp ∧ s1.b.ft = b.ft := by rw [h3]; exact ⟨rfl, rfl⟩
    rw [hfp.1, hfp.2] at h6
    obtain ⟨_, _, _, _, _, r6⟩ := chkB_ok hb
    obtain ⟨q1, q2, q3⟩ := chkR_ok r6
    have q1 := pageR_in q1
    have q3 := stepR_in q3
    have hl : (b.fp * 8 + b.ft).toNat < s1.zs.length := by rw [(chk_ok h1.1).1]; omega
    have hnw : nth ms (b.fp * 8 + b.ft).toNat = fW f d (((a.toNat + tch.length) / 8 : Nat) : Int) wr := by rw [h6, nth_set_eq hl]; rfl
    rw [hnw]
    exact f_back (tlE_ok h5).2.2
def LpI (P : Mc → Prop) (S : Nat) (w wx : World) : Prop := (∃ cs m, Box wx S 33 cs ∧ IsM wx m cs ∧ P m) ∧ Below w.heap.size w wx
theorem hpE_ask {m : Mc} {x : Hp} (h : hpE m x = 0) (hk : x.kind = 3) : chkM m = 0 ∧ ckA x.d x.a x.n x.wr x.ds = 0 := by
  unfold hpE at h
  by_cases hc : chkM m = 0
  · rw [if_pos hc, if_neg (by omega), if_neg (by omega), if_pos hk] at h; exact ⟨hc, h⟩
  · rw [if_neg hc] at h; exact absurd h hc
theorem hp_told {m y : Mc} {x : Hp} {t : To} (h : hpE m x = 0) (hr : hpR m x = (y, t)) (hk : x.kind = 3) :
    (t.done = decide (t.f = 0)) ∧ (t.f = 0 → (t.tch.length : Int) = x.n) ∧ (x.wr = false → t.dat.length = t.tch.length) ∧ (x.wr = true → t.dat = []) ∧ (y.b.fp = m.b.fp ∧ y.b.fh = m.b.fh) ∧ y.zs.length = 512 ∧
    (0 ≤ m.b.fp ∧ m.b.fp ≤ 63 ∧ 0 ≤ m.b.ft ∧ m.b.ft ≤ 7) ∧ (0 ≤ x.a ∧ x.a ≤ 511 ∧ t.tch.length ≤ 1000) ∧
    (¬ t.f = 0 → ¬ y.b.ft = m.b.ft → rfE (nth y.zs (m.b.fp * 8 + m.b.ft).toNat) = 0 ∧ rfF (nth y.zs (m.b.fp * 8 + m.b.ft).toNat) = (t.f, x.d, (((x.a.toNat + t.tch.length) / 8 : Nat) : Int), x.wr)) := by
  obtain ⟨hcm, hck⟩ := hpE_ask h hk
  have hgood := hp_good h hr
  obtain ⟨hz, hh, hb⟩ := chkM_ok hcm
  obtain ⟨gz, -, -⟩ := chkM_ok hgood.2.1
  have hE : doE m.zs m.b x.d x.a x.n x.wr x.ds = 0 := doE_mk hz hb hck
  obtain ⟨hn, hd, ha, -, -⟩ := ckA_ok hck
  rw [hpR, if_pos h, hpG, if_neg (by omega), if_neg (by omega), if_pos hk] at hr
  obtain ⟨⟨⟨ms, c, dat, tch⟩, f⟩, hR⟩ : ∃ R, doR m.zs m.b x.d x.a x.n x.wr x.ds = R := ⟨_, rfl⟩
  obtain ⟨g1, g2, g3, g4⟩ := do_told hE hR
  obtain ⟨l', ft', lo', hc⟩ := do_br hE hR
  obtain ⟨k1, -, k3⟩ := chkR_ok (chkB_ok hb).2.2.2.2.2
  have k1 := of_decide_eq_true k1
  have k3 := of_decide_eq_true k3
  have k5 := (do_held hE hR).2.2.1
  rw [hR] at hr
  simp only [Prod.mk.injEq] at hr
  obtain ⟨rfl, rfl⟩ := hr
  dsimp only at gz g4 ⊢
  refine ⟨rfl, g1, g2, g3, by rw [hc]; exact ⟨rfl, rfl⟩, (chk_ok gz).1, ⟨by omega, by omega, by omega, by omega⟩, ⟨by omega, by omega, by omega⟩, fun hf hft => g4 hf (fun e => hft e.2.2)⟩
theorem wr1 {FP : Nat} (h : FP ≤ 63) : wrap64 ((FP : Int) * 8) = (FP : Int) * 8 := by unfold wrap64; omega
theorem wr2 {FP FT : Nat} (h : FP ≤ 63) (k : FT ≤ 7) : wrap64 ((FP : Int) * 8 + (FT : Int)) = (FP : Int) * 8 + (FT : Int) ∧ (0 : Int) ≤ (FP : Int) * 8 + (FT : Int) ∧ (FP : Int) * 8 + (FT : Int) < 512 ∧ ((FP : Int) * 8 + (FT : Int)).toNat = FP * 8 + FT := by
  refine ⟨?_, by omega, by omega, by omega⟩
  unfold wrap64; omega
theorem wr3 {A n : Nat} (h : A ≤ 511) (k : n ≤ 1000) : wrap64 ((A : Int) + (n : Int)) = (A : Int) + (n : Int) := by unfold wrap64; omega
theorem wr4 (A n PG : Nat) (h : (A + n) / 8 = PG) (hA : A ≤ 511) (hn : n ≤ 1000) : ((A : Int) + (n : Int)) / 8 = (PG : Int) ∧ Int.tdiv ((A : Int) + (n : Int)) 8 = (PG : Int) ∧ wrap64 (PG : Int) = (PG : Int) := by
  refine ⟨by omega, ?_, ?_⟩
  · rw [Int.tdiv_eq_ediv_of_nonneg (by omega)]; omega
  · unfold wrap64; omega
set_option maxRecDepth 10000 in
set_option maxHeartbeats 4000000 in
theorem mtold_row {m : Mc} {l : List Hp} {cs : Array Value} {v : Value} {w : World} (hm : IsM w m cs) (hl : Hps w v l) : Calls Tryz.prog 8 #[.agg cs, v] w fun e w' => e = .returned (.bool true) ∧ Below w.heap.size w w' := by
  have HL : Hid (Hps w v l) := hl
  obtain ⟨va, vk, rfl⟩ := hl.shape
  have HM : Hid (IsM w m cs) := hm
  obtain ⟨a1, n1, c1, a2, n2, c2, a3, n3, c3, rfl, h1, h2, h3⟩ := hm
  clear hl h1 h2 h3
  have X0 := Box.newAt (w := w) (n := w.heap.size) rfl 33 #[.slice a1 n1 c1, J m.h.pc, .slice a2 n2 c2, .bool m.h.done, J m.b.mode, J m.b.base, .slice a3 n3 c3, J m.b.op, J m.b.oh, J m.b.ot, .bool m.b.stop, J m.b.fen, J m.b.fp, J m.b.fh, J m.b.ft, .bool m.b.lost]
  have BW : Hid (Below w.heap.size w (w.alloc (.cells #[.slice a1 n1 c1, J m.h.pc, .slice a2 n2 c2, .bool m.h.done, J m.b.mode, J m.b.base, .slice a3 n3 c3, J m.b.op, J m.b.oh, J m.b.ot, .bool m.b.stop, J m.b.fen, J m.b.fp, J m.b.fh, J m.b.ft, .bool m.b.lost] 33))) := bel_alloc (Below.refl w.heap.size w) _
  have M0 : IsM (w.alloc (.cells #[.slice a1 n1 c1, J m.h.pc, .slice a2 n2 c2, .bool m.h.done, J m.b.mode, J m.b.base, .slice a3 n3 c3, J m.b.op, J m.b.oh, J m.b.ot, .bool m.b.stop, J m.b.fen, J m.b.fp, J m.b.fh, J m.b.ft, .bool m.b.lost] 33)) m #[.slice a1 n1 c1, J m.h.pc, .slice a2 n2 c2, .bool m.h.done, J m.b.mode, J m.b.base, .slice a3 n3 c3, J m.b.op, J m.b.oh, J m.b.ot, .bool m.b.stop, J m.b.fen, J m.b.fp, J m.b.fh, J m.b.ft, .bool m.b.lost] := HM.out.keep BW.out
  go_enter Tryz.func8, Tryz.ntmps8
  go_upto_region 1 with fail
  generalize (w.alloc (.cells #[.slice a1 n1 c1, J m.h.pc, .slice a2 n2 c2, .bool m.h.done, J m.b.mode, J m.b.base, .slice a3 n3 c3, J m.b.op, J m.b.oh, J m.b.ot, .bool m.b.stop, J m.b.fen, J m.b.fp, J m.b.fh, J m.b.ft, .bool m.b.lost] 33)) = W at *
  obtain ⟨⟨i0, i1, i2, i3⟩, ⟨j0, j1, j2, j3, j4, j5, j6, j7, j8, j9, j10, j11⟩, s0⟩ := X0.sixteen
  go_wp2_with fail
  refine (driven_true _).mono ?_
  rintro e w1 ⟨rfl, b1⟩
  clear i0 i1 i2 i3 j0 j1 j2 j3 j4 j5 j6 j7 j8 j9 j10 j11 s0
  have X0 := X0.keep b1
  have M0 := M0.keep b1
  have B1 : Hid (Below w.heap.size w w1) := bel_trans BW.out b1
  clear b1 BW
  obtain ⟨⟨i0, i1, i2, i3⟩, ⟨j0, j1, j2, j3, j4, j5, j6, j7, j8, j9, j10, j11⟩, s0⟩ := X0.sixteen
  go_wp2_with fail
  refine (mCheck_row M0).mono ?_
  rintro e wB ⟨rfl, b2⟩
  clear i0 i1 i2 i3 j0 j1 j2 j3 j4 j5 j6 j7 j8 j9 j10 j11 s0
  have X0 := X0.keep b2
  have M0 := M0.keep b2
  have B2 : Hid (Below w.heap.size w wB) := bel_trans B1.out b2
  clear b2 B1
  by_cases hE : chkM (m) = 0
  rotate_left
  · obtain ⟨z, hz⟩ : ∃ z, chkM (m) = z := ⟨_, rfl⟩
    rw [hz] at hE ⊢
    have q : (z != 0) = true := by simpa using hE
    clear hz hE
    go_wp2_with fail
    refine (driven_true _).mono ?_
    rintro e w3 ⟨rfl, b3⟩
    go_wp2_with fail
    go_ret
    exact ⟨rfl, bel_trans B2.out b3⟩
  rw [hE]
  have q : ((0 : Int) != 0) = false := rfl
  go_upto_region 3 with fail
  clear q hE
  go_cut [26, 27, 28] from 22 to 25 (fun x y z wx => ∃ (q : Nat) (b : Option Addr) (c : Nat), x = .slice b q c ∧ y = J q ∧ z = J 0 ∧ q ≤ l.length ∧ q ≤ 60 ∧ (q = 0 ∨ b = va) ∧ wx = wB)
  case first =>
    have hcc : l.length ≤ vk ∧ vk ≤ maxLen := by
      obtain ⟨a', c', e', q1, q2, -⟩ := HL.out
      simp only [Value.slice.injEq] at e'
      rw [e'.2.2]; exact ⟨q1, q2⟩
    obtain ⟨hc1, hc2⟩ := hcc
    unfold maxLen at hc2
    by_cases hl0 : l.length = 0
    · obtain rfl : l = [] := List.eq_nil_of_length_eq_zero hl0
      cases va with
      | none =>
        go_wp2
        go_meet
        exact ⟨0, _, _, rfl, rfl, rfl, Nat.zero_le _, by omega, .inl rfl, rfl⟩
      | some ad =>
        by_cases hc0 : vk = 0
        · subst hc0
          go_wp2
          go_meet
          exact ⟨0, _, _, rfl, rfl, rfl, Nat.zero_le _, by omega, .inl rfl, rfl⟩
        · go_wp2
          go_meet
          exact ⟨0, _, _, rfl, rfl, rfl, Nat.zero_le _, by omega, .inl rfl, rfl⟩
    · obtain ⟨b2, o2, hva, -⟩ := hps_at HL.out (Below.refl _ _) (i := 0) (by omega)
      subst hva
      have hc0 : ¬ vk = 0 := by omega
      by_cases h12 : l.length ≤ 60
      · have h12' : (l.length : Int) ≤ 60 := by omega
        have hcl : (l.length : Int) ≤ vk := by omega
        go_wp2
        go_meet
        exact ⟨l.length, _, _, rfl, rfl, rfl, Nat.le_refl _, h12, .inr rfl, rfl⟩
      · have h12' : ¬ (l.length : Int) ≤ 60 := by omega
        have h12'' : (60 : Int) < l.length := by omega
        have hcl : (60 : Int) ≤ vk := by omega
        go_wp2
        go_meet
        exact ⟨60, _, _, rfl, rfl, rfl, by omega, Nat.le_refl _, .inr rfl, rfl⟩
  case rest =>
    obtain ⟨q, b9, c9, rfl, rfl, rfl, hq, hq60, hqb, rfl⟩ := hcut
    obtain ⟨wA, rfl⟩ : ∃ wA, wA = wc := ⟨wc, rfl⟩
    obtain ⟨P, hPdef⟩ : ∃ P : Mc → Prop, P = fun _ => True := ⟨_, rfl⟩
    have HI : Hid (LpI P w.heap.size w wA) := ⟨⟨_, _, X0, M0, by rw [hPdef]; trivial⟩, B2.out⟩
    clear X0 M0 B2
    go_wp2
    go_loopw [6, 7, 8, 9, 10, 11, 12, 13, 28] (fun _ _ _ _ _ _ _ _ s wx => ∃ i : Nat, s = J i ∧ i ≤ q ∧ LpI P w.heap.size w wx) (fun _ _ _ _ _ _ _ _ s _ => q - (intOf s).toNat)
    case atStart => exact ⟨0, rfl, Nat.zero_le _, HI.out⟩
    case round =>
      obtain ⟨i, rfl, hiq, hR⟩ := hrel
      clear HI
      by_cases hlt : i < q
      rotate_left
      · obtain rfl : i = q := by omega
        have HB : Hid (Below w.heap.size w wr) := hR.2
        clear hR
        go_wp2
        go_ret
        exact ⟨rfl, HB.out⟩
      obtain ⟨⟨cs0, now, X0, M0, hP⟩, hbel⟩ := hR
      have HB : Hid (Below w.heap.size w wr) := hbel
      have HP : Hid (P now) := hP
      clear hP hbel
      obtain ⟨hs0, ha0⟩ := M0.size
      obtain ⟨b, o, hva, hbl, hA⟩ := hps_at HL.out HB.out (i := i) (by omega)
      have hb9 : b9 = va := by
        rcases hqb with e | e
        · omega
        · exact e
      subst hb9
      subst hva
      obtain ⟨X, hX⟩ : ∃ X, hpth l i = X := ⟨_, rfl⟩
      rw [hX] at hA
      clear hX
      obtain ⟨u, q0, q1, q2, q3, q4, q5, q6, hS⟩ := hA
      have HSd : Hid (Sl wr u X.ds) := hS.1
      obtain ⟨da, dn, dc, rfl⟩ : ∃ a k c, u = .slice a k c := let ⟨a, c, e, _⟩ := hS.1; ⟨a, _, c, e⟩
      have hlt1 : (i : Int) < (q : Int) := by omega
      clear hS
      have s0 := X0.lt
      have X0a := X0.past (.cells #[J X.kind, J X.num, J X.d, J X.a, J X.n, .bool X.wr, .slice da dn dc] 37)
      go_wp2_with (first
        | fail
        | (refine wpList_load_row rfl 33 (.tmp 2) rfl w.heap.size rfl _ _ _ _ X0a Tryz.underlying33 rfl (by rw [infoM, hs0]) ?_))
      have BX : Hid (Below wr.heap.size wr (wr.alloc (.cells #[J X.kind, J X.num, J X.d, J X.a, J X.n, .bool X.wr, .slice da dn dc] 37))) := bel_alloc (Below.refl _ _) _
      have X6 : Box (wr.alloc (.cells #[J X.kind, J X.num, J X.d, J X.a, J X.n, .bool X.wr, .slice da dn dc] 37)) wr.heap.size 37 #[J X.kind, J X.num, J X.d, J X.a, J X.n, .bool X.wr, .slice da dn dc] := Box.newAt rfl _ _
      refine (mDo_row (m := now) (x := X) (M0.keep BX.out) ⟨_, _, _, rfl, HSd.out.keep BX.out⟩).mono ?_
      rintro e w4 ⟨cs1, cs2, rfl, hM, hT, o1, o2, b4⟩
      have X6 := X6.keep b4
      have B4 : Hid (Below wr.heap.size wr w4) := bel_trans BX.out b4
      have z6 : wr.heap.size < w4.heap.size := X6.lt
      obtain ⟨hs1, ha1⟩ := hM.size
      obtain ⟨⟨Y, T⟩, hYT⟩ : ∃ R, hpR now X = R := ⟨_, rfl⟩
      have HYT : Hid (hpR now X = (Y, T)) := hYT
      rw [hYT] at hM hT
      obtain ⟨a4, n4, c4, a5, n5, c5, rfl, hd4, ht5⟩ := hT
      dsimp only at hM hd4 ht5
      obtain ⟨E, hE⟩ : ∃ E, hpE now X = E := ⟨_, rfl⟩
      have HEE : Hid (hpE now X = E) := hE
      rw [hE]
      clear hE hYT b4 X0a q0 q1 q2 q3 q4 q5 q6
      obtain ⟨n7, hn7⟩ : ∃ n, w4.heap.size = n := ⟨_, rfl⟩
      obtain ⟨n8, hn8⟩ : ∃ n, n7 + 1 = n := ⟨_, rfl⟩
      have X7 : Box ((w4.alloc (.cells #[.slice none 0 0, J 0, .slice none 0 0, .bool false, J 0, J 0, .slice none 0 0, J 0, J 0, J 0, .bool false, J 0, J 0, J 0, J 0, .bool false] 33)).alloc (.cells #[.bool false, .slice none 0 0, J 0, .slice none 0 0] 40)) n7 33 zeroM := (Box.newAt hn7.symm _ _).past _
      have X8 : Box ((w4.alloc (.cells #[.slice none 0 0, J 0, .slice none 0 0, .bool false, J 0, J 0, .slice none 0 0, J 0, J 0, J 0, .bool false, J 0, J 0, J 0, J 0, .bool false] 33)).alloc (.cells #[.bool false, .slice none 0 0, J 0, .slice none 0 0] 40)) n8 40 zeroT := Box.newAt (by simp; omega) _ _
      have h78 : n7 ≠ n8 := by omega
      have X0 := ((((X0.keep B4.out).past (.cells #[.slice none 0 0, J 0, .slice none 0 0, .bool false, J 0, J 0, .slice none 0 0, J 0, J 0, J 0, .bool false, J 0, J 0, J 0, J 0, .bool false] 33)).past (.cells #[.bool false, .slice none 0 0, J 0, .slice none 0 0] 40)).otherRow (show w.heap.size ≠ n7 by omega) cs1).otherRow (show w.heap.size ≠ n8 by omega) #[.bool T.done, .slice a4 n4 c4, J T.f, .slice a5 n5 c5]
      have X6 := (((X6.past (.cells #[.slice none 0 0, J 0, .slice none 0 0, .bool false, J 0, J 0, .slice none 0 0, J 0, J 0, J 0, .bool false, J 0, J 0, J 0, J 0, .bool false] 33)).past (.cells #[.bool false, .slice none 0 0, J 0, .slice none 0 0] 40)).otherRow (show wr.heap.size ≠ n7 by omega) cs1).otherRow (show wr.heap.size ≠ n8 by omega) #[.bool T.done, .slice a4 n4 c4, J T.f, .slice a5 n5 c5]
      have B5 : Hid (Below wr.heap.size wr ((((w4.alloc (.cells #[.slice none 0 0, J 0, .slice none 0 0, .bool false, J 0, J 0, .slice none 0 0, J 0, J 0, J 0, .bool false, J 0, J 0, J 0, J 0, .bool false] 33)).alloc (.cells #[.bool false, .slice none 0 0, J 0, .slice none 0 0] 40)).setRow n7 cs1).setRow n8 #[.bool T.done, .slice a4 n4 c4, J T.f, .slice a5 n5 c5])) := bel_setRow (by omega) (bel_setRow (by omega) (bel_alloc (bel_alloc B4.out _) _) _) _
      have K5B : Below w4.heap.size w4 ((((w4.alloc (.cells #[.slice none 0 0, J 0, .slice none 0 0, .bool false, J 0, J 0, .slice none 0 0, J 0, J 0, J 0, .bool false, J 0, J 0, J 0, J 0, .bool false] 33)).alloc (.cells #[.bool false, .slice none 0 0, J 0, .slice none 0 0] 40)).setRow n7 cs1).setRow n8 #[.bool T.done, .slice a4 n4 c4, J T.f, .slice a5 n5 c5]) := bel_setRow (by omega) (bel_setRow (by omega) (bel_alloc (bel_alloc (Below.refl _ _) _) _) _) _
      have hM := hM.keep K5B
      have hd4 := hd4.keep K5B
      have ht5 := ht5.keep K5B
      have M0 := M0.keep B5.out
      have Z7 := X7
      have Z8 := X8.otherRow h78.symm cs1
      have X7 := (X7.setRow cs1).otherRow h78 #[.bool T.done, .slice a4 n4 c4, J T.f, .slice a5 n5 c5]
      have X8 := Z8.setRow #[.bool T.done, .slice a4 n4 c4, J T.f, .slice a5 n5 c5]
      have o1 := o1.less (a := fun q => q < wr.heap.size) (fun q hq => by simp; omega)
      have z07 : w.heap.size < n7 := by omega
      have z06 : w.heap.size < wr.heap.size := s0
      clear K5B
      go_upto_region 7 with (first
        | fail
        | (refine wpList_store_row rfl 33 (.tmp 7) (.tmp 36) rfl n7 cs1 rfl rfl _ _ Z7 (by rw [infoM, hs1]) (by rw [hs1]; rfl) ha1 ?_)
        | (refine wpList_store_row rfl 40 (.tmp 8) (.tmp 37) rfl n8 _ rfl rfl _ _ Z8 (by rw [infoTo]; rfl) rfl (by simp [Value.oneCell']) ?_))
      clear Z7 Z8 hn7 hn8 B4 BX
      generalize ((((w4.alloc (.cells #[.slice none 0 0, J 0, .slice none 0 0, .bool false, J 0, J 0, .slice none 0 0, J 0, J 0, J 0, .bool false, J 0, J 0, J 0, J 0, .bool false] 33)).alloc (.cells #[.bool false, .slice none 0 0, J 0, .slice none 0 0] 40)).setRow n7 cs1).setRow n8 #[.bool T.done, .slice a4 n4 c4, J T.f, .slice a5 n5 c5]) = w5 at *
      have HBF : Hid (Below w.heap.size w w5) := bel_trans HB.out B5.out
      clear HB B5
      by_cases h0 : E = 0
      rotate_left
      · have q : (E != 0) = true := by simpa using h0
        have HI : Hid (LpI P w.heap.size w w5) := ⟨⟨cs0, now, X0, M0, HP.out⟩, HBF.out⟩
        clear h0 X0 X6 X7 X8 hM hd4 ht5 M0 hs0 ha0 hs1 ha1
        go_wp2_with fail
        exact ⟨⟨i + 1, by go_num, by omega, HI.out⟩, by simp [intOf]; omega⟩
      subst h0
      have hfin : ∀ w6, w6 = w5 ∨ Below w5.heap.size w5 w6 → LpI P w.heap.size w (w6.setRow (w.heap.size) cs1) := fun w6 h6 => by
        have b6 : Below w5.heap.size w5 w6 := by
          rcases h6 with rfl | h6
          · exact Below.refl _ _
          · exact h6
        exact ⟨⟨_, _, (X0.keep b6).setRow cs1, (hM.keep b6).kept ((KeptB.refl (fun q => q = w.heap.size) w6).setRow (n := w.heap.size) (.inl rfl) cs1) o1 (fun q hq => by omega), by rw [hPdef]; trivial⟩, bel_setRow (Nat.le_refl _) (bel_trans HBF.out b6) _⟩
      have HFN : Hid (∀ w6, w6 = w5 ∨ Below w5.heap.size w5 w6 → LpI P w.heap.size w (w6.setRow (w.heap.size) cs1)) := hfin
      clear hfin
      have q : ((0 : Int) != 0) = false := rfl
      by_cases hk : X.kind = 3
      rotate_left
      · have qk : (X.kind == 3) = false := by simpa using hk
        have HI : Hid (LpI P w.heap.size w (w5.setRow (w.heap.size) cs1)) := HFN.out w5 (.inl rfl)
        obtain ⟨⟨k0, k1, k2, k3, k4, k5, k6⟩, sH⟩ := X6.seven
        clear X6 X8 hd4 ht5 hM M0
        go_upto_region 17 with fail
        clear k0 k1 k2 k3 k4 k5 k6 sH q qk
        go_wp2_with (first
          | fail
          | (refine wpList_load_row rfl 33 (.tmp 7) rfl n7 rfl _ _ _ _ X7 Tryz.underlying33 rfl (by rw [infoM, hs1]) ?_)
          | (refine wpList_store_row rfl 33 (.tmp 2) (.tmp 141) rfl (w.heap.size) cs1 rfl rfl _ _ X0 (by rw [infoM, hs1]) (by rw [hs1]; exact hs0) ha1 ?_))
        exact ⟨⟨i + 1, by go_num, by omega, HI.out⟩, by simp [intOf]; omega⟩
      have HT := hp_told HEE.out HYT.out hk
      obtain ⟨td, tdat, tf, ttch⟩ := T
      dsimp only at X8 hd4 ht5 HT
      obtain ⟨t1, t2, t3, t4, ⟨t5, t6⟩, t7, ⟨t8, t9, t10, t11⟩, ⟨t12, t13, t14⟩, t15⟩ := HT
      have HT15 : Hid (¬ tf = 0 → ¬ Y.b.ft = now.b.ft → _) := t15
      obtain ⟨rfl, hnd⟩ : n4 = tdat.length ∧ True := by
        obtain ⟨_, _, e', -⟩ := hd4
        simp only [Value.slice.injEq] at e'
        exact ⟨e'.2.1, trivial⟩
      obtain ⟨rfl, hnt⟩ : n5 = ttch.length ∧ True := by
        obtain ⟨_, _, e', -⟩ := ht5
        simp only [Value.slice.injEq] at e'
        exact ⟨e'.2.1, trivial⟩
      have hda : X.wr = false → ((tdat.length : Int) != (ttch.length : Int)) = false := fun hw => by rw [t3 hw]; simp
      have hdb : X.wr = true → tdat.length = 0 := fun hw => by rw [t4 hw]; rfl
      have HDD : Hid ((if X.wr = true then True else ((tdat.length : Int) != (ttch.length : Int)) = false) ∧ (X.wr = true → tdat.length = 0)) := by
        refine ⟨?_, hdb⟩
        split
        · trivial
        · exact hda (by simpa using ‹¬ X.wr = true›)
      clear hnd hnt t15 t3 t4 hd4 ht5
      obtain ⟨d1, l1, f1, d2, l2, f2, d3, l3, f3, hcs0, -, -, -⟩ := M0
      subst hcs0
      rw [hk] at X6
      obtain ⟨WR, hWR⟩ : ∃ b, X.wr = b := ⟨_, rfl⟩
      obtain ⟨CT, hCT⟩ : ∃ b, X.n = b := ⟨_, rfl⟩
      rw [hWR, hCT] at X6
      rw [hWR] at hda hdb HT15 HDD
      rw [hCT] at t2
      obtain ⟨z0, z1, z2, z3, -, -, -, -, s8⟩ := X8.four
      obtain ⟨⟨k0, k1, k2, k3, k4, k5, k6⟩, sH⟩ := X6.seven
      obtain ⟨⟨i0, i1, i2, i3⟩, ⟨j0, j1, j2, j3, j4, j5, j6, j7, j8, j9, j10, j11⟩, s0'⟩ := X0.sixteen
      have X0p := X0.past (.cells #[J now.b.fp, J now.b.fh, J now.b.ft] 29)
      have X7p := X7.past (.cells #[J now.b.fp, J now.b.fh, J now.b.ft] 29)
      have HI : Hid (LpI P w.heap.size w ((w5.alloc (.cells #[J now.b.fp, J now.b.fh, J now.b.ft] 29)).setRow (w.heap.size) cs1)) := HFN.out _ (.inr (bel_alloc (Below.refl _ _) _))
      have hs0 : (#[] : Array Value).size = 0 := rfl
      by_cases hf : tf = 0
      · have htd : td = true := t1.trans (decide_eq_true hf)
        have hct := t2 hf
        subst htd hf
        subst hct
        clear t1 t2 X6 X8 X0 X7 hM
        cases WR
        · have qd := hda rfl
          clear hda hdb
          go_upto_region 17 with fail
          clear z0 z1 z2 z3 s8 k0 k1 k2 k3 k4 k5 k6 sH i0 i1 i2 i3 j0 j1 j2 j3 j4 j5 j6 j7 j8 j9 j10 j11 s0' q qd
          go_wp2_with (first
            | fail
            | (refine wpList_load_row rfl 33 (.tmp 7) rfl n7 rfl _ _ _ _ X7p Tryz.underlying33 rfl (by rw [infoM, hs1]) ?_)
            | (refine wpList_store_row rfl 33 (.tmp 2) (.tmp 141) rfl (w.heap.size) cs1 rfl rfl _ _ X0p (by rw [infoM, hs1]) (by rw [hs1]; rfl) ha1 ?_))
          exact ⟨⟨i + 1, by go_num, by omega, HI.out⟩, by simp [intOf]; omega⟩
        · have qd := hdb rfl
          clear hda hdb
          rw [qd] at z1
          go_upto_region 17 with fail
          clear z0 z1 z2 z3 s8 k0 k1 k2 k3 k4 k5 k6 sH i0 i1 i2 i3 j0 j1 j2 j3 j4 j5 j6 j7 j8 j9 j10 j11 s0' q
          go_wp2_with (first
            | fail
            | (refine wpList_load_row rfl 33 (.tmp 7) rfl n7 rfl _ _ _ _ X7p Tryz.underlying33 rfl (by rw [infoM, hs1]) ?_)
            | (refine wpList_store_row rfl 33 (.tmp 2) (.tmp 141) rfl (w.heap.size) cs1 rfl rfl _ _ X0p (by rw [infoM, hs1]) (by rw [hs1]; rfl) ha1 ?_))
          exact ⟨⟨i + 1, by go_num, by omega, HI.out⟩, by simp [intOf]; omega⟩
      · have htd : td = false := t1.trans (decide_eq_false hf)
        subst htd
        have qf : (tf == 0) = false := by simpa using hf
        have qf2 : (tf != 0) = true := by simpa using hf
        clear t1 t2 hda
        obtain ⟨b1, k1', e1, b2, k2', e2, b3, k3', e3, hcs1, g1, -, -⟩ := hM
        obtain ⟨gb, go, gc, hsl, hgb, hgc⟩ := g1.open512 t7
        simp only [Value.slice.injEq] at hsl
        obtain ⟨rfl, rfl, rfl⟩ := hsl
        have X7c := X7
        rw [hcs1, t5, t6] at X7c
        obtain ⟨⟨u0, u1, u2, u3⟩, ⟨v0, v1, v2, v3, v4, v5, v6, v7, v8, v9, v10, v11⟩, s7⟩ := X7c.sixteen
        clear X7c hcs1 t5 t6 t7
        have hdd : (if WR = true then True else ((tdat.length : Int) != (ttch.length : Int)) = false) ∧ (WR = true → tdat.length = 0) := HDD.out
        by_cases hft : Y.b.ft = now.b.ft
        · rw [hft] at v10
          clear hft
          cases WR
          · have qd := hdd.1
            simp only [Bool.false_eq_true, if_false] at qd
            clear hdd hdb X6 X8 X0 X7
            go_upto_region 17 with fail
            clear z0 z1 z2 z3 s8 k0 k1 k2 k3 k4 k5 k6 sH i0 i1 i2 i3 j0 j1 j2 j3 j4 j5 j6 j7 j8 j9 j10 j11 s0' q qd u0 u1 u2 u3 v0 v1 v2 v3 v4 v5 v6 v7 v8 v9 v10 v11 s7
            go_wp2_with (first
              | fail
              | (refine wpList_load_row rfl 33 (.tmp 7) rfl n7 rfl _ _ _ _ X7p Tryz.underlying33 rfl (by rw [infoM, hs1]) ?_)
              | (refine wpList_store_row rfl 33 (.tmp 2) (.tmp 141) rfl (w.heap.size) cs1 rfl rfl _ _ X0p (by rw [infoM, hs1]) (by rw [hs1]; rfl) ha1 ?_))
            exact ⟨⟨i + 1, by go_num, by omega, HI.out⟩, by simp [intOf]; omega⟩
          · have qd := hdd.2 rfl
            rw [qd] at z1
            clear hdd hdb X6 X8 X0 X7
            go_upto_region 17 with fail
            clear z0 z1 z2 z3 s8 k0 k1 k2 k3 k4 k5 k6 sH i0 i1 i2 i3 j0 j1 j2 j3 j4 j5 j6 j7 j8 j9 j10 j11 s0' q qd u0 u1 u2 u3 v0 v1 v2 v3 v4 v5 v6 v7 v8 v9 v10 v11 s7
            go_wp2_with (first
              | fail
              | (refine wpList_load_row rfl 33 (.tmp 7) rfl n7 rfl _ _ _ _ X7p Tryz.underlying33 rfl (by rw [infoM, hs1]) ?_)
              | (refine wpList_store_row rfl 33 (.tmp 2) (.tmp 141) rfl (w.heap.size) cs1 rfl rfl _ _ X0p (by rw [infoM, hs1]) (by rw [hs1]; rfl) ha1 ?_))
            exact ⟨⟨i + 1, by go_num, by omega, HI.out⟩, by simp [intOf]; omega⟩
        · obtain ⟨r1, r2⟩ := HT15.out hf hft
          obtain ⟨FP, hFP⟩ : ∃ n : Nat, now.b.fp = n := ⟨now.b.fp.toNat, by omega⟩
          obtain ⟨FT, hFT⟩ : ∃ n : Nat, now.b.ft = n := ⟨now.b.ft.toNat, by omega⟩
          obtain ⟨A, hA⟩ : ∃ n : Nat, X.a = n := ⟨X.a.toNat, by omega⟩
          have hidx : (now.b.fp * 8 + now.b.ft).toNat = FP * 8 + FT := by rw [hFP, hFT]; omega
          have hpg : X.a.toNat = A := by rw [hA]; simp
          rw [hidx] at r1 r2
          rw [hpg] at r2
          have cW := hgc (FP * 8 + FT) (by omega)
          have HR1 : Hid _ := r1
          have HR2 : Hid _ := r2
          obtain ⟨Z, hZ⟩ : ∃ z, nth Y.zs (FP * 8 + FT) = z := ⟨_, rfl⟩
          rw [hZ] at cW HR1 HR2
          obtain ⟨FH, hFH⟩ : ∃ b, now.b.fh = b := ⟨_, rfl⟩
          obtain ⟨G, hG⟩ : ∃ b, Y.b.ft = b := ⟨_, rfl⟩
          rw [hG] at v10
          rw [hFP] at v8 j8
          rw [hFH] at v9 j9
          rw [hFT] at j10
          rw [hFP, hFH, hFT] at X0p X7p HI
          rw [hG, hFT] at hft
          have hA' := hA
          rw [hA] at k3 X6
          have b1' : FP ≤ 63 := by omega
          have b2' : FT ≤ 7 := by omega
          have b3' : A ≤ 511 := by omega
          have HX6 : Hid (Box w5 wr.heap.size 37 #[J 3, J X.num, J X.d, J (A : Int), J CT, .bool WR, .slice da dn dc]) := X6
          have HX8 : Hid (Box w5 n8 40 #[.bool false, .slice a4 tdat.length c4, J tf, .slice a5 ttch.length c5]) := X8
          clear r1 r2 hgc hidx hpg hZ hFP hFT hA hA' hFH hG t8 t9 t10 t11 t12 t13 HT15 X6 X8 X0 X7
          have w1' := wr1 b1'
          obtain ⟨w2', x1', x2', x3'⟩ := wr2 b1' b2'
          have w3' := wr3 b3' t14
          obtain ⟨PG, hPG⟩ : ∃ n : Nat, (A + ttch.length) / 8 = n := ⟨_, rfl⟩
          obtain ⟨y3', y4', y5'⟩ := wr4 A ttch.length PG hPG b3' t14
          rw [hPG] at HR2
          clear hPG
          cases WR
          · have qd := hdd.1
            simp only [Bool.false_eq_true, if_false] at qd
            clear hdd hdb
            go_upto_region 13 with fail
            clear z0 z1 z2 z3 s8 k0 k1 k2 k3 k4 k5 k6 sH i0 i1 i2 i3 j0 j1 j2 j3 j4 j5 j6 j7 j8 j9 j10 j11 s0' q qd u1 u2 u3 v0 v1 v2 v3 v4 v5 v6 v7 v8 v9 v10 v11
            have BR : Hid (Below w5.heap.size w5 (w5.alloc (.cells #[J (FP : Int), J FH, J (FT : Int)] 29))) := bel_alloc (Below.refl _ _) _
            have XR : Box (w5.alloc (.cells #[J (FP : Int), J FH, J (FT : Int)] 29)) w5.heap.size 29 #[J (FP : Int), J FH, J (FT : Int)] := Box.newAt rfl _ _
            have X6 := Box.past HX6.out (.cells #[J (FP : Int), J FH, J (FT : Int)] 29)
            have X8 := Box.past HX8.out (.cells #[J (FP : Int), J FH, J (FT : Int)] 29)
            have u0 := ((bcell BR.out).1 n7 0 s7).trans u0
            have cW := ((bcell BR.out).1 gb (go + (FP * 8 + FT)) hgb).trans cW
            have hgb : gb < (w5.alloc (.cells #[J (FP : Int), J FH, J (FT : Int)] 29)).heap.size := Nat.lt_of_lt_of_le hgb BR.out.size
            have s7 : n7 < (w5.alloc (.cells #[J (FP : Int), J FH, J (FT : Int)] 29)).heap.size := Nat.lt_of_lt_of_le s7 BR.out.size
            have HLT : Hid (i < _ ∧ i ≤ _ ∧ _ ≤ 60) := ⟨hlt, hiq, hq60⟩
            have HL9 : Hid (∀ w9, Below (w5.alloc (.cells #[J (FP : Int), J FH, J (FT : Int)] 29)).heap.size (w5.alloc (.cells #[J (FP : Int), J FH, J (FT : Int)] 29)) w9 → LpI P w.heap.size w (w9.setRow (w.heap.size) cs1)) := fun w9 h9 => HFN.out w9 (.inr (bel_trans BR.out h9))
            have HW : Hid (_ ∧ _ ∧ _ ∧ _) := ⟨w3', y3', y4', y5'⟩
            clear HI HFN BR HX6 HX8
            clear hbl hlt1 s0 hqb z6 h78 o1 z07 z06 hk t14 hCT hs0 hf qf qf2 hft w3' y3' y4' y5' hWR hq hq60 hlt hiq
            generalize (w5.alloc (.cells #[J (FP : Int), J FH, J (FT : Int)] 29)) = w6 at *
            generalize w5.heap.size = n10 at *
            obtain ⟨r0, r1, r2, -, -, -, sR⟩ := XR.three
            go_wp2_with fail
            refine (readFault_at HR1.out HR2.out).mono ?_
            rintro e w9 ⟨rfl, b9⟩
            clear r0 r1 r2 sR u0 cW hgb s7 XR w1' w2' x1' x2' x3'
            have X6 := (X6.keep b9).past (.cells #[J tf, J X.d, J (PG : Int), .bool false] 74)
            have X8 := (X8.keep b9).past (.cells #[J tf, J X.d, J (PG : Int), .bool false] 74)
            have X0p := (X0p.keep b9).past (.cells #[J tf, J X.d, J (PG : Int), .bool false] 74)
            have X7p := (X7p.keep b9).past (.cells #[J tf, J X.d, J (PG : Int), .bool false] 74)
            obtain ⟨w3', y3', y4', y5'⟩ := HW.out
            have q : ((0 : Int) != 0) = false := rfl
            have HI : Hid (LpI P w.heap.size w ((w9.alloc (.cells #[J tf, J X.d, J (PG : Int), .bool false] 74)).setRow (w.heap.size) cs1)) := HL9.out _ (bel_alloc b9 _)
            have XF : Box (w9.alloc (.cells #[J tf, J X.d, J (PG : Int), .bool false] 74)) w9.heap.size 74 #[J tf, J X.d, J (PG : Int), .bool false] := Box.newAt rfl _ _
            clear b9
            go_upto_region 14 with fail
            generalize (w9.alloc (.cells #[J tf, J X.d, J (PG : Int), .bool false] 74)) = wF at *
            generalize w9.heap.size = n11 at *
            obtain ⟨z0, z1, z2, z3, -, -, -, -, s8⟩ := X8.four
            obtain ⟨⟨k0, k1, k2, k3, k4, k5, k6⟩, sH⟩ := X6.seven
            obtain ⟨o0, o1, o2, o3, -, -, -, -, sF⟩ := XF.four
            clear X6 X8 XF
            go_upto_region 15 with fail
            rw [y5']
            clear w3' y3' y4' y5' b1' b2' b3' hPdef
            go_upto_region 17 with fail
            clear z0 z1 z2 z3 s8 k0 k1 k2 k3 k4 k5 k6 sH o0 o1 o2 o3 sF
            obtain ⟨hlt, hiq, hq60⟩ := HLT.out
            go_wp2_with (first
              | fail
              | (refine wpList_load_row rfl 33 (.tmp 7) rfl n7 rfl _ _ _ _ X7p Tryz.underlying33 rfl (by rw [infoM, hs1]) ?_)
              | (refine wpList_store_row rfl 33 (.tmp 2) (.tmp 141) rfl (w.heap.size) cs1 rfl rfl _ _ X0p (by rw [infoM, hs1]) (by rw [hs1]; rfl) ha1 ?_))
            exact ⟨⟨i + 1, by go_num, by omega, HI.out⟩, by simp [intOf]; omega⟩
          · have qd := hdd.2 rfl
            rw [qd] at z1
            clear hdd hdb
            go_upto_region 13 with fail
            clear z0 z1 z2 z3 s8 k0 k1 k2 k3 k4 k5 k6 sH i0 i1 i2 i3 j0 j1 j2 j3 j4 j5 j6 j7 j8 j9 j10 j11 s0' q qd u1 u2 u3 v0 v1 v2 v3 v4 v5 v6 v7 v8 v9 v10 v11
            have BR : Hid (Below w5.heap.size w5 (w5.alloc (.cells #[J (FP : Int), J FH, J (FT : Int)] 29))) := bel_alloc (Below.refl _ _) _
            have XR : Box (w5.alloc (.cells #[J (FP : Int), J FH, J (FT : Int)] 29)) w5.heap.size 29 #[J (FP : Int), J FH, J (FT : Int)] := Box.newAt rfl _ _
            have X6 := Box.past HX6.out (.cells #[J (FP : Int), J FH, J (FT : Int)] 29)
            have X8 := Box.past HX8.out (.cells #[J (FP : Int), J FH, J (FT : Int)] 29)
            have u0 := ((bcell BR.out).1 n7 0 s7).trans u0
            have cW := ((bcell BR.out).1 gb (go + (FP * 8 + FT)) hgb).trans cW
            have hgb : gb < (w5.alloc (.cells #[J (FP : Int), J FH, J (FT : Int)] 29)).heap.size := Nat.lt_of_lt_of_le hgb BR.out.size
            have s7 : n7 < (w5.alloc (.cells #[J (FP : Int), J FH, J (FT : Int)] 29)).heap.size := Nat.lt_of_lt_of_le s7 BR.out.size
            have HLT : Hid (i < _ ∧ i ≤ _ ∧ _ ≤ 60) := ⟨hlt, hiq, hq60⟩
            have HL9 : Hid (∀ w9, Below (w5.alloc (.cells #[J (FP : Int), J FH, J (FT : Int)] 29)).heap.size (w5.alloc (.cells #[J (FP : Int), J FH, J (FT : Int)] 29)) w9 → LpI P w.heap.size w (w9.setRow (w.heap.size) cs1)) := fun w9 h9 => HFN.out w9 (.inr (bel_trans BR.out h9))
            have HW : Hid (_ ∧ _ ∧ _ ∧ _) := ⟨w3', y3', y4', y5'⟩
            clear HI HFN BR HX6 HX8
            clear hbl hlt1 s0 hqb z6 h78 o1 z07 z06 hk t14 hCT hs0 hf qf qf2 hft w3' y3' y4' y5' hWR hq hq60 hlt hiq
            generalize (w5.alloc (.cells #[J (FP : Int), J FH, J (FT : Int)] 29)) = w6 at *
            generalize w5.heap.size = n10 at *
            obtain ⟨r0, r1, r2, -, -, -, sR⟩ := XR.three
            go_wp2_with fail
            refine (readFault_at HR1.out HR2.out).mono ?_
            rintro e w9 ⟨rfl, b9⟩
            clear r0 r1 r2 sR u0 cW hgb s7 XR w1' w2' x1' x2' x3'
            have X6 := (X6.keep b9).past (.cells #[J tf, J X.d, J (PG : Int), .bool true] 74)
            have X8 := (X8.keep b9).past (.cells #[J tf, J X.d, J (PG : Int), .bool true] 74)
            have X0p := (X0p.keep b9).past (.cells #[J tf, J X.d, J (PG : Int), .bool true] 74)
            have X7p := (X7p.keep b9).past (.cells #[J tf, J X.d, J (PG : Int), .bool true] 74)
            obtain ⟨w3', y3', y4', y5'⟩ := HW.out
            have q : ((0 : Int) != 0) = false := rfl
            have HI : Hid (LpI P w.heap.size w ((w9.alloc (.cells #[J tf, J X.d, J (PG : Int), .bool true] 74)).setRow (w.heap.size) cs1)) := HL9.out _ (bel_alloc b9 _)
            have XF : Box (w9.alloc (.cells #[J tf, J X.d, J (PG : Int), .bool true] 74)) w9.heap.size 74 #[J tf, J X.d, J (PG : Int), .bool true] := Box.newAt rfl _ _
            clear b9
            go_upto_region 14 with fail
            generalize (w9.alloc (.cells #[J tf, J X.d, J (PG : Int), .bool true] 74)) = wF at *
            generalize w9.heap.size = n11 at *
            obtain ⟨z0, z1, z2, z3, -, -, -, -, s8⟩ := X8.four
            obtain ⟨⟨k0, k1, k2, k3, k4, k5, k6⟩, sH⟩ := X6.seven
            obtain ⟨o0, o1, o2, o3, -, -, -, -, sF⟩ := XF.four
            clear X6 X8 XF
            go_upto_region 15 with fail
            rw [y5']
            clear w3' y3' y4' y5' b1' b2' b3' hPdef
            go_upto_region 17 with fail
            clear z0 z1 z2 z3 s8 k0 k1 k2 k3 k4 k5 k6 sH o0 o1 o2 o3 sF
            obtain ⟨hlt, hiq, hq60⟩ := HLT.out
            go_wp2_with (first
              | fail
              | (refine wpList_load_row rfl 33 (.tmp 7) rfl n7 rfl _ _ _ _ X7p Tryz.underlying33 rfl (by rw [infoM, hs1]) ?_)
              | (refine wpList_store_row rfl 33 (.tmp 2) (.tmp 141) rfl (w.heap.size) cs1 rfl rfl _ _ X0p (by rw [infoM, hs1]) (by rw [hs1]; rfl) ha1 ?_))
            exact ⟨⟨i + 1, by go_num, by omega, HI.out⟩, by simp [intOf]; omega⟩
theorem mtold_walk (u : Value) (zs : List Int) (p : Int) (v : Value) (r : List Int) (d : Bool) (mo ba op oh ot fe fp fh ft : Int) (st lo : Bool) (vc : Value) (l : List Ln) (v1 : Value) (l1 : List Hp) (w : World) (hm : Sl w u zs ∧ Sl w v r ∧ Ls w vc l) (hl : Hps w v1 l1) :
    Calls Tryz.prog 8 #[.agg #[u, J p, v, .bool d, J mo, J ba, vc, J op, J oh, J ot, .bool st, J fe, J fp, J fh, J ft, .bool lo], v1] w fun e w' => e = .returned (.bool true) ∧ Below w.heap.size w w' := mtold_row (isM_any hm) hl
end Go.Proofs.YthlhocneggcekaaGreat
namespace Go.Proofs.YthlhocneggcekaaGreat
open Go.ChangeShapes Go.WideShapes Go.ChangeAt Go.RowKit
theorem law_own : ownKnob Tryz.prog.godebug = none := by kernel_rfl
theorem law_laidOut : laidOutB Tryz.prog = true := by kernel_rfl
section
variable {H : Type} {enc : TypeId × Value → H} {W : World}
end
end Go.Proofs.YthlhocneggcekaaGreat
namespace Go.Proofs.YthlhocneggcekaaGreat
open Go.ChangeShapes Go.WideShapes Go.ChangeAt Go.RowKit
set_option linter.unusedVariables false
set_option maxRecDepth 100000 in
theorem mtold_lifted (os : Os) (started : os.Started) (H : Type) (enc : TypeId × Value → H) :
    ReturnsInHanded {} Tryz.checked os 8 .any (Rows.machineToldSpec.pre6 enc Tryz.prog Tryz.f8 Rows.machineToldRow.domain false) (Rows.machineToldSpec.post enc Tryz.prog Tryz.f8 false true false false) := by
  refine returnsInHanded_of_change (C := Tryz.checked) law_own started (by kernel_rfl) Tryz.func8
    (ChangeSpec.witness6 (enc := enc) (C := Tryz.checked) false ⟨#[], #[.agg #[.slice none 0 0, J 0, .slice none 0 0, .bool false, J 0, J 0, .slice none 0 0, J 0, J 0, J 0, .bool false, J 0, J 0, J 0, J 0, .bool false], .slice none 0 0], []⟩ 8 (by kernel_rfl) (by kernel_rfl) (by kernel_rfl) (by kernel_rfl)) ?_
  intro W base args ds gs before hval0 hW hcnd _
  have hval : ∀ (j : Nat) t v, Tryz.f8.params[j]? = some t → args[j]? = some v → Value.okWide Tryz.prog W .any base t v := hval0
  have hW' := hW
  obtain ⟨p, q, hA0, hV, rfl, hfz, hnd⟩ := hW
  have hA : DataW.TrodAll enc Tryz.prog W 0 (fun _ => true) true Tryz.f8.params.toList args.toList ds p := hA0
  rw [Tryz.params8] at hA hval
  obtain ⟨v0, vs0, d0, ds0, p0, q0, hargs, rfl, rfl, h0, r0⟩ := trodAll_cons hA
  obtain ⟨v1, vs1, d1, ds1, p1, q1, rfl, rfl, rfl, h1, r1⟩ := trodAll_cons r0
  obtain ⟨rfl, rfl, rfl⟩ := trodAll_nil r1
  obtain rfl : args = #[v0, v1] := by cases args; simp_all
  obtain ⟨rfl, rfl⟩ := trodVars_none hV
  have k0 := h0
  have lt0 : ∀ x ∈ p0, x.block < W.heap.size := by obtain ⟨m, hm⟩ := k0; exact DataW.trod_lt m _ _ _ hm
  have k1 := h1
  have lt1 : ∀ x ∈ p1, x.block < W.heap.size := by obtain ⟨m, hm⟩ := k1; exact DataW.trod_lt m _ _ _ hm
  obtain ⟨u0, zs0, x0, y0, g0, f0, mo0, ba0, op0, oh0, ot0, fe0, fp0, fh0, ft0, st0, lo0, vc0, l0, rfl, s0⟩ := open_mch (hval 0 33 v0 rfl rfl) h0
  obtain ⟨l1, s1⟩ := open_hps (hval 1 56 v1 rfl rfl) h1
  clear hA0 hval0
  refine (mtold_walk u0 zs0 x0 y0 g0 f0 mo0 ba0 op0 oh0 ot0 fe0 fp0 fh0 ft0 st0 lo0 vc0 l0 v1 l1 W s0 s1).mono fun e W' ⟨he, bel⟩ => ?_
  subst he
  exact ⟨_, rfl, _, _, _, [], _, [], hW', trodAll_mk1 (shut_bool Tryz.underlying4 _), (trodAll_cons_mk (Below.trod law_laidOut (by kernel_rfl) (of_decide_eq_true (by kernel_rfl)) k0 bel lt0) (trodAll_cons_mk (Below.trod law_laidOut (by kernel_rfl) (of_decide_eq_true (by kernel_rfl)) k1 bel lt1) trodAll_mk0)), rfl, bel.frame _, fun h => by cases h⟩
theorem mtold_over : Rows.machineToldRow.holds Tryz.pinned (OpenSpec.ofChange Rows.machineToldSpec) :=
  OpenClaim.holds_of_wide 8 Tryz.f8 rfl rfl rfl rfl rfl rfl rfl ⟨rfl, rfl, rfl, rfl, rfl⟩ rfl rfl rfl rfl rfl (by kernel_rfl) Tryz.func8 (by kernel_rfl)
    (of_decide_eq_true (by kernel_rfl)) (by unfold Func.isWrapper; first | (rw [if_pos (by decide +kernel)]; kernel_rfl) | (rw [if_neg (by decide +kernel)]; exact ⟨rfl, rfl⟩))
    (fun os started H enc _ => mtold_lifted os started H enc)
theorem mtold_holds : Rows.MachineToldSaid := mtold_over
#print axioms mtold_holds
end Go.Proofs.YthlhocneggcekaaGreat
