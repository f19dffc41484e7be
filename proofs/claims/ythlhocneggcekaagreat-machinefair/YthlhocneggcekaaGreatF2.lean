/-
  Laid together: Since, FairStep, Dropped, Audit1, Audit2, FairL.
-/
import Derived.Test.YthlhocneggcekaaGreatB1
import Derived.Test.YthlhocneggcekaaGreatB2
import Derived.Test.YthlhocneggcekaaGreatB3
import Derived.Test.YthlhocneggcekaaGreatB4
import Derived.Test.YthlhocneggcekaaGreatB5
import Derived.Test.YthlhocneggcekaaGreatB6
import Derived.Test.YthlhocneggcekaaGreatB7
import Derived.Test.YthlhocneggcekaaGreatB8
import Derived.Test.YthlhocneggcekaaGreatB9
import Derived.Test.YthlhocneggcekaaGreatB10
import Derived.Test.YthlhocneggcekaaGreatB11
import Derived.Test.YthlhocneggcekaaGreatB12
import Derived.Test.YthlhocneggcekaaGreatB13
import Derived.Test.YthlhocneggcekaaGreatB14
import Derived.Test.YthlhocneggcekaaGreatB15
import Derived.Test.YthlhocneggcekaaGreatB16
import Derived.Test.YthlhocneggcekaaGreatB17
import Derived.Test.YthlhocneggcekaaGreatB18
import Derived.Test.YthlhocneggcekaaGreatB19
import Derived.Test.YthlhocneggcekaaGreatB20
import Derived.Test.YthlhocneggcekaaGreatB21
import Derived.Test.YthlhocneggcekaaGreatB22
import Derived.Test.YthlhocneggcekaaGreatB23
import Derived.Test.YthlhocneggcekaaGreatB24
import Derived.Test.YthlhocneggcekaaGreatB25
import Derived.Test.YthlhocneggcekaaGreatB26
import Derived.Test.YthlhocneggcekaaGreatB27
import Derived.Test.YthlhocneggcekaaGreatB28
import Derived.Test.YthlhocneggcekaaGreatB29
import Derived.Test.YthlhocneggcekaaGreatB30
import Derived.Test.YthlhocneggcekaaGreatB31
import Derived.Test.YthlhocneggcekaaGreatB32
import Derived.Test.YthlhocneggcekaaGreatB33
import Derived.Test.YthlhocneggcekaaGreatB34
import Derived.Test.YthlhocneggcekaaGreatB35
import Derived.Test.YthlhocneggcekaaGreatB36
import Derived.Test.YthlhocneggcekaaGreatB37
import Derived.Test.YthlhocneggcekaaGreatB38
import Derived.Test.YthlhocneggcekaaGreatB39
import Derived.Test.YthlhocneggcekaaGreatB40
import Derived.Test.YthlhocneggcekaaGreatB41
import Derived.Test.YthlhocneggcekaaGreatB42
import Derived.Test.YthlhocneggcekaaGreatB43
import Derived.Test.YthlhocneggcekaaGreatB44
import Derived.Test.YthlhocneggcekaaGreatF1
import Derived.WideKeyPair
import Derived.Maps.OwnOps
import Derived.Maps.OwnSet
namespace Go.Proofs.YthlhocneggcekaaGreat
open Go.RowKit
theorem arr_pair : WideMaps.ArrKey Tryz.prog 82 3 2 := ⟨Tryz.underlying82, by kernel_rfl, by kernel_rfl, by kernel_rfl⟩
theorem types_pos : ∃ m, Tryz.prog.types.size = m + 1 := ⟨Tryz.prog.types.size - 1, by
  have : 0 < Tryz.prog.types.size := of_decide_eq_true (by kernel_rfl)
  omega⟩
theorem law_pair : Maps.Keyed Tryz.prog 82 := Maps.Keyed.of_law arr_pair.law
def keyDP (d p : Int) : Lit := .string (keyBytes [.int .i64 d, .int .i64 p])
theorem key_pair {d p : Int} (hd : 0 ≤ d ∧ d ≤ 7) (hp : 0 ≤ p ∧ p ≤ 63) : keyOf Tryz.prog 82 (.agg #[.int .i64 d, .int .i64 p]) = some (keyDP d p) :=
  WideMaps.keyOf_pair arr_pair Tryz.underlying3 types_pos (WalkArith.wf_i64 (by omega)) (WalkArith.wf_i64 (by omega))
theorem keyDP_ne {d p d' p' : Int} (hd : 0 ≤ d ∧ d ≤ 7) (hp : 0 ≤ p ∧ p ≤ 63) (hd' : 0 ≤ d' ∧ d' ≤ 7) (hp' : 0 ≤ p' ∧ p' ≤ 63) (h : ¬ (d = d' ∧ p = p')) : keyDP d p ≠ keyDP d' p' := fun e => h (by
  have := law_pair.inj (key_pair hd hp) (by rw [e]; exact key_pair hd' hp')
  simpa using this)
theorem zero_int2 (w : World) : (zeroValue 3).run Tryz.prog w = .ok (.int .i64 0) w := by kernel_rfl
def SinceM (w : World) (b n : Nat) (s : Int → Int → Nat) : Prop :=
  ∃ D, w.ownsMap Tryz.prog 82 Rv b n D ∧ ∀ d p : Int, (0 ≤ d ∧ d ≤ 7) → (0 ≤ p ∧ p ≤ 63) → D.atKey (keyDP d p) (.held (.int .i64 0)) = .held (.int .i64 (s d p))
theorem SinceM.new {w : World} {b : Nat} (h : b = w.heap.size) : SinceM (w.alloc (.map #[] 0)) b 0 (fun _ _ => 0) := by
  subst h; exact ⟨_, World.ownsMap_made _ _ _ _, fun d p _ _ => by simp [DataW.atKey]⟩
theorem SinceM.keep {w w' : World} {b n : Nat} {s : Int → Int → Nat} (h : SinceM w b n s) (hb : Below w.heap.size w w') : SinceM w' b n s := by
  obtain ⟨D, h1, h2⟩ := h
  exact ⟨D, h1.kept (grown_none hb) (by simp), h2⟩
theorem SinceM.lt {w : World} {b n : Nat} {s : Int → Int → Nat} (h : SinceM w b n s) : b < w.heap.size := by obtain ⟨D, h1, _⟩ := h; exact h1.lt
theorem SinceM.keptG {w w' : World} {b n : Nat} {s : Int → Int → Nat} (h : SinceM w b n s) {k : Option Nat} (hg : w.grownBy w' k) (hk : k ≠ some b) : SinceM w' b n s := by
  obtain ⟨D, h1, h2⟩ := h
  exact ⟨D, h1.kept hg hk.symm, h2⟩
theorem SinceM.look {w : World} {b n : Nat} {s : Int → Int → Nat} (h : SinceM w b n s) {d p : Int} (hd : 0 ≤ d ∧ d ≤ 7) (hp : 0 ≤ p ∧ p ≤ 63) :
    (Instr.lookup 81 (.map (some b)) (.agg #[.int .i64 d, .int .i64 p]) false).run Tryz.prog w = .ok (.int .i64 (s d p)) w := by
  obtain ⟨D, hown, hD⟩ := h
  obtain ⟨v, ps, hrun, hv⟩ := hown.lookup law_pair Tryz.underlying81 (zero_int2 w) (zd := .held (.int .i64 0)) (zp := []) rfl (key_pair hd hp)
  rw [hD d p hd hp] at hv
  simp only [Rv, Option.some.injEq, Prod.mk.injEq, DataW.held.injEq] at hv
  rw [hrun, hv.1]
theorem wpList_since {w : World} {ops : Array Oper} {rest : List Oper} {o : Oper} {a : Act} {Q : Exit → Act → World → Prop} (hg : o.guard = none) (m x v : Operand) (hop : o.op = Op.mapUpdate 81 m x v) (b n : Nat) (s : Int → Int → Nat)
    (hm : a.eval m = .map (some b)) (h : SinceM w b n s) (d p : Int) (hx : a.eval x = .agg #[.int .i64 d, .int .i64 p]) (k : Nat) (hv : a.eval v = .int .i64 k) (hd : 0 ≤ d ∧ d ≤ 7) (hp : 0 ≤ p ∧ p ≤ 63) (hn : n < 100000)
    (hK : ∀ w', SinceM w' b (n + 1) (fun d' p' => if d' = d ∧ p' = p then k else s d' p') → w.grownBy w' (some b) → wpList Tryz.prog ops Q rest (a.put o.dst undef) w') : wpList Tryz.prog ops Q (o :: rest) a w := by
  obtain ⟨D, hown, hD⟩ := h
  refine wpList_mapUpdate_own w hg m x v 81 hop 82 3 law_pair Tryz.underlying81 Rv b n D hm hown (by unfold maxLen; omega) _ _ _ hx hv (key_pair hd hp) (.held (.int .i64 k)) [] rfl ?_
  intro w' hown' hgr
  refine hK w' ⟨_, hown', fun d' p' hd' hp' => ?_⟩ hgr
  by_cases e : d' = d ∧ p' = p
  · obtain ⟨rfl, rfl⟩ := e
    rw [Maps.atKey_put_same hown.isMap (law_pair.key (key_pair hd hp))]
    simp
  · rw [Maps.atKey_put_other (keyDP_ne hd' hp' hd hp e), hD d' p' hd' hp']
    show _ = DataW.held (Value.int .i64 ((if d' = d ∧ p' = p then k else s d' p' : Nat) : Int))
    rw [if_neg e]
theorem tlB_cache {zs : List Int} {b : Br} {f d p : Int} (hz : chk zs = 0) (hb : chkB b = 0) (hf : 1 ≤ f ∧ f ≤ 5) (hd : 0 ≤ d ∧ d ≤ 7) (hp : 0 ≤ p ∧ p ≤ 63) : (tlB zs b f d p).cache = b.cache := by
  have hfe : fE f d p = 0 := by unfold fE; rw [if_pos (by omega)]
  have ht : tlE zs b f d p = 0 := by rw [tlE, if_pos (bothB_mk hz hb), hfe]
  rw [tlB, if_pos ht]
  split <;> rfl
theorem hp_lines {m y : Mc} {x : Hp} {t : To} (h : hpE m (shX x) = 0) (hr : hpR m (shX x) = (y, t)) (hk : x.kind = 3) :
    ∀ z ∈ y.b.cache, z ∈ m.b.cache ∨ ∀ wr : Bool, (wr = true → z.2.2.2.2 = true) → (goT m.zs (m.b.with []) z.1 z.2.1 wr).2 = (z.2.2.1, 0) := by
  obtain ⟨c, k, hth, hg, hk1, ha, hd, hf, hft, hyc, -⟩ := hp_short h hr hk
  intro z hz
  by_cases f0 : t.f = 0
  · rw [hyc f0] at hz
    rw [f0] at hg
    rcases goT_ways (wr := x.wr) hth with ⟨f', hf', e⟩ | ⟨k', hk', e, _⟩ | ⟨a, b, hm, hn, ha', hx, hl, e⟩
    · rw [e, Prod.mk.injEq, Prod.mk.injEq] at hg
      omega
    · rw [e, Prod.mk.injEq, Prod.mk.injEq] at hg
      rw [← hg.1] at hz
      exact .inl hz
    · have hbl := byT_line hth hm hn e hl
      rw [e, Prod.mk.injEq, Prod.mk.injEq] at hg
      rw [← hg.1] at hz
      have hz' : z ∈ flC m.b.cache (x.d, x.a / 8, a, true, b) := hz
      rw [flC, if_pos hl, List.mem_append] at hz'
      rcases hz' with hz' | hz'
      · refine .inl ?_
        split at hz'
        · exact List.mem_of_mem_drop hz'
        · exact hz'
      · obtain rfl := List.mem_singleton.1 hz'
        exact .inr hbl
  · refine .inl ?_
    have hk' : (shX x).kind = 3 := hk
    have hcm := (hp_good h hr).1
    obtain ⟨hzz, -, hb⟩ := chkM_ok hcm
    have hck : ckA x.d x.a (shN x.a x.n) x.wr (shD x.a x.n x.wr x.ds) = 0 := by
      unfold hpE at h
      rw [if_pos hcm, if_neg (by omega), if_neg (by omega), if_pos hk'] at h; exact h
    have hE := doE_mk hzz hb hck
    obtain ⟨hn, -, ha', -⟩ := ckA_ok hck
    rw [hpR, if_pos h, hpG, if_neg (by omega), if_neg (by omega), if_pos hk', Prod.mk.injEq] at hr
    have hy := congrArg Mc.b hr.1
    have hy' : (doR m.zs m.b x.d x.a (shN x.a x.n) x.wr (shD x.a x.n x.wr x.ds)).1.b = y.b := hy
    obtain ⟨n', hn'⟩ : ∃ n' : Nat, (shN x.a x.n).toNat = n' + 1 := ⟨(shN x.a x.n).toNat - 1, by omega⟩
    have hpg : ((x.a.toNat / 8 : Nat) : Int) = x.a / 8 := by omega
    rw [doR, if_pos hE, hn', runW_fault (s := ⟨m.zs, m.b, [], []⟩) (.inl rfl) (by rw [hpg]; exact hg) f0] at hy'
    obtain ⟨g1, g2, -⟩ := goT_good hth hg
    obtain rfl := g2 f0
    rw [← hy'] at hz
    have : (tlB m.zs m.b t.f x.d ((x.a.toNat / 8 : Nat) : Int)).cache = m.b.cache := tlB_cache hzz hb (by omega) hd (by omega)
    rw [← this]
    exact hz
def drpM (m : Mc) (d p : Int) : Bool := decide (obE m.zs m.b = 0) && decide (roE (ordW m.zs m.b) = 0) && goesB (roO (ordW m.zs m.b)).1 (roO (ordW m.zs m.b)).2.1 (roO (ordW m.zs m.b)).2.2 (d, p, 0, true, false)
theorem FairI.next {ps : List Mc} {s s' : Int → Int → Nat} {m y : Mc} {x : Hp} {t : To} (I : FairI ps s m) (h : hpE m (shX x) = 0) (hr : hpR m (shX x) = (y, t))
    (h2 : x.kind = 2 → ∀ d p, (0 ≤ d ∧ d ≤ 7) → (0 ≤ p ∧ p ≤ 63) → s' d p = if drpM m d p = true then ps.length else s d p) (h2' : ∀ d p, s' d p ≤ ps.length) (h1 : ¬ x.kind = 2 → s' = s) : FairI (ps ++ [y]) s' y := by
  obtain ⟨hcm, hcy, hkk, -, -, g1, -, -, -⟩ := hp_good h hr
  have hlen : (ps ++ [y]).length = ps.length + 1 := by simp
  have hold : ∀ z ∈ m.b.cache, s' z.1 z.2.1 = s z.1 z.2.1 → LineOK (ps ++ [y]) (s' z.1 z.2.1) z := fun z hz e => by rw [e]; exact (I.lines z hz).more y
  refine ⟨by omega, by rw [hlen, Nat.add_sub_cancel]; exact mth_last ps y, fun i hi => ?_, fun d p => by rw [hlen]; have := h2' d p; omega, fun z hz => ?_⟩
  · by_cases e : i < ps.length
    · rw [mth_left e]; exact I.good i e
    · obtain rfl : i = ps.length := by omega
      rw [mth_last]; exact hcy
  · have hkk' : x.kind = 1 ∨ x.kind = 2 ∨ x.kind = 3 ∨ x.kind = 4 := hkk
    rcases hkk' with hk | hk | hk | hk
    · have e := (g1 hk).1
      rw [e] at hz
      exact hold z hz (by rw [h1 (by omega)])
    · have hk' : (shX x).kind = 2 := hk
      have hob : obE m.zs m.b = 0 := by
        unfold hpE at h
        rw [if_pos hcm, if_neg (by omega), if_pos hk'] at h; exact h
      rw [hpR, if_pos h, hpG, if_neg (by omega), if_pos hk', Prod.mk.injEq] at hr
      have hy : obB m.zs m.b = y.b := congrArg Mc.b hr.1
      rw [← hy] at hz
      have hkey : ∀ z' ∈ m.b.cache, (0 ≤ z'.1 ∧ z'.1 ≤ 7) ∧ (0 ≤ z'.2.1 ∧ z'.2.1 ≤ 63) := fun z' hz' => by
        obtain ⟨_, q2, _⟩ := chkC_zero.1 (chkB_ok (chkM_ok hcm).2.2).2.2.2.1
        obtain ⟨q3, _⟩ := q2 z' hz'
        simp only [rngB, Bool.and_eq_true, decide_eq_true_eq] at q3
        omega
      by_cases hro : roE (ordW m.zs m.b) = 0
      · obtain ⟨⟨k, d, p⟩, hO⟩ : ∃ O, roO (ordW m.zs m.b) = O := ⟨_, rfl⟩
        obtain ⟨e1, _, e3, _⟩ := ob_right hob hro hO
        rw [e1] at hz
        have hz' : z ∈ drC m.b.cache k d p := hz
        rw [drC, if_pos e3, List.mem_filter] at hz'
        have hne : drpM m z.1 z.2.1 = false := by
          unfold drpM
          rw [hO]
          have e4 : goesB k d p (z.1, z.2.1, 0, true, false) = goesB k d p z := rfl
          have g : goesB k d p z = false := by simpa using hz'.2
          rw [e4, g]
          simp
        refine hold z hz'.1 ?_
        obtain ⟨q1, q2⟩ := hkey z hz'.1
        rw [h2 hk _ _ q1 q2, hne, if_neg (by decide)]
      · rw [(ob_bad hob hro).1] at hz
        have hz' : z ∈ m.b.cache := hz
        have hne : drpM m z.1 z.2.1 = false := by simp [drpM, hro]
        obtain ⟨q1, q2⟩ := hkey z hz'
        refine hold z hz' ?_
        rw [h2 hk _ _ q1 q2, hne, if_neg (by decide)]
    · have e := h1 (by omega)
      rcases hp_lines h hr hk z hz with hz' | hz'
      · exact hold z hz' (by rw [e])
      · have hp := I.pos
        refine ⟨ps.length - 1, ?_, by omega, ?_⟩
        · rw [e]; have := I.low z.1 z.2.1; omega
        · rw [mth_left (by omega), I.last]; exact hz'
    · have hk' : (shX x).kind = 4 := hk
      rw [hpR, if_pos h, hpG, if_neg (by omega), if_neg (by omega), if_neg (by omega), Prod.mk.injEq] at hr
      have hy : m.b.with (m.b.cache.eraseIdx (shX x).num.toNat) = y.b := congrArg Mc.b hr.1
      rw [← hy] at hz
      exact hold z (List.mem_of_mem_eraseIdx hz) (by rw [h1 (by omega)])
theorem obE_good {m : Mc} (h : chkM m = 0) : obE m.zs m.b = if m.b.stop = true then 6 else if m.b.oh = m.b.ot then 6 else 0 := by
  obtain ⟨h1, _, h3⟩ := chkM_ok h
  rw [obE, if_pos (bothB_mk h1 h3)]
theorem chkC_key {d p : Int} (hd : 0 ≤ d ∧ d ≤ 7) (hp : 0 ≤ p ∧ p ≤ 63) : chkC [((d, p, 0, true, false) : Ln)] = 0 := chkC_zero.2 ⟨by simp, fun y hy => by
  obtain rfl := List.mem_singleton.1 hy
  exact ⟨by simp [rngB]; omega, rfl⟩, List.pairwise_singleton _ _⟩
theorem ls_oneK {w : World} {n : Nat} (h : n = w.heap.size) (d p a : Int) (r x : Bool) : Ls (w.alloc (.cells #[J d, J p, J a, .bool r, .bool x] 52)) (.slice (some ⟨n, 0, none⟩) 1 1) [(d, p, a, r, x)] := by
  have hB := Box.newAt h 52 #[J d, J p, J a, .bool r, .bool x]
  refine ⟨_, 1, rfl, Nat.le_refl _, by decide, .inr ⟨n, 0, rfl, hB.lt, fun i hi => ?_⟩⟩
  have hi' : i < 1 := hi
  obtain rfl : i = 0 := by omega
  exact ⟨hB.cell 0, hB.cell 1, hB.cell 2, hB.cell 3, hB.cell 4⟩
set_option maxRecDepth 10000 in
set_option maxHeartbeats 4000000 in
theorem dropped_row {m : Mc} {cs : Array Value} {d p : Int} {w : World} (hm : IsM w m cs) (hE : chkM m = 0) (hd : 0 ≤ d ∧ d ≤ 7) (hp : 0 ≤ p ∧ p ≤ 63) :
    Calls Tryz.prog 34 #[.agg cs, J d, J p] w fun e w' => e = .returned (.bool (drpM m d p)) ∧ Below w.heap.size w w' := by
  have hob := obE_good hE
  obtain ⟨hz, -, hb⟩ := chkM_ok hE
  obtain ⟨-, -, -, -, hro, -⟩ := chkB_ok hb
  have HK : Hid (chkC [((d, p, 0, true, false) : Ln)] = 0) := chkC_key hd hp
  obtain ⟨zs, ⟨pc, r, dn⟩, ⟨mo, ba, l, op, oh, ot, st, fe, fp, fh, ft, lo⟩⟩ := m
  dsimp only at hob hz hro
  have HD : Hid (drpM ⟨zs, ⟨pc, r, dn⟩, ⟨mo, ba, l, op, oh, ot, st, fe, fp, fh, ft, lo⟩⟩ d p = (decide (obE zs ⟨mo, ba, l, op, oh, ot, st, fe, fp, fh, ft, lo⟩ = 0) && decide (roE (nth zs (op * 8 + oh).toNat) = 0) && goesB (roO (nth zs (op * 8 + oh).toNat)).1 (roO (nth zs (op * 8 + oh).toNat)).2.1 (roO (nth zs (op * 8 + oh).toNat)).2.2 (d, p, 0, true, false))) := rfl
  obtain ⟨a1, n1, c1, a2, n2, c2, a3, n3, c3, rfl, h1, h2, h3⟩ := hm
  dsimp only at h1
  have H1 : Hid (Sl w (.slice a1 n1 c1) zs) := h1
  have HZ : Hid (chk zs = 0) := hz
  have HRO : Hid (chkR op oh ot = 0) := hro
  dsimp only
  clear h1 h2 h3 hE hb hz hro hd hp
  have X0 := Box.newAt (w := w) (n := w.heap.size) rfl 33 #[.slice a1 n1 c1, J pc, .slice a2 n2 c2, .bool dn, J mo, J ba, .slice a3 n3 c3, J op, J oh, J ot, .bool st, J fe, J fp, J fh, J ft, .bool lo]
  have BW : Hid (Below w.heap.size w (w.alloc (.cells #[.slice a1 n1 c1, J pc, .slice a2 n2 c2, .bool dn, J mo, J ba, .slice a3 n3 c3, J op, J oh, J ot, .bool st, J fe, J fp, J fh, J ft, .bool lo] 33))) := bel_alloc (Below.refl w.heap.size w) _
  go_enter Tryz.func34, Tryz.ntmps34
  go_upto_region 1 with fail
  generalize (w.alloc (.cells #[.slice a1 n1 c1, J pc, .slice a2 n2 c2, .bool dn, J mo, J ba, .slice a3 n3 c3, J op, J oh, J ot, .bool st, J fe, J fp, J fh, J ft, .bool lo] 33)) = W at *
  obtain ⟨⟨i0, i1, i2, i3⟩, ⟨j0, j1, j2, j3, j4, j5, j6, j7, j8, j9, j10, j11⟩, s0⟩ := X0.sixteen
  by_cases hne : oh = ot
  · subst hne
    have HF : Hid (drpM ⟨zs, ⟨pc, r, dn⟩, ⟨mo, ba, l, op, oh, oh, st, fe, fp, fh, ft, lo⟩⟩ d p = false) := by
      show _ = _
      rw [HD.out, hob]
      cases st <;> simp
    clear hob HD
    go_wp2_with fail
    refine (pop_none (H1.out.keep BW.out) HZ.out HRO.out).mono ?_
    rintro e w2 ⟨rfl, b2⟩
    have B2 : Hid (Below w.heap.size w w2) := bel_trans BW.out b2
    clear i0 i1 i2 i3 j0 j1 j2 j3 j4 j5 j6 j7 j8 j9 j10 j11 s0 b2 X0
    go_wp2_with fail
    go_ret
    exact ⟨ret_bool HF.out.symm, bel_alloc B2.out _⟩
  have HNE : Hid (¬ oh = ot) := hne
  clear hne
  go_wp2_with fail
  refine (pop_ok (H1.out.keep BW.out) HZ.out HRO.out HNE.out).mono ?_
  rintro e w2 ⟨rfl, b2⟩
  have B2 : Hid (Below w.heap.size w w2) := bel_trans BW.out b2
  have X0 := X0.keep b2
  clear i0 i1 i2 i3 j0 j1 j2 j3 j4 j5 j6 j7 j8 j9 j10 j11 s0 b2
  obtain ⟨z, hz⟩ : ∃ z, nth zs (op * 8 + oh).toNat = z := ⟨_, rfl⟩
  rw [hz] at HD ⊢
  clear hz
  obtain ⟨oh', hoh⟩ : ∃ q, (oh + 1) % 8 = q := ⟨_, rfl⟩
  rw [hoh]
  clear hoh
  have X0 := X0.past (.cells #[J op, J oh', J ot] 29)
  obtain ⟨⟨i0, i1, i2, i3⟩, ⟨j0, j1, j2, j3, j4, j5, j6, j7, j8, j9, j10, j11⟩, s0⟩ := X0.sixteen
  cases st with
  | true =>
    have HF : Hid (drpM ⟨zs, ⟨pc, r, dn⟩, ⟨mo, ba, l, op, oh, ot, true, fe, fp, fh, ft, lo⟩⟩ d p = false) := by
      show _ = _
      rw [HD.out, hob]
      simp
    clear hob HD
    go_wp2_with fail
    go_ret
    exact ⟨ret_bool HF.out.symm, bel_alloc B2.out _⟩
  | false =>
    have HOB : Hid (obE zs ⟨mo, ba, l, op, oh, ot, false, fe, fp, fh, ft, lo⟩ = 0) := by
      show _ = _
      rw [hob, if_neg (by decide), if_neg HNE.out]
    clear hob
    obtain ⟨⟨k, d1, p1⟩, hO⟩ : ∃ O, roO z = O := ⟨_, rfl⟩
    obtain ⟨e1, he1⟩ : ∃ e1, roE z = e1 := ⟨_, rfl⟩
    have HE1 : Hid (roE z = e1) := he1
    have HO : Hid (roO z = (k, d1, p1)) := hO
    rw [HOB.out, he1, hO] at HD
    clear he1 hO
    go_wp2_with fail
    refine (readOrder_at HE1.out HO.out).mono ?_
    rintro e w3 ⟨rfl, b3⟩
    have B3 : Hid (Below w.heap.size w w3) := bel_trans (bel_alloc B2.out _) b3
    clear i0 i1 i2 i3 j0 j1 j2 j3 j4 j5 j6 j7 j8 j9 j10 j11 s0 b3 X0
    by_cases h0 : e1 = 0
    rotate_left
    · have q : (e1 != 0) = true := by simpa using h0
      have HF : Hid (drpM ⟨zs, ⟨pc, r, dn⟩, ⟨mo, ba, l, op, oh, ot, false, fe, fp, fh, ft, lo⟩⟩ d p = false) := by
        show _ = _
        rw [HD.out]
        simp [h0]
      clear h0 HD
      go_wp2_with fail
      go_ret
      exact ⟨ret_bool HF.out.symm, bel_alloc B3.out _⟩
    subst h0
    have q : ((0 : Int) != 0) = false := rfl
    have hk : 0 ≤ k ∧ k ≤ 3 := by
      have := (oE_ok (o_read HE1.out HO.out).1).1
      omega
    have HDE : Hid (drE [((d, p, 0, true, false) : Ln)] k = 0) := by show _ = _; rw [drE, if_pos HK.out, if_pos hk]
    obtain ⟨g, hg⟩ : ∃ g, goesB k d1 p1 (d, p, 0, true, false) = g := ⟨_, rfl⟩
    have HDC : Hid (drC [((d, p, 0, true, false) : Ln)] k d1 p1 = if g = true then [] else [(d, p, 0, true, false)]) := by
      show _ = _
      rw [drC, if_pos HDE.out]
      simp only [List.filter, hg]
      cases g <;> rfl
    have HF : Hid (drpM ⟨zs, ⟨pc, r, dn⟩, ⟨mo, ba, l, op, oh, ot, false, fe, fp, fh, ft, lo⟩⟩ d p = g) := by
      show _ = _
      rw [HD.out]
      simp [hg]
    obtain ⟨k0, k3⟩ := hk
    clear HD hg HOB
    go_wp2_with fail
    have BX : Hid (Below w.heap.size w _) := bel_alloc (bel_alloc B3.out (.cells #[J k, J d1, J p1] 115)) (.cells #[J d, J p, J 0, .bool true, .bool false] 52)
    refine (drop_at' (ls_oneK (by simp) d p 0 true false) (by omega) (by omega) HDE.out HDC.out).mono ?_
    rintro e w5 ⟨b5, cap5, rfl, -, b6⟩
    have B5 : Hid (Below w.heap.size w w5) := bel_trans BX.out b6
    clear b6 BX
    cases g with
    | true =>
      go_wp2_with fail
      go_ret
      exact ⟨ret_bool HF.out.symm, B5.out⟩
    | false =>
      go_wp2_with fail
      go_ret
      exact ⟨ret_bool HF.out.symm, B5.out⟩
theorem ckT_who {d s a v : Int} {f : Bool} (h : ¬ ((0 ≤ d ∧ d ≤ 7) ∧ (0 ≤ s ∧ s ≤ 511) ∧ (0 ≤ a ∧ a ≤ 511))) : ckT (d, s, a, f, v) = 4 := by unfold ckT; rw [if_neg h]
theorem ckT_rng {d s a v : Int} {f : Bool} (h : (0 ≤ d ∧ d ≤ 7) ∧ (0 ≤ s ∧ s ≤ 511) ∧ (0 ≤ a ∧ a ≤ 511)) (k : ¬ (0 ≤ v ∧ v ≤ 65535)) : ckT (d, s, a, f, v) = 2 := by unfold ckT; rw [if_pos h, if_neg k]
theorem ckT_frm {d s a v : Int} {f : Bool} (h : (0 ≤ d ∧ d ≤ 7) ∧ (0 ≤ s ∧ s ≤ 511) ∧ (0 ≤ a ∧ a ≤ 511)) (k : 0 ≤ v ∧ v ≤ 65535) (q : ¬ s % 8 = a % 8) : ckT (d, s, a, f, v) = 3 := by unfold ckT; rw [if_pos h, if_pos k, if_neg q]
set_option maxHeartbeats 2000000 in
theorem aCheck_any (d s a : Int) (f : Bool) (v : Int) (w : World) :
    Calls Tryz.prog 60 #[.agg #[J d, J s, J a, .bool f, J v]] w fun e w' => e = .returned (J (ckT (d, s, a, f, v))) ∧ Below w.heap.size w w' := by
  have ways : (¬ 0 ≤ d) ∨ (0 ≤ d ∧ ¬ d < 8) ∨ (0 ≤ d ∧ d < 8 ∧ ¬ 0 ≤ s) ∨ (0 ≤ d ∧ d < 8 ∧ 0 ≤ s ∧ ¬ s < 512) ∨ (0 ≤ d ∧ d < 8 ∧ 0 ≤ s ∧ s < 512 ∧ ¬ 0 ≤ a) ∨ (0 ≤ d ∧ d < 8 ∧ 0 ≤ s ∧ s < 512 ∧ 0 ≤ a ∧ ¬ a < 512) ∨ (0 ≤ d ∧ d < 8 ∧ 0 ≤ s ∧ s < 512 ∧ 0 ≤ a ∧ a < 512) := by omega
  rcases ways with h1 | ⟨h1, h2⟩ | ⟨h1, h2, h3⟩ | ⟨h1, h2, h3, h4⟩ | ⟨h1, h2, h3, h4, h5⟩ | ⟨h1, h2, h3, h4, h5, h6⟩ | ⟨h1, h2, h3, h4, h5, h6⟩
  iterate 6
    focus
      rw [ckT_who (by omega)]
      go_enter Tryz.func60, Tryz.ntmps60
      go_wp2
      go_ret
      exact ⟨rfl, bel_alloc (Below.refl _ _) _⟩
  have ways : (¬ 0 ≤ v) ∨ (0 ≤ v ∧ ¬ v ≤ 65535) ∨ (0 ≤ v ∧ v ≤ 65535) := by omega
  rcases ways with k1 | ⟨k1, k2⟩ | ⟨k1, k2⟩
  iterate 2
    focus
      rw [ckT_rng (by omega) (by omega)]
      go_enter Tryz.func60, Tryz.ntmps60
      go_wp2
      go_ret
      exact ⟨rfl, bel_alloc (Below.refl _ _) _⟩
  have e1 : s.tmod 8 = s % 8 := Int.tmod_eq_emod_of_nonneg h3
  have e2 : a.tmod 8 = a % 8 := Int.tmod_eq_emod_of_nonneg h5
  by_cases q : s % 8 = a % 8
  · rw [ckT_mk (t := (d, s, a, f, v)) (by show 0 ≤ d ∧ d ≤ 7; omega) (by show 0 ≤ s ∧ s ≤ 511; omega) (by show 0 ≤ a ∧ a ≤ 511; omega) ⟨k1, k2⟩ q]
    go_enter Tryz.func60, Tryz.ntmps60
    go_wp2
    go_ret
    exact ⟨rfl, bel_alloc (Below.refl _ _) _⟩
  · rw [ckT_frm (by omega) (by omega) q]
    go_enter Tryz.func60, Tryz.ntmps60
    go_wp2
    go_ret
    exact ⟨rfl, bel_alloc (Below.refl _ _) _⟩
set_option maxRecDepth 10000 in
set_option maxHeartbeats 4000000 in
theorem lets_row {m : Mc} {cs : Array Value} {d s a : Int} {f : Bool} {v : Int} {w : World} (hm : IsM w m cs) (hE : chkM m = 0) (ht : ckT (d, s, a, f, v) = 0) :
    Calls Tryz.prog 61 #[.agg cs, .agg #[J d, J s, J a, .bool f, J v]] w fun e w' => e = .returned (.bool (lets m (d, s, a, f, v))) ∧ Below w.heap.size w w' := by
  have hth := thE_lets hE ht
  obtain ⟨k1, k2, k3, -, -⟩ := ckT_ok ht
  dsimp only at k1 k2 k3 hth
  obtain ⟨zs, ⟨p, r, dn⟩, ⟨mo, ba, l, op, oh, ot, st, fe, fp, fh, ft, lo⟩⟩ := m
  obtain ⟨⟨c, k, q⟩, hR⟩ : ∃ R, goT zs (Br.with ⟨mo, ba, l, op, oh, ot, st, fe, fp, fh, ft, lo⟩ []) d (s / 8) f = R := ⟨_, rfl⟩
  have hR2 : thR zs (Br.with ⟨mo, ba, l, op, oh, ot, st, fe, fp, fh, ft, lo⟩ []) d (s / 8) f = (c, k, q) := by rw [thR, if_pos hth, hR]
  have HV : Hid (lets ⟨zs, ⟨p, r, dn⟩, ⟨mo, ba, l, op, oh, ot, st, fe, fp, fh, ft, lo⟩⟩ (d, s, a, f, v) = decide (q = 0 ∧ k = a / 8)) := by
    show decide ((goT zs (Br.with ⟨mo, ba, l, op, oh, ot, st, fe, fp, fh, ft, lo⟩ []) d (s / 8) f).2.2 = 0 ∧ (goT zs (Br.with ⟨mo, ba, l, op, oh, ot, st, fe, fp, fh, ft, lo⟩ []) d (s / 8) f).2.1 = a / 8) = _
    rw [hR]
  have HE : Hid (thE zs (Br.with ⟨mo, ba, l, op, oh, ot, st, fe, fp, fh, ft, lo⟩ []) d (s / 8) = 0) := hth
  have HR : Hid (thR zs (Br.with ⟨mo, ba, l, op, oh, ot, st, fe, fp, fh, ft, lo⟩ []) d (s / 8) f = (c, k, q)) := hR2
  obtain ⟨a1, n1, c1, a2, n2, c2, a3, n3, c3, rfl, h1, h2, h3⟩ := hm
  have H1 : Hid (Sl w (.slice a1 n1 c1) zs) := h1
  have H3 : Hid (Ls w (.slice a3 n3 c3) l) := h3
  dsimp only at h1 h2 h3
  clear h1 h2 h3 hE ht hth hR hR2
  have X0 := (Box.newAt (w := w) (n := w.heap.size) rfl 33 #[.slice a1 n1 c1, J p, .slice a2 n2 c2, .bool dn, J mo, J ba, .slice a3 n3 c3, J op, J oh, J ot, .bool st, J fe, J fp, J fh, J ft, .bool lo]).past (.cells #[J d, J s, J a, .bool f, J v] 72)
  have X1 := Box.newAt (w := w.alloc (.cells #[.slice a1 n1 c1, J p, .slice a2 n2 c2, .bool dn, J mo, J ba, .slice a3 n3 c3, J op, J oh, J ot, .bool st, J fe, J fp, J fh, J ft, .bool lo] 33)) (n := w.heap.size + 1) (by simp) 72 #[J d, J s, J a, .bool f, J v]
  have BW : Hid (Below w.heap.size w _) := bel_alloc (bel_alloc (Below.refl w.heap.size w) (.cells #[.slice a1 n1 c1, J p, .slice a2 n2 c2, .bool dn, J mo, J ba, .slice a3 n3 c3, J op, J oh, J ot, .bool st, J fe, J fp, J fh, J ft, .bool lo] 33)) (.cells #[J d, J s, J a, .bool f, J v] 72)
  go_enter Tryz.func61, Tryz.ntmps61
  go_upto_region 1 with fail
  generalize ((w.alloc (.cells #[.slice a1 n1 c1, J p, .slice a2 n2 c2, .bool dn, J mo, J ba, .slice a3 n3 c3, J op, J oh, J ot, .bool st, J fe, J fp, J fh, J ft, .bool lo] 33)).alloc (.cells #[J d, J s, J a, .bool f, J v] 72)) = W at *
  obtain ⟨⟨q0, q1, q2, q3⟩, ⟨g0, g1, g2, g3, g4, g5, g6, g7, g8, g9, g10, g11⟩, s0⟩ := X0.sixteen
  obtain ⟨t0, t1, t2, t3, t4⟩ := X1.blk.five
  have s1 := X1.lt
  have hs8 : s.tdiv 8 = s / 8 := Int.tdiv_eq_ediv_of_nonneg k2.1
  have ha8 : a.tdiv 8 = a / 8 := Int.tdiv_eq_ediv_of_nonneg k3.1
  have k21 := k2.1
  have k22 := k2.2
  have k31 := k3.1
  have k32 := k3.2
  clear k1 k2 k3
  go_wp2_with fail
  refine (plain_at (H1.out.keep BW.out) (H3.out.keep BW.out) HE.out HR.out).mono ?_
  rintro e w2 ⟨rfl, b2⟩
  clear q0 q1 q2 q3 g0 g1 g2 g3 g4 g5 g6 g7 g8 g9 g10 g11 s0 t0 t1 t2 t3 t4
  have X1 := X1.keep b2
  obtain ⟨t0, t1, t2, t3, t4⟩ := X1.blk.five
  have s1 := X1.lt
  have B2 : Hid (Below w.heap.size w w2) := bel_trans BW.out b2
  clear b2 BW HE HR
  by_cases hq : q = 0
  · subst hq
    by_cases hk : k = a / 8
    · have : decide ((0 : Int) = 0 ∧ k = a / 8) = true := by simpa using hk
      have HF : Hid (_ = _) := (HV.out.trans this).symm
      clear this HV
      go_wp2_with fail
      go_ret
      exact ⟨ret_bool HF.out, B2.out⟩
    · have : decide ((0 : Int) = 0 ∧ k = a / 8) = false := by simpa using hk
      have kk : (k == a / 8) = false := by simpa using hk
      have HF : Hid (_ = _) := (HV.out.trans this).symm
      clear this HV
      go_wp2_with fail
      go_ret
      exact ⟨ret_bool HF.out, B2.out⟩
  · have : decide (q = 0 ∧ k = a / 8) = false := by simp [hq]
    have HF : Hid (_ = _) := (HV.out.trans this).symm
    clear this HV
    have qq : (q == 0) = false := by simpa using hq
    clear hq
    go_wp2_with fail
    go_ret
    exact ⟨ret_bool HF.out, B2.out⟩
theorem yields_off {ops : Array Oper} {S : World → Prop} {o : Oper} {a : Act} (hw : Region.wanted o (yielded ops a.tmps) = true) (ty : TypeId) (x : Operand) (ho : o.op = .load ty x) {n q : Nat} {cs : Array Value} (hx : a.eval x = .pointer (some ⟨n, q, none⟩)) (hS : ∀ w, S w → (loadVar ty ⟨n, q, none⟩).run Tryz.prog w = .ok (.agg cs) w) : YieldsIf Tryz.prog ops S o (.agg cs) a :=
  .inl ⟨hw, fun w hw' => by
    unfold execOp
    simp only [ho, hx, Instr.loadAt, Instr.sureAddr, Sem.run_bind, Sem.run_pure, Result.andThen_ok, hS w hw']⟩
theorem infoTc : (Tryz.prog.info? 72).map (·.size) = some 5 := by kernel_rfl
abbrev FairC (l : List Mc) (t : Tc) (w : World) (e : Ending) (w' : World) : Prop :=
  ∃ k : Int, e = .returned (.tuple #[J k, J (frE l t)]) ∧ (frE l t = 0 → IsLast l t k) ∧ (¬ frE l t = 0 → k = 0) ∧ Below w.heap.size w w'
theorem fairC_bad {l : List Mc} {t : Tc} {w w' : World} {z : Int} (h : frE l t = z) (hz : ¬ z = 0) (hb : Below w.heap.size w w') : FairC l t w (.returned (.tuple #[J 0, J z])) w' :=
  ⟨0, by rw [h], fun h0 => absurd (h.symm.trans h0) hz, fun _ => rfl, hb⟩
theorem fairC_ok {l : List Mc} {t : Tc} {w w' : World} {k : Int} (h : frE l t = 0) (hk : IsLast l t k) (hb : Below w.heap.size w w') : FairC l t w (.returned (.tuple #[J k, J 0])) w' :=
  ⟨k, by rw [h], fun _ => hk, fun h0 => absurd h h0, hb⟩
set_option maxRecDepth 10000 in
set_option maxHeartbeats 4000000 in
theorem fair_any {v : Value} {l : List Mc} {d s a : Int} {f : Bool} {x : Int} {w : World} (hl : Ms w v l) :
    Calls Tryz.prog 33 #[v, .agg #[J d, J s, J a, .bool f, J x]] w fun e w' => FairC l (d, s, a, f, x) w e w' := by
  have HL : Hid (Ms w v l) := hl
  obtain ⟨va, vk, rfl, hc1, hc2⟩ := hl.shape
  clear hl
  unfold maxLen at hc2
  by_cases hlen : l.length ≤ 121
  rotate_left
  · have HE : Hid (frE l (d, s, a, f, x) = 1) := by show _ = _; rw [frE, if_neg hlen]
    have q : (121 : Int) < l.length := by omega
    clear hlen hc1 hc2
    go_enter Tryz.func33, Tryz.ntmps33
    go_wp2
    go_ret2
    exact fairC_bad HE.out (by decide) (bel_alloc (Below.refl _ _) _)
  have q : ¬ (121 : Int) < l.length := by omega
  have HN : Hid (l.length ≤ 121) := hlen
  clear hlen hc1 hc2
  have X1 := Box.newAt (w := w) (n := w.heap.size) rfl 72 #[J d, J s, J a, .bool f, J x]
  have BW : Hid (Below w.heap.size w (w.alloc (.cells #[J d, J s, J a, .bool f, J x] 72))) := bel_alloc (Below.refl w.heap.size w) _
  go_enter Tryz.func33, Tryz.ntmps33
  go_upto_region 1 with fail
  generalize (w.alloc (.cells #[J d, J s, J a, .bool f, J x] 72)) = W at *
  have XW := X1
  go_wp2
  go_loopw [7, 8, 16] (fun _ _ s wx => ∃ i : Nat, s = J i ∧ i ≤ l.length ∧ (∀ j, j < i → chkM (mth l j) = 0) ∧ Below W.heap.size W wx) (fun _ _ s _ => l.length - (intOf s).toNat)
  case atStart => exact ⟨0, rfl, Nat.zero_le _, fun j hj => absurd hj (Nat.not_lt_zero _), Below.refl _ _⟩
  case round =>
    obtain ⟨i, rfl, hi, hpre, hb⟩ := hrel
    have HP : Hid (∀ j, j < i → chkM (mth l j) = 0) := hpre
    have HB : Hid (Below W.heap.size W wr) := hb
    have X1 := X1.keep hb
    clear hpre hb
    have i121 : i ≤ 121 := by have := HN.out; omega
    by_cases hlt : i < l.length
    · have hlt1 : (i : Int) < l.length := by omega
      obtain ⟨b, o, cs, hva, hbl, hM, hA⟩ := HL.out.at (bel_trans BW.out HB.out) hlt
      subst hva
      obtain ⟨hs, ha⟩ := hM.size
      have HI : (Tryz.prog.info? 33).map (·.size) = some cs.size := by rw [infoM, hs]
      obtain ⟨n7, hn7⟩ : ∃ n, wr.heap.size = n := ⟨_, rfl⟩
      have Z7 : Box (wr.alloc (.cells #[.slice none 0 0, J 0, .slice none 0 0, .bool false, J 0, J 0, .slice none 0 0, J 0, J 0, J 0, .bool false, J 0, J 0, J 0, J 0, .bool false] 33)) n7 33 #[.slice none 0 0, J 0, .slice none 0 0, .bool false, J 0, J 0, .slice none 0 0, J 0, J 0, J 0, .bool false, J 0, J 0, J 0, J 0, .bool false] := Box.newAt hn7.symm _ _
      have X7 := Z7.setRow cs
      have BX : Hid (Below wr.heap.size wr ((wr.alloc (.cells #[.slice none 0 0, J 0, .slice none 0 0, .bool false, J 0, J 0, .slice none 0 0, J 0, J 0, J 0, .bool false, J 0, J 0, J 0, J 0, .bool false] 33)).setRow n7 cs)) := bel_setRow (by omega) (bel_alloc (Below.refl _ _) _) _
      have HMM : Hid (IsM wr (mth l i) cs) := hM
      clear hM
      go_wp2_with (first
        | fail
        | (refine wpList_load_off rfl 33 (.tmp 18) rfl b (o + i * 16) rfl cs _ hA Tryz.underlying33 rfl HI ?_)
        | (refine wpList_store_row rfl 33 (.tmp 7) (.tmp 19) rfl n7 cs rfl rfl _ _ Z7 HI (by rw [hs]; rfl) ha ?_)
        | (refine wpList_load_row rfl 33 (.tmp 7) rfl n7 rfl _ _ _ _ X7 Tryz.underlying33 rfl HI ?_))
      refine (mCheck_row (HMM.out.keep BX.out)).mono ?_
      rintro e w3 ⟨rfl, b3⟩
      have B3 : Hid (Below W.heap.size W w3) := bel_trans HB.out (bel_trans BX.out b3)
      clear b3 BX X7 Z7 hA HI
      obtain ⟨z, hz⟩ : ∃ z, chkM (mth l i) = z := ⟨_, rfl⟩
      have HZ : Hid (chkM (mth l i) = z) := hz
      rw [hz]
      clear hz
      by_cases h0 : z = 0
      · subst h0
        have q0 : ((0 : Int) != 0) = false := rfl
        go_wp2_with fail
        refine ⟨⟨i + 1, by go_num, by omega, fun j hj => ?_, B3.out⟩, by simp [intOf]; omega⟩
        by_cases e : j = i
        · rw [e]; exact HZ.out
        · exact HP.out j (by omega)
      · have q0 : (z != 0) = true := by simpa using h0
        have HE : Hid (frE l (d, s, a, f, x) = z) := by
          have hb := mcE_bad HP.out hlt (by rw [HZ.out]; exact h0)
          rw [HZ.out] at hb
          show _ = _
          rw [frE, if_pos HN.out, if_neg (by rw [hb]; exact h0), hb]
        have HZ0 : Hid (¬ z = 0) := h0
        clear h0
        go_wp2_with fail
        go_ret2
        exact fairC_bad HE.out HZ0.out (bel_trans BW.out B3.out)
    · obtain rfl : i = l.length := by omega
      have hnl : ¬ (l.length : Int) < l.length := by omega
      have HMC : Hid (mcE l = 0) := mcE_mk HP.out
      clear hlt HP
      obtain ⟨t0, t1, t2, t3, t4⟩ := X1.blk.five
      have s1 := X1.lt
      go_wp2_with fail
      refine (aCheck_any d s a f x _).mono ?_
      rintro e w3 ⟨rfl, b3⟩
      have X1 := X1.keep b3
      have B3 : Hid (Below W.heap.size W w3) := bel_trans HB.out b3
      clear b3 t0 t1 t2 t3 t4 s1 HB
      obtain ⟨z, hz⟩ : ∃ z, ckT (d, s, a, f, x) = z := ⟨_, rfl⟩
      have HT : Hid (ckT (d, s, a, f, x) = z) := hz
      have HE : Hid (frE l (d, s, a, f, x) = z) := by show _ = _; rw [frE, if_pos HN.out, if_pos HMC.out, hz]
      rw [hz]
      clear hz
      by_cases h0 : z = 0
      rotate_left
      · have q0 : (z != 0) = true := by simpa using h0
        have HZ0 : Hid (¬ z = 0) := h0
        clear h0
        go_wp2_with fail
        go_ret2
        exact fairC_bad HE.out HZ0.out (bel_trans BW.out B3.out)
      subst h0
      have q0 : ((0 : Int) != 0) = false := rfl
      go_wp2_with fail
      go_loopw [10] (fun s2 wx => ∃ k : Int, s2 = J k ∧ (-1 ≤ k ∧ k < l.length) ∧ (∀ j : Nat, k < j → j < l.length → lets (mth l j) (d, s, a, f, x) = false) ∧ Below W.heap.size W wx) (fun s2 _ => (intOf s2 + 1).toNat)
      case atStart => exact ⟨(l.length : Int) - 1, by go_num, by omega, fun j h1 h2 => absurd h1 (by omega), B3.out⟩
      case round =>
        obtain ⟨k, rfl, ⟨hk1, hk2⟩, hpre, hb⟩ := hrel
        have HP : Hid (∀ j : Nat, k < j → j < l.length → lets (mth l j) (d, s, a, f, x) = false) := hpre
        have HB : Hid (Below W.heap.size W wr) := hb
        clear hpre hb
        by_cases hk0 : 0 ≤ k
        rotate_left
        · obtain rfl : k = -1 := by omega
          have HF : Hid (IsLast l (d, s, a, f, x) (-1)) := ⟨by omega, fun h => absurd h (by decide), HP.out⟩
          clear hk0 hk1 hk2 HP
          go_wp2_with fail
          go_ret2
          exact fairC_ok HE.out HF.out (bel_trans BW.out HB.out)
        obtain ⟨n, rfl⟩ : ∃ n : Nat, k = n := ⟨k.toNat, by omega⟩
        have hn : n < l.length := by omega
        obtain ⟨b, o, cs, hva, hbl, hM, hA⟩ := HL.out.at (bel_trans BW.out HB.out) hn
        subst hva
        obtain ⟨hs, ha⟩ := hM.size
        have hlt1 : (n : Int) < l.length := by omega
        have hge1 : (0 : Int) ≤ n := by omega
        have X1 := XW.keep HB.out
        have HI : (Tryz.prog.info? 33).map (·.size) = some cs.size := by rw [infoM, hs]
        have n121 : n ≤ 121 := by have := HN.out; omega
        go_upto_region 16 with fail
        refine wp_region_held_drew (S := fun w' => Below wr.heap.size wr w') (by kernel_rfl) (Below.drew (Below.refl _ _)) (fun hHeld => ?_)
        refine tkH 0 rfl (by kernel_rfl) (fun _ _ _ h => h) (by assumption) (by intro wz hSz; (try dsimp only at hSz); go_simp; (try with_reducible rfl)) ?_
        simp only [nmz]
        refine tkH 1 rfl (by kernel_rfl) (fun _ _ _ h => h) (by assumption) (by intro wz hSz; (try dsimp only at hSz); go_simp; (try with_reducible rfl)) ?_
        simp only [nmz]
        refine tkH 2 rfl (by kernel_rfl) (fun _ _ _ h => h) (by assumption) (by intro wz hSz; (try dsimp only at hSz); go_simp; (try with_reducible rfl)) ?_
        simp only [nmz]
        refine wpHeld_takeL (i := 3) (v := .agg cs) rfl (by kernel_rfl) (by kernel_rfl) (by kernel_rfl) (fun _ _ _ h => h) (yields_off (by kernel_rfl) 33 (.tmp 40) rfl rfl (fun wz hSz => run_loadVar_off wz b (o + n * 16) _ cs _ (hA.keep hSz hbl) Tryz.underlying33 rfl HI)) (by assumption) ?_
        simp only [nmz]
        refine wpHeld_takeL (i := 4) (v := .agg #[J d, J s, J a, .bool f, J x]) rfl (by kernel_rfl) (by kernel_rfl) (by kernel_rfl) (fun _ _ _ h => h) (yields_row (by kernel_rfl) 72 (.tmp 3) rfl rfl (fun wz hSz => run_loadVar_row wz _ _ _ _ _ _ (X1.keep hSz) Tryz.underlying72 rfl (by rw [infoTc]; rfl))) (by assumption) ?_
        simp only [nmz]
        refine wpHeld_oneL (i := 5) (by kernel_rfl) (by rfl) (fun K hK => ?_)
        go_simp
        refine (lets_row (hM.keep hHeld) (mcE_zero HMC.out n hn) HT.out).mono ?_
        rintro e w5 ⟨rfl, b5⟩
        obtain ⟨y, hy⟩ : ∃ y, lets (mth l n) (d, s, a, f, x) = y := ⟨_, rfl⟩
        have HY : Hid (lets (mth l n) (d, s, a, f, x) = y) := hy
        rw [hy]
        clear hy
        go_wp2_with fail
        refine hK.out _ _ (bel_trans hHeld b5) (fun hHeld2 => ?_)
        clear hK K hHeld b5
        refine wpAnyH_done (by kernel_rfl) ?_ _
        have B5 : Hid (Below W.heap.size W w5) := bel_trans HB.out hHeld2
        clear hHeld2 hM hA X1 HI
        cases y with
        | true =>
          go_wp2_with fail
          go_ret2
          exact fairC_ok HE.out ⟨by omega, fun _ => HY.out, HP.out⟩ (bel_trans BW.out B5.out)
        | false =>
          go_wp2_with fail
          refine ⟨⟨(n : Int) - 1, by go_num, by omega, fun j h1 h2 => ?_, B5.out⟩, by simp [intOf]⟩
          by_cases e : j = n
          · rw [e]; exact HY.out
          · exact HP.out j (by omega) h2
def FairL (A mb : Nat) (w : World) (i : Nat) (s5 : Value) (wx : World) : Prop :=
  ∃ (cs : Array Value) (m : Mc) (ps : List Mc) (s : Int → Int → Nat) (css : List (Array Value)) (g cap n : Nat), (Box wx A 33 cs ∧ IsM wx m cs ∧ FairI ps s m) ∧ (s5 = .slice (some ⟨g, 0, none⟩) ps.length cap ∧ OwnP wx (A + 1) (.slice (some ⟨g, 0, none⟩) ps.length cap) css ∧ PastI (fun q => q = A ∨ q = g ∨ q = mb) wx css ps ∧ OffM (fun q => q = A ∨ q = g ∨ q = mb) m cs) ∧
    (SinceM wx mb n s ∧ n ≤ 512 * i ∧ ps.length ≤ i + 1) ∧ (A < g ∧ A < mb ∧ g ≠ mb) ∧ Below w.heap.size w wx
def SinceL (m : Mc) (s s' : Int → Int → Nat) (k a b : Nat) : Prop :=
  (∀ d p : Int, (0 ≤ d ∧ d ≤ 7) → (0 ≤ p ∧ p ≤ 63) → s' d p = if (d < a ∨ d = a ∧ p < b) ∧ drpM m d p = true then k else s d p) ∧ ∀ d p, s' d p ≤ k
theorem SinceL.start {m : Mc} {s : Int → Int → Nat} {k : Nat} (h : ∀ d p, s d p < k) : SinceL m s s k 0 0 :=
  ⟨fun d p hd hp => by rw [if_neg (by rintro ⟨h, -⟩; omega)], fun d p => Nat.le_of_lt (h d p)⟩
theorem SinceL.row {m : Mc} {s s' : Int → Int → Nat} {k a : Nat} (h : SinceL m s s' k a 64) : SinceL m s s' k (a + 1) 0 := by
  refine ⟨fun d p hd hp => ?_, h.2⟩
  rw [h.1 d p hd hp]
  have e : ((d < (a : Int) ∨ d = a ∧ p < (64 : Nat)) ∧ drpM m d p = true) ↔ ((d < ((a + 1 : Nat) : Int) ∨ d = ((a + 1 : Nat) : Int) ∧ p < (0 : Nat)) ∧ drpM m d p = true) := by
    constructor
    · rintro ⟨h1, h2⟩; exact ⟨by omega, h2⟩
    · rintro ⟨h1, h2⟩; exact ⟨by omega, h2⟩
  simp only [e]
theorem SinceL.no {m : Mc} {s s' : Int → Int → Nat} {k a b : Nat} (h : SinceL m s s' k a b) (hn : drpM m a b = false) : SinceL m s s' k a (b + 1) := by
  refine ⟨fun d p hd hp => ?_, h.2⟩
  rw [h.1 d p hd hp]
  have e : ((d < (a : Int) ∨ d = a ∧ p < (b : Int)) ∧ drpM m d p = true) ↔ ((d < (a : Int) ∨ d = a ∧ p < ((b + 1 : Nat) : Int)) ∧ drpM m d p = true) := by
    constructor
    · rintro ⟨h1, h2⟩; exact ⟨by omega, h2⟩
    · rintro ⟨h1, h2⟩
      refine ⟨?_, h2⟩
      by_cases e1 : d = a ∧ p = b
      · rw [e1.1, e1.2, hn] at h2; cases h2
      · omega
  simp only [e]
theorem SinceL.yes {m : Mc} {s s' : Int → Int → Nat} {k a b : Nat} (h : SinceL m s s' k a b) (hn : drpM m a b = true) : SinceL m s (fun d' p' => if d' = (a : Int) ∧ p' = (b : Int) then k else s' d' p') k a (b + 1) := by
  refine ⟨fun d p hd hp => ?_, fun d p => ?_⟩
  · show (if d = (a : Int) ∧ p = (b : Int) then k else s' d p) = _
    by_cases e1 : d = a ∧ p = b
    · obtain ⟨rfl, rfl⟩ := e1
      rw [if_pos ⟨rfl, rfl⟩, if_pos ⟨by omega, hn⟩]
    · rw [if_neg e1, h.1 d p hd hp]
      have e : ((d < (a : Int) ∨ d = a ∧ p < (b : Int)) ∧ drpM m d p = true) ↔ ((d < (a : Int) ∨ d = a ∧ p < ((b + 1 : Nat) : Int)) ∧ drpM m d p = true) := by
        constructor
        · rintro ⟨h1, h2⟩; exact ⟨by omega, h2⟩
        · rintro ⟨h1, h2⟩; exact ⟨by omega, h2⟩
      simp only [e]
  · show (if d = (a : Int) ∧ p = (b : Int) then k else s' d p) ≤ k
    split
    · exact Nat.le_refl _
    · exact h.2 d p
theorem grownOf {b : Nat} {w w' : World} (k : KeptB (fun q => q = b) w w') : w.grownBy w' (some b) := ⟨k.os, k.tape, k.output, k.size, fun i hi hn => k.block i hi (fun e => hn (by rw [e]))⟩
theorem SinceL.full {m : Mc} {s s' : Int → Int → Nat} {k : Nat} (h : SinceL m s s' k 8 0) : ∀ d p : Int, (0 ≤ d ∧ d ≤ 7) → (0 ≤ p ∧ p ≤ 63) → s' d p = if drpM m d p = true then k else s d p := fun d p hd hp => by
  rw [h.1 d p hd hp]
  have e : ((d < ((8 : Nat) : Int) ∨ d = ((8 : Nat) : Int) ∧ p < ((0 : Nat) : Int)) ∧ drpM m d p = true) ↔ drpM m d p = true := by
    constructor
    · exact fun h => h.2
    · exact fun h => ⟨by omega, h⟩
  simp only [e]
def OrdI (now : Mc) (s : Int → Int → Nat) (k mb N : Nat) (w WL : World) (a b : Nat) (wx : World) : Prop :=
  ∃ (s' : Int → Int → Nat) (n' : Nat), SinceL now s s' k a b ∧ SinceM wx mb n' s' ∧ n' ≤ N + 64 * a + b ∧ KeptB (fun q => q = mb) WL wx ∧ Below w.heap.size w wx
theorem fairL_next {A mb i g n g' cap' : Nat} {w W W1 W2 w' : World} {cs0 cs1 : Array Value} {Y : Mc} {ps : List Mc} {s' : Int → Int → Nat} {css : List (Array Value)}
    (X0 : Box W A 33 cs0) (hM : IsM W Y cs1) (hO : OffM (fun q => q = A ∨ q = g ∨ q = mb) Y cs1) (hP : PastI (fun q => q = A ∨ q = g ∨ q = mb) W css ps) (hS : SinceM W mb n s') (hn : n ≤ 512 * (i + 1)) (hpl : ps.length ≤ i + 1) (hF : FairI (ps ++ [Y]) s' Y)
    (hg1 : A < g) (hg2 : A < mb) (hg3 : g ≠ mb) (hA : w.heap.size ≤ A) (hB : Below w.heap.size w W) (e1 : W1 = W.setRow A cs1) (e2 : W2 = W1.alloc (.cells cs1 33))
    (hgr : W2.grownBy w' (some g)) (hat : some g = some g' ∨ g' = W2.heap.size) (hown : OwnP w' (A + 1) (.slice (some ⟨g', 0, none⟩) (css.length + 1) cap') (css ++ [cs1])) :
    FairL A mb w (i + 1) (.slice (some ⟨g', 0, none⟩) (css.length + 1) cap') w' := by
  have hl := hP.1
  have K1 : KeptB (fun q => q = A) W W1 := by rw [e1]; exact (KeptB.refl (fun q => q = A) W).setRow (n := A) (.inl rfl) _
  have b2 : Below W1.heap.size W1 W2 := by rw [e2]; exact bel_alloc (Below.refl _ _) _
  have K2 : KeptB (fun q => some g = some q) W2 w' := keptOf hgr
  have Y0 : Box W1 A 33 cs1 := by rw [e1]; exact X0.setRow cs1
  have hM2 : IsM W2 Y cs1 := (hM.keptM K1 (hO.less (fun q hq => .inl hq))).keep b2
  have hOn : OffM (fun q => (q = A ∨ q = g ∨ q = mb) ∨ W2.heap.size ≤ q) Y cs1 := hO.or (OffM.new hM2)
  have hM3 : IsM w' Y cs1 := hM2.keptM K2 (hO.less (fun q hq => .inr (.inl (by simpa using hq.symm))))
  have hP2 : PastI (fun q => q = A ∨ q = g ∨ q = mb) W2 css ps := (hP.kept K1 (fun q hq => .inl hq)).keep b2
  have hP3 : PastI (fun q => (q = A ∨ q = g ∨ q = mb) ∨ W2.heap.size ≤ q) w' css ps := hP2.wide.kept K2 (fun q hq => .inl (.inr (.inl (by simpa using hq.symm))))
  have hS2 : SinceM W2 mb n s' := (hS.keptG (grownOf K1) (by simp; omega)).keep b2
  have hS3 : SinceM w' mb n s' := hS2.keptG hgr (by simpa using hg3)
  have hmW := hS2.lt
  have hbad : ∀ q, (q = A ∨ q = g' ∨ q = mb) → ((q = A ∨ q = g ∨ q = mb) ∨ W2.heap.size ≤ q) := fun q hq => by
    rcases hq with e | e | e
    · exact .inl (.inl e)
    · rcases hat with h | h
      · exact .inl (.inr (.inl (by simp at h; omega)))
      · exact .inr (by omega)
    · exact .inl (.inr (.inr e))
  have hb := hown.base g' rfl
  refine ⟨cs1, Y, ps ++ [Y], s', css ++ [cs1], g', cap', n, ⟨(Y0.keep b2).kept K2 (by simp; omega), hM3, hF⟩, ⟨by rw [List.length_append, hl]; rfl, ?_, (hP3.less hbad).snoc hM3 (hOn.less hbad), hOn.less hbad⟩, ⟨hS3, hn, by simp; omega⟩, ⟨by omega, hg2, ?_⟩, ?_⟩
  · rw [List.length_append]
    rw [hl] at hown
    exact hown
  · rcases hat with h | h
    · simp at h; omega
    · omega
  · have h1 : Below w.heap.size w W1 := by rw [e1]; exact bel_setRow hA hB _
    have h2 := bel_trans h1 b2
    exact h2.grown hgr h2.size (fun k hk => by simp at hk; omega)
end Go.Proofs.YthlhocneggcekaaGreat
