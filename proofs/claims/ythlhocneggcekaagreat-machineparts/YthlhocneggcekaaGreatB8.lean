/-
  Laid together: TellMath, DmaMath, HeldMath, DoHeld, MachMath.
-/
import Derived.Test.YthlhocneggcekaaGreatB1
import Derived.Test.YthlhocneggcekaaGreatB2
import Derived.Test.YthlhocneggcekaaGreatB3
import Derived.Test.YthlhocneggcekaaGreatB4
import Derived.Test.YthlhocneggcekaaGreatB5
import Derived.Test.YthlhocneggcekaaGreatB6
import Derived.Test.YthlhocneggcekaaGreatB7
import Derived.Deep.RegionHeld3
import Derived.Test.YthlhocneggcekaaGreatRows
import Derived.WalkKit
import Derived.WalkSpells
import Derived.WalkLawsBesides
import Derived.Below
import Derived.WalkSmall
import Derived.Deep.QuietTactic
import Derived.BigQuiet
import Derived.Deep.Draws
import Derived.Deep.AppendLies
import Derived.Deep.RegionWith
import Derived.LoopN
import Derived.Deep.CutRange
import Derived.Deep.DrawnRows
import Derived.Laws.CopyOwn
namespace Go.Proofs.YthlhocneggcekaaGreat
open Go.RowKit
def tlE (zs : List Int) (b : Br) (c d p : Int) : Int := if bothB zs b = 0 then fE c d p else bothB zs b
def fullB (b : Br) : Bool := b.lost || decide (lenR b.fh b.ft = 7)
def tlM (zs : List Int) (b : Br) (c d p : Int) (x : Bool) : List Int :=
  if tlE zs b c d p = 0 then (if fullB b = true then zs else zs.set (b.fp * 8 + b.ft).toNat (fW c d p x)) else []
def tlB (zs : List Int) (b : Br) (c d p : Int) : Br :=
  if tlE zs b c d p = 0 then (if fullB b = true then { b with lost := true } else { b with ft := (b.ft + 1) % 8 }) else B0
def obE (zs : List Int) (b : Br) : Int := if bothB zs b = 0 then (if b.stop = true then 6 else if b.oh = b.ot then 6 else 0) else bothB zs b
def ordW (zs : List Int) (b : Br) : Int := nth zs (b.op * 8 + b.oh).toNat
def obB (zs : List Int) (b : Br) : Br :=
  if obE zs b = 0 then
    (if roE (ordW zs b) = 0 then { b with oh := (b.oh + 1) % 8, cache := drC b.cache (roO (ordW zs b)).1 (roO (ordW zs b)).2.1 (roO (ordW zs b)).2.2, fen := if (roO (ordW zs b)).1 = 0 then (b.fen + 1) % 1000 else b.fen }
    else { b with stop := true })
  else B0
theorem tlE_ok {zs : List Int} {b : Br} {c d p : Int} (h : tlE zs b c d p = 0) : chk zs = 0 ∧ chkB b = 0 ∧ fE c d p = 0 := by
  unfold tlE at h
  by_cases hb : bothB zs b = 0
  · rw [if_pos hb] at h
    exact ⟨(bothB_ok hb).1, (bothB_ok hb).2, h⟩
  · rw [if_neg hb] at h; exact absurd h hb
theorem fW_word {c d p : Int} (x : Bool) (h : fE c d p = 0) : wordB (fW c d p x) = true := by
  have := (rfE_ok (f_back (x := x) h).1).1
  simp [wordB]; omega
theorem tl_good {zs : List Int} {b : Br} {c d p : Int} (x : Bool) (h : tlE zs b c d p = 0) : chk (tlM zs b c d p x) = 0 ∧ chkB (tlB zs b c d p) = 0 ∧ (tlB zs b c d p).lost = fullB b := by
  obtain ⟨h1, h2, h3⟩ := tlE_ok h
  obtain ⟨g1, g2, g3, g4, g5, g6⟩ := chkB_ok h2
  rw [tlM, if_pos h, tlB, if_pos h]
  by_cases hf : fullB b = true
  · rw [if_pos hf, if_pos hf]
    exact ⟨h1, chkB_mk g1 g2 g3 g4 g5 g6, hf.symm⟩
  · rw [if_neg hf, if_neg hf]
    obtain ⟨r1, r2, r3⟩ := chkR_ok g6
    have hl : b.lost = false := by
      simp only [fullB, Bool.or_eq_true, not_or] at hf
      simpa using hf.1
    refine ⟨chk_set h1 (fW_word x h3), chkB_mk g1 g2 g3 g4 g5 (chkR_mk r1 r2 ?_), ?_⟩
    · simp [stepR]; omega
    · have : fullB b = false := by simpa using hf
      rw [this]; exact hl
theorem obE_ok {zs : List Int} {b : Br} (h : obE zs b = 0) : chk zs = 0 ∧ chkB b = 0 ∧ b.stop = false ∧ ¬ b.oh = b.ot := by
  unfold obE at h
  by_cases hb : bothB zs b = 0
  · rw [if_pos hb] at h
    by_cases hs : b.stop = true
    · rw [if_pos hs] at h; exact absurd h (by decide)
    · rw [if_neg hs] at h
      by_cases he : b.oh = b.ot
      · rw [if_pos he] at h; exact absurd h (by decide)
      · exact ⟨(bothB_ok hb).1, (bothB_ok hb).2, by simpa using hs, he⟩
  · rw [if_neg hb] at h; exact absurd h hb
theorem ob_bad {zs : List Int} {b : Br} (h : obE zs b = 0) (hr : ¬ roE (ordW zs b) = 0) : obB zs b = { b with stop := true } ∧ chkB (obB zs b) = 0 := by
  obtain ⟨_, h2, _, _⟩ := obE_ok h
  obtain ⟨g1, g2, g3, g4, g5, g6⟩ := chkB_ok h2
  have e : obB zs b = { b with stop := true } := by rw [obB, if_pos h, if_neg hr]
  rw [e]
  exact ⟨rfl, chkB_mk g1 g2 g3 g4 g5 g6⟩
theorem ob_right {zs : List Int} {b : Br} {k d p : Int} (h : obE zs b = 0) (hr : roE (ordW zs b) = 0) (ho : roO (ordW zs b) = (k, d, p)) :
    obB zs b = { b with oh := (b.oh + 1) % 8, cache := drC b.cache k d p, fen := if k = 0 then (b.fen + 1) % 1000 else b.fen } ∧ chkB (obB zs b) = 0 ∧ drE b.cache k = 0 ∧ (0 ≤ k ∧ k ≤ 3) ∧ lenR ((b.oh + 1) % 8) b.ot = lenR b.oh b.ot - 1 := by
  obtain ⟨_, h2, _, h4⟩ := obE_ok h
  obtain ⟨g1, g2, g3, g4, g5, g6⟩ := chkB_ok h2
  obtain ⟨r1, r2, r3⟩ := chkR_ok g5
  have hk : 0 ≤ k ∧ k ≤ 3 := by
    have := (oE_ok (o_read hr ho).1).1
    omega
  have hd : drE b.cache k = 0 := by rw [drE, if_pos g4, if_pos hk]
  have e : obB zs b = { b with oh := (b.oh + 1) % 8, cache := drC b.cache k d p, fen := if k = 0 then (b.fen + 1) % 1000 else b.fen } := by
    rw [obB, if_pos h, if_pos hr, ho]
  refine ⟨e, ?_, hd, hk, ?_⟩
  · rw [e]
    refine chkB_mk g1 g2 ?_ (drop_good hd) (chkR_mk r1 ?_ r3) g6
    · show 0 ≤ (if k = 0 then (b.fen + 1) % 1000 else b.fen) ∧ (if k = 0 then (b.fen + 1) % 1000 else b.fen) ≤ 999
      split <;> omega
    · simp [stepR]; omega
  · have a := stepR_in r2
    have c := stepR_in r3
    unfold lenR; omega
abbrev Tc := Int × Int × Int × Bool × Int
def tth (l : List Tc) (i : Nat) : Tc := l.getD i (0, 0, 0, false, 0)
def needA (wr : Bool) (n : Int) : Int := if wr = true then n else 0
def hasW (a n : Int) : Bool := decide (0 ≤ a ∧ a ≤ 512 - n)
def ckA (d a n : Int) (wr : Bool) (ds : List Int) : Int :=
  if 1 ≤ n ∧ n ≤ 20 then (if (0 ≤ d ∧ d ≤ 7) ∧ hasW a n = true then (if (ds.length : Int) = needA wr n then (if ds.all wordB = true then 0 else 2) else 3) else 4) else 1
def doE (zs : List Int) (b : Br) (d a n : Int) (wr : Bool) (ds : List Int) : Int := if bothB zs b = 0 then ckA d a n wr ds else bothB zs b
theorem ckA_ok {d a n : Int} {wr : Bool} {ds : List Int} (h : ckA d a n wr ds = 0) : (1 ≤ n ∧ n ≤ 20) ∧ (0 ≤ d ∧ d ≤ 7) ∧ (0 ≤ a ∧ a ≤ 512 - n) ∧ (ds.length : Int) = needA wr n ∧ ds.all wordB = true := by
  unfold ckA at h
  by_cases h1 : 1 ≤ n ∧ n ≤ 20
  · rw [if_pos h1] at h
    by_cases h2 : (0 ≤ d ∧ d ≤ 7) ∧ hasW a n = true
    · rw [if_pos h2] at h
      by_cases h3 : (ds.length : Int) = needA wr n
      · rw [if_pos h3] at h
        by_cases h4 : ds.all wordB = true
        · exact ⟨h1, h2.1, by simpa [hasW] using h2.2, h3, h4⟩
        · rw [if_neg h4] at h; exact absurd h (by decide)
      · rw [if_neg h3] at h; exact absurd h (by decide)
    · rw [if_neg h2] at h; exact absurd h (by decide)
  · rw [if_neg h1] at h; exact absurd h (by decide)
theorem doE_ok {zs : List Int} {b : Br} {d a n : Int} {wr : Bool} {ds : List Int} (h : doE zs b d a n wr ds = 0) : chk zs = 0 ∧ chkB b = 0 ∧ ckA d a n wr ds = 0 := by
  unfold doE at h
  by_cases hb : bothB zs b = 0
  · rw [if_pos hb] at h; exact ⟨(bothB_ok hb).1, (bothB_ok hb).2, h⟩
  · rw [if_neg hb] at h; exact absurd h hb
theorem doE_mk {zs : List Int} {b : Br} {d a n : Int} {wr : Bool} {ds : List Int} (h1 : chk zs = 0) (h2 : chkB b = 0) (h3 : ckA d a n wr ds = 0) : doE zs b d a n wr ds = 0 := by
  rw [doE, if_pos (bothB_mk h1 h2), h3]
structure St where
  zs : List Int
  b : Br
  dat : List Int
  tch : List Tc
def plc (k : Int) (x : Nat) : Int := k * 8 + ((x % 8 : Nat) : Int)
theorem plc_in {k : Int} (x : Nat) (h : 0 ≤ k ∧ k ≤ 63) : 0 ≤ plc k x ∧ plc k x < 512 := by unfold plc; omega
def wdM (wr : Bool) (ds : List Int) (o : Nat) (k : Int) (x : Nat) (zs : List Int) : List Int := if wr = true then zs.set (plc k x).toNat (nth ds (x - o)) else zs
def wd (d : Int) (wr : Bool) (ds : List Int) (o : Nat) (k : Int) (x : Nat) (s : St) : St :=
  ⟨wdM wr ds o k x s.zs, s.b, if wr = true then s.dat else s.dat ++ [nth s.zs (plc k x).toNat], s.tch ++ [(d, (x : Int), plc k x, wr, nth (wdM wr ds o k x s.zs) (plc k x).toNat)]⟩
def wds (d : Int) (wr : Bool) (ds : List Int) (o : Nat) (k : Int) : Nat → Nat → St → St
  | 0, _, s => s
  | m + 1, x, s => wds d wr ds o k m (x + 1) (wd d wr ds o k x s)
def runW (d : Int) (wr : Bool) (ds : List Int) (o : Nat) : Nat → Nat → Int → St → St × Int
  | 0, _, _, s => (s, 0)
  | m + 1, x, k, s =>
    if x = o ∨ x % 8 = 0 then
      (if (goT s.zs s.b d ((x / 8 : Nat) : Int) wr).2.2 = 0 then runW d wr ds o m (x + 1) (goT s.zs s.b d ((x / 8 : Nat) : Int) wr).2.1 (wd d wr ds o (goT s.zs s.b d ((x / 8 : Nat) : Int) wr).2.1 x ⟨s.zs, (goT s.zs s.b d ((x / 8 : Nat) : Int) wr).1, s.dat, s.tch⟩)
      else (⟨tlM s.zs (goT s.zs s.b d ((x / 8 : Nat) : Int) wr).1 (goT s.zs s.b d ((x / 8 : Nat) : Int) wr).2.2 d ((x / 8 : Nat) : Int) wr, tlB s.zs (goT s.zs s.b d ((x / 8 : Nat) : Int) wr).1 (goT s.zs s.b d ((x / 8 : Nat) : Int) wr).2.2 d ((x / 8 : Nat) : Int), s.dat, s.tch⟩, (goT s.zs s.b d ((x / 8 : Nat) : Int) wr).2.2))
    else runW d wr ds o m (x + 1) k (wd d wr ds o k x s)
def doR (zs : List Int) (b : Br) (d a n : Int) (wr : Bool) (ds : List Int) : St × Int :=
  if doE zs b d a n wr ds = 0 then runW d wr ds a.toNat n.toNat a.toNat 0 ⟨zs, b, [], []⟩ else (⟨[], B0, [], []⟩, 0)
theorem runW_zero (d : Int) (wr : Bool) (ds : List Int) (o x : Nat) (k : Int) (s : St) : runW d wr ds o 0 x k s = (s, 0) := rfl
theorem runW_page {d : Int} {wr : Bool} {ds : List Int} {o m x : Nat} {k k' : Int} {s : St} {c : Br} (hx : x = o ∨ x % 8 = 0) (hg : goT s.zs s.b d ((x / 8 : Nat) : Int) wr = (c, k', 0)) :
    runW d wr ds o (m + 1) x k s = runW d wr ds o m (x + 1) k' (wd d wr ds o k' x ⟨s.zs, c, s.dat, s.tch⟩) := by
  rw [runW, if_pos hx, hg, if_pos rfl]
theorem runW_fault {d : Int} {wr : Bool} {ds : List Int} {o m x : Nat} {k k' f : Int} {s : St} {c : Br} (hx : x = o ∨ x % 8 = 0) (hg : goT s.zs s.b d ((x / 8 : Nat) : Int) wr = (c, k', f)) (hf : ¬ f = 0) :
    runW d wr ds o (m + 1) x k s = (⟨tlM s.zs c f d ((x / 8 : Nat) : Int) wr, tlB s.zs c f d ((x / 8 : Nat) : Int), s.dat, s.tch⟩, f) := by
  rw [runW, if_pos hx, hg, if_neg hf]
theorem runW_word {d : Int} {wr : Bool} {ds : List Int} {o m x : Nat} {k : Int} {s : St} (hx : ¬ (x = o ∨ x % 8 = 0)) :
    runW d wr ds o (m + 1) x k s = runW d wr ds o m (x + 1) k (wd d wr ds o k x s) := by
  rw [runW, if_neg hx]
theorem runW_words {d : Int} {wr : Bool} {ds : List Int} {o : Nat} {k : Int} : ∀ (j m x : Nat) (s : St), (∀ i, i < j → ¬ (x + i = o ∨ (x + i) % 8 = 0)) →
    runW d wr ds o (j + m) x k s = runW d wr ds o m (x + j) k (wds d wr ds o k j x s)
  | 0, m, x, s, _ => by rw [Nat.zero_add, Nat.add_zero]; rfl
  | j + 1, m, x, s, h => by
    rw [show j + 1 + m = (j + m) + 1 by omega, runW_word (by simpa using h 0 (by omega)), runW_words j m (x + 1) _ (fun i hi => by have := h (i + 1) (by omega); rw [show x + 1 + i = x + (i + 1) by omega]; exact this), show x + 1 + j = x + (j + 1) by omega]
    rfl
theorem page_run {d : Int} {wr : Bool} {ds : List Int} {o m x : Nat} {k k' : Int} {s : St} {c : Br} (hm : 0 < m) (ho : o ≤ x) (hx : x = o ∨ x % 8 = 0) (hg : goT s.zs s.b d ((x / 8 : Nat) : Int) wr = (c, k', 0)) :
    runW d wr ds o m x k s = runW d wr ds o (m - min m (8 - x % 8)) (x + min m (8 - x % 8)) k' (wds d wr ds o k' (min m (8 - x % 8)) x ⟨s.zs, c, s.dat, s.tch⟩) := by
  obtain ⟨j, hj⟩ : ∃ j, min m (8 - x % 8) = j + 1 := ⟨min m (8 - x % 8) - 1, by omega⟩
  obtain ⟨r, hr⟩ : ∃ r, m = j + r + 1 := ⟨m - (j + 1), by omega⟩
  rw [hj]
  subst hr
  rw [runW_page hx hg, runW_words j r (x + 1) _ (fun i hi => by omega), show j + r + 1 - (j + 1) = r by omega, show x + 1 + j = x + (j + 1) by omega]
  rfl
theorem runW_at {d : Int} {wr : Bool} {ds : List Int} {o m x : Nat} {s : St} (h : m = 0 ∨ x = o ∨ x % 8 = 0) (k k2 : Int) : runW d wr ds o m x k s = runW d wr ds o m x k2 s := by
  cases m with
  | zero => rfl
  | succ m =>
    have hx : x = o ∨ x % 8 = 0 := by rcases h with h | h; omega; exact h
    rw [runW, runW, if_pos hx, if_pos hx]
def GoodS (s : St) : Prop := chk s.zs = 0 ∧ chkB s.b = 0
theorem wdM_good {zs ds : List Int} {wr : Bool} {o x : Nat} {k : Int} (h : chk zs = 0) (hw : wr = true → wordB (nth ds (x - o)) = true) : chk (wdM wr ds o k x zs) = 0 := by
  unfold wdM
  cases wr
  · exact h
  · rw [if_pos rfl]; exact chk_set h (hw rfl)
theorem wd_good {d : Int} {wr : Bool} {ds : List Int} {o x : Nat} {k : Int} {s : St} (h : GoodS s) (hw : wr = true → wordB (nth ds (x - o)) = true) : GoodS (wd d wr ds o k x s) := ⟨wdM_good h.1 hw, h.2⟩
theorem all_nth {ds : List Int} (h : ds.all wordB = true) {i : Nat} (hi : i < ds.length) : wordB (nth ds i) = true := by
  rw [List.all_eq_true] at h
  rw [nth, List.getD_eq_getElem?_getD, List.getElem?_eq_getElem hi]
  exact h _ (List.getElem_mem hi)
theorem wds_good {d : Int} {wr : Bool} {ds : List Int} {o : Nat} {k : Int} : ∀ (j x : Nat) (s : St), GoodS s → (∀ i, i < j → wr = true → wordB (nth ds (x + i - o)) = true) → GoodS (wds d wr ds o k j x s)
  | 0, _, _, h, _ => h
  | j + 1, x, s, h, hw => wds_good j (x + 1) _ (wd_good h (hw 0 (by omega))) (fun i hi => by have := hw (i + 1) (by omega); rw [show x + 1 + i - o = x + (i + 1) - o by omega]; exact this)
theorem wds_snoc {d : Int} {wr : Bool} {ds : List Int} {o : Nat} {k : Int} : ∀ (j x : Nat) (s : St), wds d wr ds o k (j + 1) x s = wd d wr ds o k (x + j) (wds d wr ds o k j x s)
  | 0, _, _ => rfl
  | j + 1, x, s => by
    rw [wds, wds_snoc j (x + 1), show x + 1 + j = x + (j + 1) by omega]
    rfl
theorem wds_len {d : Int} {wr : Bool} {ds : List Int} {o : Nat} {k : Int} : ∀ (j x : Nat) (s : St), (wds d wr ds o k j x s).tch.length = s.tch.length + j
  | 0, _, _ => rfl
  | j + 1, x, s => by rw [wds, wds_len j]; simp [wd]; omega
theorem wds_dlen {d : Int} {wr : Bool} {ds : List Int} {o : Nat} {k : Int} : ∀ (j x : Nat) (s : St), (wds d wr ds o k j x s).dat.length = s.dat.length + (if wr = true then 0 else j)
  | 0, _, _ => by simp [wds]
  | j + 1, x, s => by rw [wds, wds_dlen j]; cases wr <;> simp [wd]; omega
def rep (zs ds : List Int) (T : List Tc) : Nat → List Int
  | 0 => zs
  | j + 1 => if (tth T j).2.2.2.1 = true then (rep zs ds T j).set (tth T j).2.2.1.toNat (nth ds j) else rep zs ds T j
theorem tth_left {T : List Tc} {t : Tc} {j : Nat} (h : j < T.length) : tth (T ++ [t]) j = tth T j := by simp [tth, List.getElem?_append_left h]
theorem tth_last (T : List Tc) (t : Tc) : tth (T ++ [t]) T.length = t := by simp [tth]
theorem rep_snoc {zs ds : List Int} {T : List Tc} {t : Tc} : ∀ j, j ≤ T.length → rep zs ds (T ++ [t]) j = rep zs ds T j
  | 0, _ => rfl
  | j + 1, h => by rw [rep, rep, tth_left (by omega), rep_snoc j (by omega)]
theorem rep_last (zs ds : List Int) (T : List Tc) (t : Tc) : rep zs ds (T ++ [t]) (T.length + 1) = if t.2.2.2.1 = true then (rep zs ds T T.length).set t.2.2.1.toNat (nth ds T.length) else rep zs ds T T.length := by
  simp only [rep, tth_last, rep_snoc T.length (Nat.le_refl _)]
structure HeldI (d : Int) (wr : Bool) (ds : List Int) (o : Nat) (zs : List Int) (s : St) : Prop where
  mem : s.zs = rep zs ds s.tch s.tch.length
  each : ∀ j, j < s.tch.length → ∃ p : Int, (0 ≤ p ∧ p < 512) ∧ tth s.tch j = (d, ((o + j : Nat) : Int), p, wr, nth (rep zs ds s.tch (j + 1)) p.toNat)
  read : wr = false → s.dat.length = s.tch.length ∧ ∀ j, j < s.tch.length → nth s.dat j = (tth s.tch j).2.2.2.2
  writ : wr = true → s.dat = []
theorem HeldI.start (d : Int) (wr : Bool) (ds : List Int) (o : Nat) (zs : List Int) (b : Br) : HeldI d wr ds o zs ⟨zs, b, [], []⟩ :=
  ⟨rfl, fun _ hj => absurd hj (Nat.not_lt_zero _), fun _ => ⟨rfl, fun _ hj => absurd hj (Nat.not_lt_zero _)⟩, fun _ => rfl⟩
theorem HeldI.bridge {d : Int} {wr : Bool} {ds : List Int} {o : Nat} {zs : List Int} {s : St} (h : HeldI d wr ds o zs s) (c : Br) : HeldI d wr ds o zs ⟨s.zs, c, s.dat, s.tch⟩ := ⟨h.mem, h.each, h.read, h.writ⟩
theorem HeldI.word {d : Int} {wr : Bool} {ds : List Int} {o : Nat} {zs : List Int} {s : St} (h : HeldI d wr ds o zs s) {k : Int} (hk : 0 ≤ k ∧ k ≤ 63) {x : Nat} (hx : x = o + s.tch.length) : HeldI d wr ds o zs (wd d wr ds o k x s) := by
  subst hx
  obtain ⟨h1, h2, h3, h4⟩ := h
  have hlen : (wd d wr ds o k (o + s.tch.length) s).tch.length = s.tch.length + 1 := by simp [wd]
  have hz : (wd d wr ds o k (o + s.tch.length) s).zs = rep zs ds (wd d wr ds o k (o + s.tch.length) s).tch (s.tch.length + 1) := by
    show wdM wr ds o k (o + s.tch.length) s.zs = _
    simp only [wd]
    rw [rep_last, ← h1, wdM, show o + s.tch.length - o = s.tch.length by omega]
  refine ⟨by rw [hlen]; exact hz, fun j hj => ?_, fun e => ?_, fun e => ?_⟩
  · rw [hlen] at hj
    by_cases hjj : j < s.tch.length
    · obtain ⟨p, hp, e⟩ := h2 j hjj
      refine ⟨p, hp, ?_⟩
      simp only [wd]
      rw [tth_left hjj, rep_snoc _ (by omega), e]
    · obtain rfl : j = s.tch.length := by omega
      refine ⟨plc k (o + s.tch.length), plc_in _ hk, ?_⟩
      rw [← hz]
      simp only [wd]
      rw [tth_last]
  · subst e
    obtain ⟨g1, g2⟩ := h3 rfl
    refine ⟨by rw [hlen]; simp [wd, g1], fun j hj => ?_⟩
    rw [hlen] at hj
    simp only [wd, Bool.false_eq_true, if_false]
    by_cases hjj : j < s.tch.length
    · rw [tth_left hjj, ← g2 j hjj]
      simp [nth, List.getElem?_append_left (show j < s.dat.length by omega)]
    · obtain rfl : j = s.tch.length := by omega
      rw [tth_last]
      simp [nth, ← g1, wdM]
  · subst e
    simp only [wd, if_true]
    exact h4 rfl
theorem page_in {x : Nat} (h : x < 512) : 0 ≤ ((x / 8 : Nat) : Int) ∧ ((x / 8 : Nat) : Int) ≤ 63 := by omega
theorem runW_held {d : Int} {wr : Bool} {ds : List Int} {o : Nat} {zs : List Int} {b0 : Br} (hd : 0 ≤ d ∧ d ≤ 7) : ∀ (m x : Nat) (k : Int) (s s' : St) (f : Int),
    HeldI d wr ds o zs s → GoodS s → x = o + s.tch.length → (0 ≤ k ∧ k ≤ 63) → x + m ≤ 512 → (wr = true → ∀ i, i < s.tch.length + m → wordB (nth ds i) = true) → (∃ l, s.b = b0.with l) → runW d wr ds o m x k s = (s', f) →
    (f = 0 ∧ HeldI d wr ds o zs s' ∧ GoodS s' ∧ s'.tch.length = s.tch.length + m ∧ ∃ l, s'.b = b0.with l) ∨
    (∃ s1 p, (1 ≤ f ∧ f ≤ 5) ∧ (0 ≤ p ∧ p ≤ 63) ∧ HeldI d wr ds o zs s1 ∧ GoodS s1 ∧ s1.tch.length < s.tch.length + m ∧ (∃ l, s1.b = b0.with l) ∧ tlE s1.zs s1.b f d p = 0 ∧ s' = ⟨tlM s1.zs s1.b f d p wr, tlB s1.zs s1.b f d p, s1.dat, s1.tch⟩)
  | 0, x, k, s, s', f, hH, hG, hx, hk, hm, hw, hl, e => by
    rw [runW_zero, Prod.mk.injEq] at e
    obtain ⟨rfl, rfl⟩ := e
    exact .inl ⟨rfl, hH, hG, rfl, hl⟩
  | m + 1, x, k, s, s', f, hH, hG, hx, hk, hm, hw, hl, e => by
    have hwx : wr = true → wordB (nth ds (x - o)) = true := fun h => hw h (x - o) (by omega)
    have hlen : ∀ k c, (wd d wr ds o k x ⟨s.zs, c, s.dat, s.tch⟩).tch.length = s.tch.length + 1 := fun k c => by simp [wd]
    by_cases hp : x = o ∨ x % 8 = 0
    · obtain ⟨⟨c, k', f'⟩, hg⟩ : ∃ R, goT s.zs s.b d ((x / 8 : Nat) : Int) wr = R := ⟨_, rfl⟩
      have hth : thE s.zs s.b d ((x / 8 : Nat) : Int) = 0 := thE_mk hG.1 hG.2 hd (page_in (by omega))
      obtain ⟨g1, g2, g3, g4, l', g5⟩ := goT_good hth hg
      by_cases hf : f' = 0
      · subst hf
        rw [runW_page hp hg] at e
        have hl2 : ∃ l, c = b0.with l := by
          obtain ⟨l, hl⟩ := hl
          exact ⟨l', by rw [g5, hl]; rfl⟩
        have := runW_held (b0 := b0) hd m (x + 1) k' _ s' f ((hH.bridge c).word g3 hx) (wd_good ⟨hG.1, g1⟩ hwx) (by rw [hlen]; omega) g3 (by omega) (fun h i hi => hw h i (by rw [hlen] at hi; omega)) hl2 e
        rw [hlen, show s.tch.length + 1 + m = s.tch.length + (m + 1) by omega] at this
        exact this
      · have hc : c = s.b := g2 hf
        subst hc
        rw [runW_fault hp hg hf, Prod.mk.injEq] at e
        obtain ⟨rfl, rfl⟩ := e
        refine .inr ⟨s, _, by omega, page_in (x := x) (by omega), hH, hG, by omega, hl, ?_, rfl⟩
        rw [tlE, if_pos (bothB_mk hG.1 hG.2), fE, if_pos ⟨by omega, hd, page_in (by omega)⟩]
    · rw [runW_word hp] at e
      have := runW_held (b0 := b0) hd m (x + 1) k _ s' f (hH.word hk hx) (wd_good hG hwx) (by rw [show (wd d wr ds o k x s) = wd d wr ds o k x ⟨s.zs, s.b, s.dat, s.tch⟩ from rfl, hlen]; omega) hk (by omega) (fun h i hi => hw h i (by rw [show (wd d wr ds o k x s) = wd d wr ds o k x ⟨s.zs, s.b, s.dat, s.tch⟩ from rfl, hlen] at hi; omega)) hl e
      rw [show (wd d wr ds o k x s) = wd d wr ds o k x ⟨s.zs, s.b, s.dat, s.tch⟩ from rfl, hlen, show s.tch.length + 1 + m = s.tch.length + (m + 1) by omega] at this
      exact this
theorem do_held {zs : List Int} {b c : Br} {d a n f : Int} {fw : Bool} {ds ms dat : List Int} {tch : List Tc} (hE : doE zs b d a n fw ds = 0) (hR : doR zs b d a n fw ds = (⟨ms, c, dat, tch⟩, f)) :
    chk ms = 0 ∧ chkB c = 0 ∧ tch.length ≤ 20 ∧ (0 ≤ f ∧ f ≤ 5) ∧ (decide (f = 0) = decide ((tch.length : Int) = n)) ∧ c.fp = b.fp ∧ c.fh = b.fh ∧
    (∀ j, j < tch.length → ∃ p : Int, (0 ≤ p ∧ p < 512) ∧ tth tch j = (d, a + (j : Int), p, fw, nth (rep zs ds tch (j + 1)) p.toNat)) ∧
    (fw = true → tch.length ≤ ds.length) ∧ (fw = false → dat.length = tch.length ∧ ∀ j, j < tch.length → nth dat j = (tth tch j).2.2.2.2) ∧
    ((f = 0 ∧ ms = rep zs ds tch tch.length ∧ c.ft = b.ft) ∨ (¬ f = 0 ∧ ms = rep zs ds tch tch.length ∧ c.ft = b.ft) ∨
     (¬ f = 0 ∧ ¬ c.ft = b.ft ∧ (0 ≤ b.fp * 8 + b.ft ∧ b.fp * 8 + b.ft < 512) ∧ ∃ z, ms = (rep zs ds tch tch.length).set (b.fp * 8 + b.ft).toNat z)) := by
  obtain ⟨hz, hb, hc⟩ := doE_ok hE
  obtain ⟨hn, hd, ha, hln, hal⟩ := ckA_ok hc
  rw [doR, if_pos hE] at hR
  have hdl : fw = true → ds.length = n.toNat := fun e => by rw [e, needA, if_pos rfl] at hln; omega
  have hw : fw = true → ∀ i, i < 0 + n.toNat → wordB (nth ds i) = true := fun e i hi => all_nth hal (by have := hdl e; omega)
  have hs := runW_held (d := d) (wr := fw) (ds := ds) (o := a.toNat) (zs := zs) (b0 := b) hd n.toNat a.toNat 0 ⟨zs, b, [], []⟩ _ _ (HeldI.start _ _ _ _ _ _) ⟨hz, hb⟩ rfl (by omega) (by omega) hw ⟨_, (with_self b).symm⟩ hR
  have hE2 : ∀ s : St, HeldI d fw ds a.toNat zs s → ∀ j, j < s.tch.length → ∃ p : Int, (0 ≤ p ∧ p < 512) ∧ tth s.tch j = (d, a + (j : Int), p, fw, nth (rep zs ds s.tch (j + 1)) p.toNat) := fun s h j hj => by
    obtain ⟨p, hp, e⟩ := h.each j hj
    refine ⟨p, hp, ?_⟩
    rw [e, show ((a.toNat + j : Nat) : Int) = a + (j : Int) by omega]
  rcases hs with ⟨rfl, hH, hG, hl, l', hl'⟩ | ⟨s1, p, hf, hp, hH, hG, hl, ⟨l', hl'⟩, htE, hs'⟩
  · have hl : tch.length = n.toNat := by simpa using hl
    have hl' : c = b.with l' := hl'
    subst hl'
    refine ⟨hG.1, hG.2, by omega, by omega, ?_, rfl, rfl, hE2 _ hH, fun e => by rw [hdl e]; omega, hH.read, .inl ⟨rfl, hH.mem, rfl⟩⟩
    rw [decide_eq_true rfl, decide_eq_true (by omega)]
  · simp only [St.mk.injEq] at hs'
    obtain ⟨rfl, rfl, rfl, rfl⟩ := hs'
    have hl : s1.tch.length < n.toNat := by simpa using hl
    have hg := tl_good fw htE
    have hms : s1.zs = rep zs ds s1.tch s1.tch.length := hH.mem
    obtain ⟨_, _, _, _, _, g6⟩ := chkB_ok hG.2
    obtain ⟨r1, r2, r3⟩ := chkR_ok g6
    have r1 := pageR_in r1
    have r3 := stepR_in r3
    have e1 : s1.b.fp = b.fp := by rw [hl']; rfl
    have e2 : s1.b.fh = b.fh := by rw [hl']; rfl
    have e3 : s1.b.ft = b.ft := by rw [hl']; rfl
    have hf0 : ¬ f = 0 := by omega
    rw [e1] at r1
    rw [e3] at r3
    by_cases hfu : fullB s1.b = true
    · have t1 : tlB s1.zs s1.b f d p = { s1.b with lost := true } := by rw [tlB, if_pos htE, if_pos hfu]
      have t2 : tlM s1.zs s1.b f d p fw = s1.zs := by rw [tlM, if_pos htE, if_pos hfu]
      refine ⟨hg.1, hg.2.1, by omega, by omega, ?_, by rw [t1]; exact e1, by rw [t1]; exact e2, hE2 _ hH, fun e => by rw [hdl e]; omega, hH.read, .inr (.inl ⟨hf0, by rw [t2]; exact hms, by rw [t1]; exact e3⟩)⟩
      rw [decide_eq_false hf0, decide_eq_false (by omega)]
    · have t1 : tlB s1.zs s1.b f d p = { s1.b with ft := (s1.b.ft + 1) % 8 } := by rw [tlB, if_pos htE, if_neg hfu]
      have t2 : tlM s1.zs s1.b f d p fw = s1.zs.set (b.fp * 8 + b.ft).toNat (fW f d p fw) := by rw [tlM, if_pos htE, if_neg hfu, e1, e3]
      refine ⟨hg.1, hg.2.1, by omega, by omega, ?_, by rw [t1]; exact e1, by rw [t1]; exact e2, hE2 _ hH, fun e => by rw [hdl e]; omega, hH.read, .inr (.inr ⟨hf0, ?_, by omega, fW f d p fw, by rw [t2, hms]⟩)⟩
      · rw [decide_eq_false hf0, decide_eq_false (by omega)]
      · rw [t1]
        show ¬ (s1.b.ft + 1) % 8 = b.ft
        rw [e3]; omega
structure Mc where
  zs : List Int
  h : Ht
  b : Br
structure Hp where
  kind : Int
  num : Int
  d : Int
  a : Int
  n : Int
  wr : Bool
  ds : List Int
structure To where
  done : Bool
  dat : List Int
  f : Int
  tch : List Tc
def M0 : Mc := ⟨[], H0, B0⟩
def T0 : To := ⟨false, [], 0, []⟩
def chkM (m : Mc) : Int := if chk m.zs = 0 then (if chkH m.h = 0 then chkB m.b else chkH m.h) else chk m.zs
def hpE (m : Mc) (x : Hp) : Int :=
  if chkM m = 0 then
    (if x.kind = 1 then (if m.h.done = true then 6 else 0)
    else if x.kind = 2 then obE m.zs m.b
    else if x.kind = 3 then ckA x.d x.a x.n x.wr x.ds
    else if x.kind = 4 then (if 0 ≤ x.num ∧ x.num < m.b.cache.length then 0 else 4)
    else 3)
  else chkM m
def hpG (m : Mc) (x : Hp) : Mc × To :=
  if x.kind = 1 then (⟨(goS m.zs m.h m.b).1, (goS m.zs m.h m.b).2.1, (goS m.zs m.h m.b).2.2⟩, T0)
  else if x.kind = 2 then (⟨m.zs, m.h, obB m.zs m.b⟩, T0)
  else if x.kind = 3 then (⟨(doR m.zs m.b x.d x.a x.n x.wr x.ds).1.zs, m.h, (doR m.zs m.b x.d x.a x.n x.wr x.ds).1.b⟩,
    ⟨decide ((doR m.zs m.b x.d x.a x.n x.wr x.ds).2 = 0), (doR m.zs m.b x.d x.a x.n x.wr x.ds).1.dat, (doR m.zs m.b x.d x.a x.n x.wr x.ds).2, (doR m.zs m.b x.d x.a x.n x.wr x.ds).1.tch⟩)
  else (⟨m.zs, m.h, m.b.with (m.b.cache.eraseIdx x.num.toNat)⟩, T0)
def hpR (m : Mc) (x : Hp) : Mc × To := if hpE m x = 0 then hpG m x else (M0, T0)
theorem chkM_ok {m : Mc} (h : chkM m = 0) : chk m.zs = 0 ∧ chkH m.h = 0 ∧ chkB m.b = 0 := by
  unfold chkM at h
  by_cases h1 : chk m.zs = 0
  · rw [if_pos h1] at h
    by_cases h2 : chkH m.h = 0
    · rw [if_pos h2] at h; exact ⟨h1, h2, h⟩
    · rw [if_neg h2] at h; exact absurd h h2
  · rw [if_neg h1] at h; exact absurd h h1
theorem chkM_mk {m : Mc} (h1 : chk m.zs = 0) (h2 : chkH m.h = 0) (h3 : chkB m.b = 0) : chkM m = 0 := by rw [chkM, if_pos h1, if_pos h2, h3]
theorem erase_good {l : List Ln} (h : chkC l = 0) (i : Nat) : chkC (l.eraseIdx i) = 0 := by
  rw [chkC_zero] at h ⊢
  obtain ⟨h1, h2, h3⟩ := h
  refine ⟨Nat.le_trans (List.length_eraseIdx_le l i) h1, fun x hx => h2 x (List.mem_of_mem_eraseIdx hx), h3.sublist (List.eraseIdx_sublist l i)⟩
theorem do_br {zs : List Int} {b c : Br} {d a n f : Int} {fw : Bool} {ds ms dat : List Int} {tch : List Tc} (hE : doE zs b d a n fw ds = 0) (hR : doR zs b d a n fw ds = (⟨ms, c, dat, tch⟩, f)) :
    ∃ l ft lo, c = { b with cache := l, ft := ft, lost := lo } := by
  obtain ⟨hz, hb, hc⟩ := doE_ok hE
  obtain ⟨hn, hd, ha, hln, hal⟩ := ckA_ok hc
  rw [doR, if_pos hE] at hR
  have hdl : fw = true → ds.length = n.toNat := fun e => by rw [e, needA, if_pos rfl] at hln; omega
  have hw : fw = true → ∀ i, i < 0 + n.toNat → wordB (nth ds i) = true := fun e i hi => all_nth hal (by have := hdl e; omega)
  have hs := runW_held (d := d) (wr := fw) (ds := ds) (o := a.toNat) (zs := zs) (b0 := b) hd n.toNat a.toNat 0 ⟨zs, b, [], []⟩ _ _ (HeldI.start _ _ _ _ _ _) ⟨hz, hb⟩ rfl (by omega) (by omega) hw ⟨_, (with_self b).symm⟩ hR
  rcases hs with ⟨rfl, hH, hG, hl, l', hl'⟩ | ⟨s1, p, hf, hp, hH, hG, hl, ⟨l', hl'⟩, htE, hs'⟩
  · exact ⟨l', b.ft, b.lost, hl'⟩
  · simp only [St.mk.injEq] at hs'
    obtain ⟨rfl, rfl, rfl, rfl⟩ := hs'
    unfold tlB
    rw [if_pos htE, hl']
    split
    · exact ⟨l', b.ft, true, rfl⟩
    · exact ⟨l', _, b.lost, rfl⟩
theorem hp_good {m y : Mc} {x : Hp} {t : To} (h : hpE m x = 0) (hr : hpR m x = (y, t)) :
    chkM m = 0 ∧ chkM y = 0 ∧ (x.kind = 1 ∨ x.kind = 2 ∨ x.kind = 3 ∨ x.kind = 4) ∧ (¬ x.kind = 3 → t = T0) ∧ (¬ x.kind = 1 → y.h = m.h) ∧
    (x.kind = 1 → y.b.cache = m.b.cache ∧ m.h.done = false) ∧
    (x.kind = 2 → y.zs = m.zs ∧ ({ y.b with op := m.b.op, oh := m.b.oh, ot := m.b.ot, cache := m.b.cache, stop := m.b.stop, fen := m.b.fen } : Br) = m.b ∧ y.b.cache.length ≤ m.b.cache.length) ∧
    (x.kind = 3 → ({ y.b with cache := m.b.cache, fp := m.b.fp, fh := m.b.fh, ft := m.b.ft, lost := m.b.lost } : Br) = m.b) ∧
    (x.kind = 4 → y.zs = m.zs ∧ y.b.with m.b.cache = m.b ∧ (y.b.cache.length : Int) = m.b.cache.length - 1) := by
  rw [hpR, if_pos h] at hr
  unfold hpE at h
  by_cases hm : chkM m = 0
  rotate_left
  · rw [if_neg hm] at h; exact absurd h hm
  rw [if_pos hm] at h
  obtain ⟨hz, hh, hb⟩ := chkM_ok hm
  unfold hpG at hr
  by_cases k1 : x.kind = 1
  · rw [if_pos k1] at h hr
    have hd : m.h.done = false := by
      cases hd : m.h.done
      · rfl
      · rw [hd, if_pos rfl] at h; exact absurd h (by decide)
    have hst : stE m.zs m.h m.b = 0 := by rw [stE_mk hz hh hb, hd]; rfl
    obtain ⟨g1, g2, g3, _, g5, _⟩ := goS_keeps hst (show goS m.zs m.h m.b = ((goS m.zs m.h m.b).1, (goS m.zs m.h m.b).2.1, (goS m.zs m.h m.b).2.2) from rfl)
    simp only [Prod.mk.injEq] at hr
    obtain ⟨rfl, rfl⟩ := hr
    exact ⟨hm, chkM_mk g1 g2 g3, .inl k1, fun _ => rfl, fun e => absurd k1 e, fun _ => ⟨g5, hd⟩, fun e => by omega, fun e => by omega, fun e => by omega⟩
  rw [if_neg k1] at h hr
  by_cases k2 : x.kind = 2
  · rw [if_pos k2] at h hr
    simp only [Prod.mk.injEq] at hr
    obtain ⟨rfl, rfl⟩ := hr
    by_cases ho : roE (ordW m.zs m.b) = 0
    · obtain ⟨⟨k, d, p⟩, hO⟩ : ∃ O, roO (ordW m.zs m.b) = O := ⟨_, rfl⟩
      obtain ⟨g1, g2, g3, _⟩ := ob_right h ho hO
      refine ⟨hm, chkM_mk hz hh g2, .inr (.inl k2), fun _ => rfl, fun _ => rfl, fun e => absurd e k1, fun _ => ⟨rfl, ?_, ?_⟩, fun e => by omega, fun e => by omega⟩
      · show ({ obB m.zs m.b with op := m.b.op, oh := m.b.oh, ot := m.b.ot, cache := m.b.cache, stop := m.b.stop, fen := m.b.fen } : Br) = m.b
        rw [g1]
      · show (obB m.zs m.b).cache.length ≤ m.b.cache.length
        rw [g1]
        show (drC m.b.cache k d p).length ≤ _
        rw [drC, if_pos g3]
        exact List.length_filter_le _ _
    · obtain ⟨g1, g2⟩ := ob_bad h ho
      refine ⟨hm, chkM_mk hz hh g2, .inr (.inl k2), fun _ => rfl, fun _ => rfl, fun e => absurd e k1, fun _ => ⟨rfl, ?_, ?_⟩, fun e => by omega, fun e => by omega⟩
      · show ({ obB m.zs m.b with op := m.b.op, oh := m.b.oh, ot := m.b.ot, cache := m.b.cache, stop := m.b.stop, fen := m.b.fen } : Br) = m.b
        rw [g1]
      · show (obB m.zs m.b).cache.length ≤ m.b.cache.length
        rw [g1]
        exact Nat.le_refl _
  rw [if_neg k2] at h hr
  by_cases k3 : x.kind = 3
  · rw [if_pos k3] at h hr
    have hE : doE m.zs m.b x.d x.a x.n x.wr x.ds = 0 := doE_mk hz hb h
    obtain ⟨⟨⟨ms, c, dat, tch⟩, f⟩, hR⟩ : ∃ R, doR m.zs m.b x.d x.a x.n x.wr x.ds = R := ⟨_, rfl⟩
    obtain ⟨g1, g2, _⟩ := do_held hE hR
    obtain ⟨l, ft, lo, g3⟩ := do_br hE hR
    rw [hR] at hr
    simp only [Prod.mk.injEq] at hr
    obtain ⟨rfl, rfl⟩ := hr
    refine ⟨hm, chkM_mk g1 hh g2, .inr (.inr (.inl k3)), fun e => absurd k3 e, fun _ => rfl, fun e => absurd e k1, fun e => absurd e k2, fun _ => ?_, fun e => by omega⟩
    show ({ c with cache := m.b.cache, fp := m.b.fp, fh := m.b.fh, ft := m.b.ft, lost := m.b.lost } : Br) = m.b
    rw [g3]
  rw [if_neg k3] at h hr
  by_cases k4 : x.kind = 4
  · rw [if_pos k4] at h
    by_cases hn : 0 ≤ x.num ∧ x.num < m.b.cache.length
    · simp only [Prod.mk.injEq] at hr
      obtain ⟨rfl, rfl⟩ := hr
      refine ⟨hm, chkM_mk hz hh (chkB_with hb (erase_good (chkB_ok hb).2.2.2.1 _)), .inr (.inr (.inr k4)), fun _ => rfl, fun _ => rfl, fun e => absurd e k1, fun e => absurd e k2, fun e => absurd e k3, fun _ => ⟨rfl, rfl, ?_⟩⟩
      show ((m.b.cache.eraseIdx x.num.toNat).length : Int) = _
      rw [List.length_eraseIdx, if_pos (by omega)]
      omega
    · rw [if_neg hn] at h; exact absurd h (by decide)
  · rw [if_neg k4] at h; exact absurd h (by decide)
def rnM : Mc → List Hp → Mc × List To × List Int
  | m, [] => (m, [], [])
  | m, x :: l => ((rnM (if hpE m x = 0 then (hpR m x).1 else m) l).1, (hpR m x).2 :: (rnM (if hpE m x = 0 then (hpR m x).1 else m) l).2.1, hpE m x :: (rnM (if hpE m x = 0 then (hpR m x).1 else m) l).2.2)
theorem rnM_two : ∀ (l k : List Hp) (m : Mc), rnM m (l ++ k) = ((rnM (rnM m l).1 k).1, (rnM m l).2.1 ++ (rnM (rnM m l).1 k).2.1, (rnM m l).2.2 ++ (rnM (rnM m l).1 k).2.2)
  | [], _, _ => rfl
  | x :: l, k, m => by
    show ((rnM _ (l ++ k)).1, _ :: (rnM _ (l ++ k)).2.1, _ :: (rnM _ (l ++ k)).2.2) = _
    rw [rnM_two l k]
    rfl
theorem rnM_snoc (l : List Hp) (x : Hp) (m : Mc) : rnM m (l ++ [x]) = ((if hpE (rnM m l).1 x = 0 then (hpR (rnM m l).1 x).1 else (rnM m l).1), (rnM m l).2.1 ++ [(hpR (rnM m l).1 x).2], (rnM m l).2.2 ++ [hpE (rnM m l).1 x]) := by
  rw [rnM_two]; rfl
theorem rnM_len : ∀ (l : List Hp) (m : Mc), (rnM m l).2.1.length = l.length ∧ (rnM m l).2.2.length = l.length
  | [], _ => ⟨rfl, rfl⟩
  | x :: l, m => by
    obtain ⟨h1, h2⟩ := rnM_len l (if hpE m x = 0 then (hpR m x).1 else m)
    exact ⟨by show _ + 1 = _ + 1; rw [h1], by show _ + 1 = _ + 1; rw [h2]⟩
theorem rnM_good : ∀ (l : List Hp) (m : Mc), chkM m = 0 → chkM (rnM m l).1 = 0
  | [], _, h => h
  | x :: l, m, h => by
    show chkM (rnM _ l).1 = 0
    apply rnM_good l
    by_cases e : hpE m x = 0
    · rw [if_pos e]
      exact (hp_good e (show hpR m x = ((hpR m x).1, (hpR m x).2) from rfl)).2.1
    · rw [if_neg e]; exact h
end Go.Proofs.YthlhocneggcekaaGreat
