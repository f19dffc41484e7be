/-
  Laid together: Base, CodeMath, In, Code1, Blks, Box, HasI, InsW1.
-/
import Derived.Test.YtjgopihlakehcacRows
import Derived.WalkKit
import Derived.WalkSpells
import Derived.WalkLawsBesides
import Derived.Below
import Derived.WalkSmall
import Derived.Deep.QuietTactic
import Derived.BigQuiet
import Derived.Deep.Draws
/-
  What the walks of this seat share: when a slice of ints reads as a list of numbers in a world (Sl), and that nothing of it turns while the world only grows (Below).
-/
namespace Go.Proofs.Ytjgopihlakehcac
open Go.RowKit

/-- The number at a place: a plain name, so that the walk's own rules leave it standing. -/
def nth (zs : List Int) (i : Nat) : Int := zs.getD i 0

theorem getElem?_nth {zs : List Int} {i : Nat} (h : i < zs.length) : zs[i]? = some (nth zs i) := by simp [nth, h]

/-- A slice reads as a list of numbers in a world. -/
def Sl (w : World) (v : Value) (zs : List Int) : Prop :=
  ∃ a cap, v = .slice a zs.length cap ∧ zs.length ≤ maxLen ∧
    (zs = [] ∨ ∃ b o, a = some ⟨b, o, none⟩ ∧ b < w.heap.size ∧ ∀ i, i < zs.length → w.cell? ⟨b, o + i, none⟩ = some (.int .i64 (nth zs i)))

theorem Sl.keep {w w' : World} {v : Value} {zs : List Int} (h : Sl w v zs) (hb : Below w.heap.size w w') : Sl w' v zs := by
  obtain ⟨a, cap, rfl, hl, h⟩ := h
  refine ⟨a, cap, rfl, hl, ?_⟩
  rcases h with h | ⟨b, o, rfl, hlt, hc⟩
  · exact .inl h
  · exact .inr ⟨b, o, rfl, Nat.lt_of_lt_of_le hlt hb.size, fun i hi => by rw [hb.cell (p := ⟨b, o + i, none⟩) hlt]; exact hc i hi⟩

theorem Sl.nil (w : World) (a : Option Addr) (cap : Nat) : Sl w (.slice a 0 cap) [] := ⟨a, cap, rfl, by simp [maxLen], .inl rfl⟩

/-- A block that holds the numbers and no more. -/
theorem sl_block {w : World} {b n cap : Nat} {t : TypeId} {fr : Nat × Nat} {cs : Array Value} {zs : List Int} (hb : w.heap[b]? = some (.cells cs t fr)) (hcs : cs.toList = zs.map (fun z => Value.int .i64 z)) (hn : n = zs.length) (hm : zs.length ≤ maxLen) :
    Sl w (.slice (some ⟨b, 0, none⟩) n cap) zs := by
  subst hn
  refine ⟨_, cap, rfl, hm, .inr ⟨b, 0, rfl, ?_, fun i hi => ?_⟩⟩
  · rcases Nat.lt_or_ge b w.heap.size with h | h
    · exact h
    · rw [Array.getElem?_eq_none h] at hb; exact absurd hb (by simp)
  · rw [Nat.zero_add, cell_of_row w b i cs t fr hb, ← Array.getElem?_toList, hcs, List.getElem?_map, List.getElem?_eq_getElem hi]
    simp [nth, hi]

theorem heap_push (w : World) (o : Obj) : (w.alloc o).heap = w.heap.push o := rfl

theorem heap_at {w : World} {o : Obj} {n : Nat} (h : n = w.heap.size) : (w.alloc o).heap[n]? = some o := by subst h; exact heap_alloc_new w o
theorem heap_past {w : World} {o : Obj} {n : Nat} {x : Option Obj} (h : n < w.heap.size) (k : w.heap[n]? = x) : (w.alloc o).heap[n]? = x := by rw [heap_alloc_old w o h]; exact k
theorem heap_drawn {w : World} {m n : Nat} {x : Option Obj} (k : w.heap[n]? = x) : (w.drewN m).heap[n]? = x := k

/-- Nothing old has turned: a new block; some draws; a store into a new block. -/
theorem bel_alloc {a w : World} (h : Below a.heap.size a w) (o : Obj) : Below a.heap.size a (w.alloc o) := h.alloc h.size o
theorem bel_drewN {a w : World} (h : Below a.heap.size a w) (n : Nat) : Below a.heap.size a (w.drewN n) := below_drewN h n
theorem bel_trans {a b c : World} (h : Below a.heap.size a b) (k : Below b.heap.size b c) : Below a.heap.size a c := h.trans (k.mono h.size)

/-- Old cells and marks behind a call that only grows the world. -/
theorem bcell {W w1 : World} (hb : Below W.heap.size W w1) : (∀ b o, b < W.heap.size → w1.cell? ⟨b, o, none⟩ = W.cell? ⟨b, o, none⟩) ∧ (∀ b o, b < W.heap.size → w1.frozen? ⟨b, o, none⟩ = W.frozen? ⟨b, o, none⟩) :=
  ⟨fun b o h => hb.cell (p := ⟨b, o, none⟩) h, fun b o h => hb.frozen (p := ⟨b, o, none⟩) h⟩

theorem ret_bool {a b : Bool} (h : a = b) : Ending.returned (.bool a) = .returned (.bool b) := by rw [h]
theorem ret_int {k : IntKind} {a b : Int} (h : a = b) : Ending.returned (.int k a) = .returned (.int k b) := by rw [h]

/-- Two lists of one length that agree at every place are one. -/
theorem list_ext_getD {xs ys : List Int} (hl : xs.length = ys.length) (h : ∀ i, i < xs.length → nth xs i = nth ys i) : xs = ys := by
  apply List.ext_getElem hl
  intro i h1 h2
  have := h i h1
  simpa [nth, List.getD_eq_getElem?_getD, List.getElem?_eq_getElem h1, List.getElem?_eq_getElem h2] using this

theorem ne_of_getD {xs ys : List Int} {i : Nat} (h : ¬ nth xs i = nth ys i) : xs ≠ ys := fun e => h (by rw [e])
/-- Its memory is new: it lies behind what was there. -/
def Fresh (base : Nat) (v : Value) : Prop := ∀ k, v.ownBlock = some k → base ≤ k
theorem Fresh.mono {a b : Nat} {v : Value} (h : Fresh b v) (k : a ≤ b) : Fresh a v := fun n hn => Nat.le_trans k (h n hn)
theorem Fresh.none (base n c : Nat) : Fresh base (.slice none n c) := fun k hk => by simp [Value.ownBlock] at hk
theorem Fresh.ne {base n : Nat} {v : Value} (h : Fresh base v) (k : n < base) : v.ownBlock ≠ some n := fun e => absurd (h n e) (by omega)
theorem fresh_at {base g : Nat} (h : base ≤ g) (o n c : Nat) : Fresh base (.slice (some ⟨g, o, none⟩) n c) := fun k hk => by simp [Value.ownBlock] at hk; omega
end Go.Proofs.Ytjgopihlakehcac
/-
  Instructions as words: numbers alone.
-/
namespace Go.Proofs.Ytjgopihlakehcac
open Go.RowKit

/-- What an instruction's kind has use for. -/
def useA (k : Int) : Bool := decide (1 ≤ k)
def useB (k : Int) : Bool := decide (k = 2) || decide (4 ≤ k ∧ k ≤ 6)
def useI (k : Int) : Bool := decide (1 ≤ k) && !decide (k = 2)
/-- What is wrong with an instruction; its word. -/
def rngI (k a b i : Int) : Bool := decide (0 ≤ k ∧ k ≤ 8) && decide (0 ≤ a ∧ a ≤ 7) && decide (0 ≤ b ∧ b ≤ 7) && decide (0 ≤ i ∧ i ≤ 63)
def fitI (k a b i : Int) : Bool := (useA k || decide (a = 0)) && (useB k || decide (b = 0)) && (useI k || decide (i = 0))
def iE (k a b i : Int) : Int := if rngI k a b i = true then (if fitI k a b i = true then 0 else 3) else 2
def iW (k a b i : Int) : Int := if iE k a b i = 0 then 4096 * k + 512 * a + 64 * b + i else 0
/-- A word that is read as an instruction. -/
def riE (w : Int) : Int := if 0 ≤ w ∧ w ≤ 65535 then (if iE (w / 4096) (w / 512 % 8) (w / 64 % 8) (w % 64) = 0 then 0 else 3) else 2
def riX (w : Int) : Int × Int × Int × Int := if riE w = 0 then (w / 4096, w / 512 % 8, w / 64 % 8, w % 64) else (0, 0, 0, 0)

theorem iE_ok {k a b i : Int} (h : iE k a b i = 0) : (0 ≤ k ∧ k ≤ 8) ∧ (0 ≤ a ∧ a ≤ 7) ∧ (0 ≤ b ∧ b ≤ 7) ∧ (0 ≤ i ∧ i ≤ 63) ∧ fitI k a b i = true := by
  unfold iE at h
  by_cases h1 : rngI k a b i = true
  · rw [if_pos h1] at h
    by_cases h2 : fitI k a b i = true
    · simp only [rngI, Bool.and_eq_true, decide_eq_true_eq] at h1
      exact ⟨h1.1.1.1, h1.1.1.2, h1.1.2, h1.2, h2⟩
    · rw [if_neg h2] at h; exact absurd h (by decide)
  · rw [if_neg h1] at h; exact absurd h (by decide)
theorem iE_cases (k a b i : Int) : iE k a b i = 0 ∨ iE k a b i = 2 ∨ iE k a b i = 3 := by
  unfold iE; split
  · split <;> simp
  · simp
theorem iW_ok {k a b i : Int} (h : iE k a b i = 0) : iW k a b i = 4096 * k + 512 * a + 64 * b + i := if_pos h
theorem riE_ok {w : Int} (h : riE w = 0) : (0 ≤ w ∧ w ≤ 65535) ∧ iE (w / 4096) (w / 512 % 8) (w / 64 % 8) (w % 64) = 0 := by
  unfold riE at h
  by_cases h1 : 0 ≤ w ∧ w ≤ 65535
  · rw [if_pos h1] at h
    by_cases h2 : iE (w / 4096) (w / 512 % 8) (w / 64 % 8) (w % 64) = 0
    · exact ⟨h1, h2⟩
    · rw [if_neg h2] at h; exact absurd h (by decide)
  · rw [if_neg h1] at h; exact absurd h (by decide)
theorem riE_mk {w : Int} (h1 : 0 ≤ w ∧ w ≤ 65535) (h2 : iE (w / 4096) (w / 512 % 8) (w / 64 % 8) (w % 64) = 0) : riE w = 0 := by unfold riE; rw [if_pos h1, if_pos h2]
/-- What is put is read; what is read is put as it was. -/
theorem i_back {k a b i : Int} (h : iE k a b i = 0) : riE (iW k a b i) = 0 ∧ riX (iW k a b i) = (k, a, b, i) := by
  obtain ⟨h1, h2, h3, h4, _⟩ := iE_ok h
  have e1 : iW k a b i / 4096 = k := by rw [iW_ok h]; omega
  have e2 : iW k a b i / 512 % 8 = a := by rw [iW_ok h]; omega
  have e3 : iW k a b i / 64 % 8 = b := by rw [iW_ok h]; omega
  have e4 : iW k a b i % 64 = i := by rw [iW_ok h]; omega
  have hr : riE (iW k a b i) = 0 := riE_mk (by rw [iW_ok h]; omega) (by rw [e1, e2, e3, e4]; exact h)
  exact ⟨hr, by rw [riX, if_pos hr, e1, e2, e3, e4]⟩
theorem i_read {w k a b i : Int} (h : riE w = 0) (e : riX w = (k, a, b, i)) : iE k a b i = 0 ∧ iW k a b i = w := by
  obtain ⟨h1, h2⟩ := riE_ok h
  rw [riX, if_pos h] at e
  simp only [Prod.mk.injEq] at e
  obtain ⟨rfl, rfl, rfl, rfl⟩ := e
  exact ⟨h2, by rw [iW_ok h2]; omega⟩
end Go.Proofs.Ytjgopihlakehcac
/-
  drawbridgeref's in: whether a number is from one to another one.
-/
namespace Go.Proofs.Ytjgopihlakehcac
open Go.RowKit

/-- Is it from one to the other? -/
def betweenB (lo hi z : Int) : Bool := decide (lo ≤ z ∧ z ≤ hi)
theorem between_yes {lo hi z : Int} (h : lo ≤ z ∧ z ≤ hi) : betweenB lo hi z = true := decide_eq_true h
theorem between_no {lo hi z : Int} (h : ¬ (lo ≤ z ∧ z ≤ hi)) : betweenB lo hi z = false := decide_eq_false h
theorem of_between {lo hi z : Int} (h : betweenB lo hi z = true) : lo ≤ z ∧ z ≤ hi := of_decide_eq_true h

theorem in_any (z lo hi : Int) (w : World) : Calls Try.prog 13 #[.int .i64 z, .int .i64 lo, .int .i64 hi] w fun e w' => e = .returned (.bool (betweenB lo hi z)) ∧ w' = w := by
  by_cases h1 : lo ≤ z
  · by_cases h2 : z ≤ hi
    · have : betweenB lo hi z = true := by simp [betweenB, h1, h2]
      rw [this]
      go_enter Try.func13, Try.ntmps13
      go_wp2
      go_ret
      exact ⟨rfl, rfl⟩
    · have : betweenB lo hi z = false := by simp [betweenB, h2]
      rw [this]
      go_enter Try.func13, Try.ntmps13
      go_wp2
      go_ret
      exact ⟨rfl, rfl⟩
  · have : betweenB lo hi z = false := by simp [betweenB, h1]
    rw [this]
    go_enter Try.func13, Try.ntmps13
    go_wp2
    go_ret
    exact ⟨rfl, rfl⟩
end Go.Proofs.Ytjgopihlakehcac
/-
  Package code: what isReg, isImm, isIns, Put answer; none turns memory that was there.
-/
namespace Go.Proofs.Ytjgopihlakehcac
open Go.RowKit

theorem isReg_any (z : Int) (w : World) : Calls Try.prog 10 #[.int .i64 z] w fun e w' => e = .returned (.bool (betweenB 0 7 z)) ∧ w' = w := by
  by_cases h1 : 0 ≤ z
  · by_cases h2 : z < 8
    · rw [between_yes ⟨h1, by omega⟩]
      go_enter Try.func10, Try.ntmps10
      go_wp2
      go_ret
      exact ⟨rfl, rfl⟩
    · rw [between_no fun h => h2 (by omega)]
      go_enter Try.func10, Try.ntmps10
      go_wp2
      go_ret
      exact ⟨rfl, rfl⟩
  · rw [between_no fun h => h1 h.1]
    go_enter Try.func10, Try.ntmps10
    go_wp2
    go_ret
    exact ⟨rfl, rfl⟩
theorem isImm_any (z : Int) (w : World) : Calls Try.prog 11 #[.int .i64 z] w fun e w' => e = .returned (.bool (betweenB 0 63 z)) ∧ w' = w := by
  by_cases h1 : 0 ≤ z
  · by_cases h2 : z ≤ 63
    · rw [between_yes ⟨h1, by omega⟩]
      go_enter Try.func11, Try.ntmps11
      go_wp2
      go_ret
      exact ⟨rfl, rfl⟩
    · rw [between_no fun h => h2 (by omega)]
      go_enter Try.func11, Try.ntmps11
      go_wp2
      go_ret
      exact ⟨rfl, rfl⟩
  · rw [between_no fun h => h1 h.1]
    go_enter Try.func11, Try.ntmps11
    go_wp2
    go_ret
    exact ⟨rfl, rfl⟩

theorem fit0 (a b i : Int) : fitI 0 a b i = (decide (a = 0) && decide (b = 0) && decide (i = 0)) := rfl
theorem fit1 {k : Int} (h : k = 1 ∨ k = 3 ∨ k = 7 ∨ k = 8) (a b i : Int) : fitI k a b i = decide (b = 0) := by
  rcases h with rfl | rfl | rfl | rfl <;> simp [fitI, useA, useB, useI]
theorem fit2 (a b i : Int) : fitI 2 a b i = decide (i = 0) := by simp [fitI, useA, useB, useI]
theorem fit4 {k : Int} (h : k = 4 ∨ k = 5 ∨ k = 6) (a b i : Int) : fitI k a b i = true := by
  rcases h with rfl | rfl | rfl <;> simp [fitI, useA, useB, useI]

set_option maxHeartbeats 1000000 in
theorem isIns_any (k a b i : Int) (w : World) (hk : 0 ≤ k ∧ k ≤ 8) :
    Calls Try.prog 12 #[.agg #[.int .i64 k, .int .i64 a, .int .i64 b, .int .i64 i]] w fun e w' => e = .returned (.bool (fitI k a b i)) ∧ ∃ o, w' = w.alloc o := by
  have parts : k = 0 ∨ k = 2 ∨ (k = 4 ∨ k = 5 ∨ k = 6) ∨ (k = 1 ∨ k = 3 ∨ k = 7 ∨ k = 8) := by omega
  clear hk
  rcases parts with rfl | rfl | h | h
  · rw [fit0]
    by_cases ha : a = 0
    · subst ha
      by_cases hb : b = 0
      · subst hb
        by_cases hi : i = 0
        · subst hi
          go_enter Try.func12, Try.ntmps12
          go_wp2
          go_ret
          exact ⟨rfl, _, rfl⟩
        · have ni : (i == 0) = false := by simpa using hi
          have di : Hid (decide (i = 0) = false) := decide_eq_false hi
          clear hi
          go_enter Try.func12, Try.ntmps12
          go_wp2
          go_ret
          exact ⟨ret_bool (by rw [di.out]; rfl), _, rfl⟩
      · have nb : (b == 0) = false := by simpa using hb
        have db : Hid (decide (b = 0) = false) := decide_eq_false hb
        clear hb
        go_enter Try.func12, Try.ntmps12
        go_wp2
        go_ret
        exact ⟨ret_bool (by rw [db.out]; rfl), _, rfl⟩
    · have na : (a == 0) = false := by simpa using ha
      have da : Hid (decide (a = 0) = false) := decide_eq_false ha
      clear ha
      go_enter Try.func12, Try.ntmps12
      go_wp2
      go_ret
      exact ⟨ret_bool (by rw [da.out]; rfl), _, rfl⟩
  · rw [fit2]
    by_cases hi : i = 0
    · subst hi
      go_enter Try.func12, Try.ntmps12
      go_wp2
      go_ret
      exact ⟨rfl, _, rfl⟩
    · have ni : (i == 0) = false := by simpa using hi
      have di : Hid (decide (i = 0) = false) := decide_eq_false hi
      clear hi
      go_enter Try.func12, Try.ntmps12
      go_wp2
      go_ret
      exact ⟨ret_bool (by rw [di.out]), _, rfl⟩
  · rw [fit4 h]
    rcases h with rfl | rfl | rfl
    all_goals
      go_enter Try.func12, Try.ntmps12
      go_wp2
      go_ret
      exact ⟨rfl, _, rfl⟩
  · rw [fit1 h]
    by_cases hb : b = 0
    · subst hb
      rcases h with rfl | rfl | rfl | rfl
      all_goals
        go_enter Try.func12, Try.ntmps12
        go_wp2
        go_ret
        exact ⟨rfl, _, rfl⟩
    · have nb : (b == 0) = false := by simpa using hb
      have db : Hid (decide (b = 0) = false) := decide_eq_false hb
      clear hb
      rcases h with rfl | rfl | rfl | rfl
      all_goals
        go_enter Try.func12, Try.ntmps12
        go_wp2
        go_ret
        exact ⟨ret_bool (by rw [db.out]), _, rfl⟩

theorem iE_out {k a b i : Int} (h : ¬ ((0 ≤ k ∧ k ≤ 8) ∧ (0 ≤ a ∧ a ≤ 7) ∧ (0 ≤ b ∧ b ≤ 7) ∧ (0 ≤ i ∧ i ≤ 63))) : iE k a b i = 2 := by
  unfold iE
  rw [if_neg]
  simp only [rngI, Bool.and_eq_true, decide_eq_true_eq]
  exact fun x => h ⟨x.1.1.1, x.1.1.2, x.1.2, x.2⟩
theorem iE_in {k a b i : Int} (hk : 0 ≤ k ∧ k ≤ 8) (ha : 0 ≤ a ∧ a ≤ 7) (hb : 0 ≤ b ∧ b ≤ 7) (hi : 0 ≤ i ∧ i ≤ 63) : iE k a b i = if fitI k a b i = true then 0 else 3 := by
  unfold iE
  rw [if_pos]
  simp only [rngI, Bool.and_eq_true, decide_eq_true_eq]
  exact ⟨⟨⟨hk, ha⟩, hb⟩, hi⟩
theorem iW_bad {k a b i e : Int} (h : iE k a b i = e) (hn : ¬ e = 0) : iW k a b i = 0 := if_neg (fun x => hn (h.symm.trans x))

set_option maxHeartbeats 1000000 in
theorem cPut_any (k a b i : Int) (w : World) :
    Calls Try.prog 5 #[.agg #[.int .i64 k, .int .i64 a, .int .i64 b, .int .i64 i]] w fun e w' => e = .returned (.tuple #[.int .i64 (iW k a b i), .int .i64 (iE k a b i)]) ∧ Below w.heap.size w w' := by
  by_cases k0 : k < 0
  · have he : iE k a b i = 2 := iE_out (by omega)
    rw [iW_bad he (by decide), he]
    clear he
    go_enter Try.func5, Try.ntmps5
    go_wp2
    go_ret2
    exact ⟨rfl, bel_alloc (Below.refl _ _) _⟩
  by_cases k1 : 8 < k
  · have he : iE k a b i = 2 := iE_out (by omega)
    rw [iW_bad he (by decide), he]
    clear he
    go_enter Try.func5, Try.ntmps5
    go_wp2
    go_ret2
    exact ⟨rfl, bel_alloc (Below.refl _ _) _⟩
  cases ha : betweenB 0 7 a
  · have ha' : ¬ (0 ≤ a ∧ a ≤ 7) := of_decide_eq_false ha
    have he : iE k a b i = 2 := iE_out (by omega)
    rw [iW_bad he (by decide), he]
    clear he ha'
    go_enter Try.func5, Try.ntmps5
    go_wp2_with (first | (go_at_call 10; refine (isReg_any _ _).mono ?_; rintro e w1 ⟨rfl, rfl⟩; rw [ha]))
    go_ret2
    exact ⟨rfl, bel_alloc (Below.refl _ _) _⟩
  have ha' := of_between ha
  cases hb : betweenB 0 7 b
  · have hb' : ¬ (0 ≤ b ∧ b ≤ 7) := of_decide_eq_false hb
    have he : iE k a b i = 2 := iE_out (by omega)
    rw [iW_bad he (by decide), he]
    clear he ha' hb'
    go_enter Try.func5, Try.ntmps5
    go_wp2_with (first | (go_at_call 10; refine (isReg_any _ _).mono ?_; rintro e w1 ⟨rfl, rfl⟩; first | rw [ha] | rw [hb]))
    go_ret2
    exact ⟨rfl, bel_alloc (Below.refl _ _) _⟩
  have hb' := of_between hb
  cases hi : betweenB 0 63 i
  · have hi' : ¬ (0 ≤ i ∧ i ≤ 63) := of_decide_eq_false hi
    have he : iE k a b i = 2 := iE_out (by omega)
    rw [iW_bad he (by decide), he]
    clear he ha' hb' hi'
    go_enter Try.func5, Try.ntmps5
    go_wp2_with (first | (go_at_call 10; refine (isReg_any _ _).mono ?_; rintro e w1 ⟨rfl, rfl⟩; first | rw [ha] | rw [hb]) | (go_at_call 11; refine (isImm_any _ _).mono ?_; rintro e w1 ⟨rfl, rfl⟩; rw [hi]))
    go_ret2
    exact ⟨rfl, bel_alloc (Below.refl _ _) _⟩
  have hi' := of_between hi
  have he := iE_in (k := k) (by omega) ha' hb' hi'
  have k0 : 0 ≤ k := by omega
  have k1 : k ≤ 8 := by omega
  cases hf : fitI k a b i
  · rw [hf] at he
    rw [iW_bad he (by decide), he]
    clear he ha' hb' hi'
    go_enter Try.func5, Try.ntmps5
    go_wp2_with (first | (go_at_call 10; refine (isReg_any _ _).mono ?_; rintro e w1 ⟨rfl, rfl⟩; first | rw [ha] | rw [hb]) | (go_at_call 11; refine (isImm_any _ _).mono ?_; rintro e w1 ⟨rfl, rfl⟩; rw [hi]) | (go_at_call 12; refine (isIns_any _ _ _ _ _ ⟨k0, k1⟩).mono ?_; rintro e w1 ⟨rfl, o1, rfl⟩; rw [hf]))
    go_ret2
    exact ⟨rfl, bel_alloc (bel_alloc (Below.refl _ _) _) _⟩
  · rw [hf] at he
    have he : iE k a b i = 0 := he
    rw [iW_ok he, he]
    clear he
    obtain ⟨a0, a1⟩ := ha'
    obtain ⟨b0, b1⟩ := hb'
    obtain ⟨i0, i1⟩ := hi'
    go_enter Try.func5, Try.ntmps5
    go_wp2_with (first | (go_at_call 10; refine (isReg_any _ _).mono ?_; rintro e w1 ⟨rfl, rfl⟩; first | rw [ha] | rw [hb]) | (go_at_call 11; refine (isImm_any _ _).mono ?_; rintro e w1 ⟨rfl, rfl⟩; rw [hi]) | (go_at_call 12; refine (isIns_any _ _ _ _ _ ⟨k0, k1⟩).mono ?_; rintro e w1 ⟨rfl, o1, rfl⟩; rw [hf]))
    go_ret2
    exact ⟨rfl, bel_alloc (bel_alloc (Below.refl _ _) _) _⟩
end Go.Proofs.Ytjgopihlakehcac
/-
  Blocks of cells that a walk carries over its calls.
-/
namespace Go.Proofs.Ytjgopihlakehcac
open Go.RowKit

/-- This block holds these cells. -/
def Blk (w : World) (n : Nat) (cs : Array Value) : Prop := ∃ t fr, w.heap[n]? = some (.cells cs t fr)

theorem Blk.lt {w : World} {n : Nat} {cs : Array Value} (h : Blk w n cs) : n < w.heap.size := by
  obtain ⟨t, fr, h⟩ := h
  rcases Nat.lt_or_ge n w.heap.size with k | k
  · exact k
  · rw [Array.getElem?_eq_none k] at h; exact absurd h (by simp)
theorem Blk.keep {w w' : World} {n : Nat} {cs : Array Value} (h : Blk w n cs) (hb : Below w.heap.size w w') : Blk w' n cs := by
  have hl := h.lt
  obtain ⟨t, fr, h⟩ := h
  exact ⟨t, fr, by rw [hb.block n hl]; exact h⟩
theorem Blk.new (w : World) (cs : Array Value) (t : TypeId) (fr : Nat × Nat) : Blk (w.alloc (.cells cs t fr)) w.heap.size cs := ⟨t, fr, heap_at rfl⟩
theorem Blk.newAt {w : World} {n : Nat} (h : n = w.heap.size) (cs : Array Value) (t : TypeId) (fr : Nat × Nat) : Blk (w.alloc (.cells cs t fr)) n cs := ⟨t, fr, heap_at h⟩
theorem Blk.past {w : World} {n : Nat} {cs : Array Value} (h : Blk w n cs) (o : Obj) : Blk (w.alloc o) n cs := h.keep (bel_alloc (Below.refl _ _) _)
theorem Blk.cell {w : World} {n : Nat} {cs : Array Value} (h : Blk w n cs) (i : Nat) : w.cell? ⟨n, i, none⟩ = cs[i]? := by
  obtain ⟨t, fr, h⟩ := h
  exact cell_of_row w n i cs t fr h
theorem Blk.three {w : World} {n : Nat} {a b c : Value} (h : Blk w n #[a, b, c]) : w.cell? ⟨n, 0, none⟩ = some a ∧ w.cell? ⟨n, 1, none⟩ = some b ∧ w.cell? ⟨n, 2, none⟩ = some c :=
  ⟨h.cell 0, h.cell 1, h.cell 2⟩
theorem Blk.five {w : World} {n : Nat} {a b c d e : Value} (h : Blk w n #[a, b, c, d, e]) :
    w.cell? ⟨n, 0, none⟩ = some a ∧ w.cell? ⟨n, 1, none⟩ = some b ∧ w.cell? ⟨n, 2, none⟩ = some c ∧ w.cell? ⟨n, 3, none⟩ = some d ∧ w.cell? ⟨n, 4, none⟩ = some e :=
  ⟨h.cell 0, h.cell 1, h.cell 2, h.cell 3, h.cell 4⟩

/-- Five stores into one block that is new. -/
theorem bel_set5 {a w : World} {n : Nat} (hp : a.heap.size ≤ n) (h : Below a.heap.size a w) (u0 u1 u2 u3 u4 : Value) :
    Below a.heap.size a (((((w.setCell ⟨n, 0, none⟩ u0).setCell ⟨n, 1, none⟩ u1).setCell ⟨n, 2, none⟩ u2).setCell ⟨n, 3, none⟩ u3).setCell ⟨n, 4, none⟩ u4) :=
  ((((h.setCell (p := ⟨n, 0, none⟩) hp u0).setCell (p := ⟨n, 1, none⟩) hp u1).setCell (p := ⟨n, 2, none⟩) hp u2).setCell (p := ⟨n, 3, none⟩) hp u3).setCell (p := ⟨n, 4, none⟩) hp u4
theorem bel_set {a w : World} {p : Addr} (hp : a.heap.size ≤ p.block) (h : Below a.heap.size a w) (u : Value) : Below a.heap.size a (w.setCell p u) := h.setCell hp u

theorem below_drew {a w : World} (h : Below a.heap.size a w) : Below a.heap.size a w.drew := h.drew

theorem blk_set5 {w : World} {n : Nat} {t : TypeId} {a0 a1 a2 a3 a4 : Value} (h : w.heap[n]? = some (.cells #[a0, a1, a2, a3, a4] t (0, 0))) (u0 u1 u2 u3 u4 : Value) :
    Blk (((((w.setCell ⟨n, 0, none⟩ u0).setCell ⟨n, 1, none⟩ u1).setCell ⟨n, 2, none⟩ u2).setCell ⟨n, 3, none⟩ u3).setCell ⟨n, 4, none⟩ u4) n #[u0, u1, u2, u3, u4] := by
  have h0 := heap_setCell_same w n 0 _ t u0 h
  have h1 := heap_setCell_same _ n 1 _ t u1 h0
  have h2 := heap_setCell_same _ n 2 _ t u2 h1
  have h3 := heap_setCell_same _ n 3 _ t u3 h2
  have h4 := heap_setCell_same _ n 4 _ t u4 h3
  exact ⟨t, (0, 0), h4⟩
theorem heap_kept {W w1 : World} {n : Nat} {x : Option Obj} (hb : Below W.heap.size W w1) (hl : n < W.heap.size) (h : W.heap[n]? = x) : w1.heap[n]? = x := by rw [hb.block n hl]; exact h
end Go.Proofs.Ytjgopihlakehcac
/-
  A variable's own block: the cells it holds, none of them frozen; carried over calls, new blocks, stores.
-/
namespace Go.Proofs.Ytjgopihlakehcac
open Go.RowKit

/-- This block holds these cells, and may be written. -/
def Box (w : World) (n : Nat) (t : TypeId) (cs : Array Value) : Prop := w.heap[n]? = some (.cells cs t (0, 0))

theorem Box.blk {w : World} {n : Nat} {t : TypeId} {cs : Array Value} (h : Box w n t cs) : Blk w n cs := ⟨t, (0, 0), h⟩
theorem Box.lt {w : World} {n : Nat} {t : TypeId} {cs : Array Value} (h : Box w n t cs) : n < w.heap.size := h.blk.lt
theorem Box.keep {w w' : World} {n : Nat} {t : TypeId} {cs : Array Value} (h : Box w n t cs) (hb : Below w.heap.size w w') : Box w' n t cs := heap_kept hb h.lt h
theorem Box.newAt {w : World} {n : Nat} (h : n = w.heap.size) (t : TypeId) (cs : Array Value) : Box (w.alloc (.cells cs t)) n t cs := heap_at h
theorem Box.past {w : World} {n : Nat} {t : TypeId} {cs : Array Value} (h : Box w n t cs) (o : Obj) : Box (w.alloc o) n t cs := heap_past h.lt h
theorem Box.cell {w : World} {n : Nat} {t : TypeId} {cs : Array Value} (h : Box w n t cs) (i : Nat) : w.cell? ⟨n, i, none⟩ = cs[i]? := h.blk.cell i
theorem Box.frozen {w : World} {n : Nat} {t : TypeId} {cs : Array Value} (h : Box w n t cs) (i : Nat) : w.frozen? ⟨n, i, none⟩ = false := frozen_of_row w n _ _ _ h
theorem Box.set {w : World} {n : Nat} {t : TypeId} {cs : Array Value} (h : Box w n t cs) (i : Nat) (u : Value) : Box (w.setCell ⟨n, i, none⟩ u) n t (cs.setIfInBounds i u) := heap_setCell_same w n i cs t u h
theorem Box.other {w : World} {n : Nat} {t : TypeId} {cs : Array Value} (h : Box w n t cs) {p : Addr} (hp : n ≠ p.block) (u : Value) : Box (w.setCell p u) n t cs := by
  unfold Box; rw [heap_setCell_other w p n u hp]; exact h
theorem Box.drew {w : World} {n : Nat} {t : TypeId} {cs : Array Value} (h : Box w n t cs) : Box w.drew n t cs := h
theorem Box.drewN {w : World} {n : Nat} {t : TypeId} {cs : Array Value} (h : Box w n t cs) (k : Nat) : Box (w.drewN k) n t cs := h
/-- One cell, three cells, with their marks. -/
theorem Box.one {w : World} {n : Nat} {t : TypeId} {a : Value} (h : Box w n t #[a]) : w.cell? ⟨n, 0, none⟩ = some a ∧ w.frozen? ⟨n, 0, none⟩ = false ∧ n < w.heap.size := ⟨h.cell 0, h.frozen 0, h.lt⟩
theorem Box.three {w : World} {n : Nat} {t : TypeId} {a b c : Value} (h : Box w n t #[a, b, c]) :
    w.cell? ⟨n, 0, none⟩ = some a ∧ w.cell? ⟨n, 1, none⟩ = some b ∧ w.cell? ⟨n, 2, none⟩ = some c ∧ w.frozen? ⟨n, 0, none⟩ = false ∧ w.frozen? ⟨n, 1, none⟩ = false ∧ w.frozen? ⟨n, 2, none⟩ = false ∧ n < w.heap.size :=
  ⟨h.cell 0, h.cell 1, h.cell 2, h.frozen 0, h.frozen 1, h.frozen 2, h.lt⟩
theorem Box.set1 {w : World} {n : Nat} {t : TypeId} {a : Value} (h : Box w n t #[a]) (u : Value) : Box (w.setCell ⟨n, 0, none⟩ u) n t #[u] := h.set 0 u
theorem Box.set3 {w : World} {n : Nat} {t : TypeId} {a b c : Value} (h : Box w n t #[a, b, c]) (u0 u1 u2 : Value) :
    Box (((w.setCell ⟨n, 0, none⟩ u0).setCell ⟨n, 1, none⟩ u1).setCell ⟨n, 2, none⟩ u2) n t #[u0, u1, u2] := ((h.set 0 u0).set 1 u1).set 2 u2
theorem Box.other3 {w : World} {n m : Nat} {t : TypeId} {cs : Array Value} (h : Box w n t cs) (hp : n ≠ m) (u0 u1 u2 : Value) :
    Box (((w.setCell ⟨m, 0, none⟩ u0).setCell ⟨m, 1, none⟩ u1).setCell ⟨m, 2, none⟩ u2) n t cs :=
  ((h.other (p := ⟨m, 0, none⟩) hp u0).other (p := ⟨m, 1, none⟩) hp u1).other (p := ⟨m, 2, none⟩) hp u2
theorem bel_set3 {a w : World} {n : Nat} (hp : a.heap.size ≤ n) (h : Below a.heap.size a w) (u0 u1 u2 : Value) :
    Below a.heap.size a (((w.setCell ⟨n, 0, none⟩ u0).setCell ⟨n, 1, none⟩ u1).setCell ⟨n, 2, none⟩ u2) :=
  ((h.setCell (p := ⟨n, 0, none⟩) hp u0).setCell (p := ⟨n, 1, none⟩) hp u1).setCell (p := ⟨n, 2, none⟩) hp u2
theorem bel_set1 {a w : World} {n : Nat} (hp : a.heap.size ≤ n) (h : Below a.heap.size a w) (u0 : Value) : Below a.heap.size a (w.setCell ⟨n, 0, none⟩ u0) := h.setCell (p := ⟨n, 0, none⟩) hp u0
/-- Four cells. -/
theorem Box.four {w : World} {n : Nat} {t : TypeId} {a b c d : Value} (h : Box w n t #[a, b, c, d]) :
    w.cell? ⟨n, 0, none⟩ = some a ∧ w.cell? ⟨n, 1, none⟩ = some b ∧ w.cell? ⟨n, 2, none⟩ = some c ∧ w.cell? ⟨n, 3, none⟩ = some d ∧ w.frozen? ⟨n, 0, none⟩ = false ∧ w.frozen? ⟨n, 1, none⟩ = false ∧ w.frozen? ⟨n, 2, none⟩ = false ∧ w.frozen? ⟨n, 3, none⟩ = false ∧ n < w.heap.size :=
  ⟨h.cell 0, h.cell 1, h.cell 2, h.cell 3, h.frozen 0, h.frozen 1, h.frozen 2, h.frozen 3, h.lt⟩
theorem Box.set4 {w : World} {n : Nat} {t : TypeId} {a b c d : Value} (h : Box w n t #[a, b, c, d]) (u0 u1 u2 u3 : Value) :
    Box ((((w.setCell ⟨n, 0, none⟩ u0).setCell ⟨n, 1, none⟩ u1).setCell ⟨n, 2, none⟩ u2).setCell ⟨n, 3, none⟩ u3) n t #[u0, u1, u2, u3] := (((h.set 0 u0).set 1 u1).set 2 u2).set 3 u3
theorem bel_set4 {a w : World} {n : Nat} (hp : a.heap.size ≤ n) (h : Below a.heap.size a w) (u0 u1 u2 u3 : Value) :
    Below a.heap.size a ((((w.setCell ⟨n, 0, none⟩ u0).setCell ⟨n, 1, none⟩ u1).setCell ⟨n, 2, none⟩ u2).setCell ⟨n, 3, none⟩ u3) :=
  (bel_set3 hp h u0 u1 u2).setCell (p := ⟨n, 3, none⟩) hp u3
end Go.Proofs.Ytjgopihlakehcac
/-
  drawbridgeref's InsWord, first its closure: has a short string a letter?
-/
namespace Go.Proofs.Ytjgopihlakehcac
open Go.RowKit

theorem ret_two {x y x1 y1 : Int} (h : x = x1) (k : y = y1) : Ending.returned (.tuple #[.int .i64 x, .int .i64 y]) = .returned (.tuple #[.int .i64 x1, .int .i64 y1]) := by rw [h, k]
theorem has_no_a (n : Nat) (w : World) (h : w.cell? ⟨n, 0, none⟩ = some (.string ⟨#[]⟩)) :
    Calls Try.prog 14 #[.int .u8 97, .pointer (some ⟨n, 0, none⟩)] w fun e w' => e = .returned (.bool false) ∧ w' = w := by
  go_enter Try.func14, Try.ntmps14
  go_wp2
  refine wp_loop_rounds 1 ?_
  rw [rounds_succ]
  go_wp2
  go_ret
  exact ⟨rfl, rfl⟩
theorem has_no_b (n : Nat) (w : World) (h : w.cell? ⟨n, 0, none⟩ = some (.string ⟨#[]⟩)) :
    Calls Try.prog 14 #[.int .u8 98, .pointer (some ⟨n, 0, none⟩)] w fun e w' => e = .returned (.bool false) ∧ w' = w := by
  go_enter Try.func14, Try.ntmps14
  go_wp2
  refine wp_loop_rounds 1 ?_
  rw [rounds_succ]
  go_wp2
  go_ret
  exact ⟨rfl, rfl⟩
theorem has_no_i (n : Nat) (w : World) (h : w.cell? ⟨n, 0, none⟩ = some (.string ⟨#[]⟩)) :
    Calls Try.prog 14 #[.int .u8 105, .pointer (some ⟨n, 0, none⟩)] w fun e w' => e = .returned (.bool false) ∧ w' = w := by
  go_enter Try.func14, Try.ntmps14
  go_wp2
  refine wp_loop_rounds 1 ?_
  rw [rounds_succ]
  go_wp2
  go_ret
  exact ⟨rfl, rfl⟩
theorem has_ai_a (n : Nat) (w : World) (h : w.cell? ⟨n, 0, none⟩ = some (.string ⟨#[97, 105]⟩)) :
    Calls Try.prog 14 #[.int .u8 97, .pointer (some ⟨n, 0, none⟩)] w fun e w' => e = .returned (.bool true) ∧ w' = w := by
  go_enter Try.func14, Try.ntmps14
  go_wp2
  refine wp_loop_rounds 1 ?_
  rw [rounds_succ]
  go_wp2
  go_ret
  exact ⟨rfl, rfl⟩
theorem has_ai_b (n : Nat) (w : World) (h : w.cell? ⟨n, 0, none⟩ = some (.string ⟨#[97, 105]⟩)) :
    Calls Try.prog 14 #[.int .u8 98, .pointer (some ⟨n, 0, none⟩)] w fun e w' => e = .returned (.bool false) ∧ w' = w := by
  go_enter Try.func14, Try.ntmps14
  go_wp2
  refine wp_loop_rounds 3 ?_
  rw [rounds_succ]
  go_wp2
  rw [rounds_succ]
  go_wp2
  rw [rounds_succ]
  go_wp2
  go_ret
  exact ⟨rfl, rfl⟩
theorem has_ai_i (n : Nat) (w : World) (h : w.cell? ⟨n, 0, none⟩ = some (.string ⟨#[97, 105]⟩)) :
    Calls Try.prog 14 #[.int .u8 105, .pointer (some ⟨n, 0, none⟩)] w fun e w' => e = .returned (.bool true) ∧ w' = w := by
  go_enter Try.func14, Try.ntmps14
  go_wp2
  refine wp_loop_rounds 2 ?_
  rw [rounds_succ]
  go_wp2
  rw [rounds_succ]
  go_wp2
  go_ret
  exact ⟨rfl, rfl⟩
theorem has_ab_a (n : Nat) (w : World) (h : w.cell? ⟨n, 0, none⟩ = some (.string ⟨#[97, 98]⟩)) :
    Calls Try.prog 14 #[.int .u8 97, .pointer (some ⟨n, 0, none⟩)] w fun e w' => e = .returned (.bool true) ∧ w' = w := by
  go_enter Try.func14, Try.ntmps14
  go_wp2
  refine wp_loop_rounds 1 ?_
  rw [rounds_succ]
  go_wp2
  go_ret
  exact ⟨rfl, rfl⟩
theorem has_ab_b (n : Nat) (w : World) (h : w.cell? ⟨n, 0, none⟩ = some (.string ⟨#[97, 98]⟩)) :
    Calls Try.prog 14 #[.int .u8 98, .pointer (some ⟨n, 0, none⟩)] w fun e w' => e = .returned (.bool true) ∧ w' = w := by
  go_enter Try.func14, Try.ntmps14
  go_wp2
  refine wp_loop_rounds 2 ?_
  rw [rounds_succ]
  go_wp2
  rw [rounds_succ]
  go_wp2
  go_ret
  exact ⟨rfl, rfl⟩
theorem has_ab_i (n : Nat) (w : World) (h : w.cell? ⟨n, 0, none⟩ = some (.string ⟨#[97, 98]⟩)) :
    Calls Try.prog 14 #[.int .u8 105, .pointer (some ⟨n, 0, none⟩)] w fun e w' => e = .returned (.bool false) ∧ w' = w := by
  go_enter Try.func14, Try.ntmps14
  go_wp2
  refine wp_loop_rounds 3 ?_
  rw [rounds_succ]
  go_wp2
  rw [rounds_succ]
  go_wp2
  rw [rounds_succ]
  go_wp2
  go_ret
  exact ⟨rfl, rfl⟩
theorem has_abi_a (n : Nat) (w : World) (h : w.cell? ⟨n, 0, none⟩ = some (.string ⟨#[97, 98, 105]⟩)) :
    Calls Try.prog 14 #[.int .u8 97, .pointer (some ⟨n, 0, none⟩)] w fun e w' => e = .returned (.bool true) ∧ w' = w := by
  go_enter Try.func14, Try.ntmps14
  go_wp2
  refine wp_loop_rounds 1 ?_
  rw [rounds_succ]
  go_wp2
  go_ret
  exact ⟨rfl, rfl⟩
theorem has_abi_b (n : Nat) (w : World) (h : w.cell? ⟨n, 0, none⟩ = some (.string ⟨#[97, 98, 105]⟩)) :
    Calls Try.prog 14 #[.int .u8 98, .pointer (some ⟨n, 0, none⟩)] w fun e w' => e = .returned (.bool true) ∧ w' = w := by
  go_enter Try.func14, Try.ntmps14
  go_wp2
  refine wp_loop_rounds 2 ?_
  rw [rounds_succ]
  go_wp2
  rw [rounds_succ]
  go_wp2
  go_ret
  exact ⟨rfl, rfl⟩
theorem has_abi_i (n : Nat) (w : World) (h : w.cell? ⟨n, 0, none⟩ = some (.string ⟨#[97, 98, 105]⟩)) :
    Calls Try.prog 14 #[.int .u8 105, .pointer (some ⟨n, 0, none⟩)] w fun e w' => e = .returned (.bool true) ∧ w' = w := by
  go_enter Try.func14, Try.ntmps14
  go_wp2
  refine wp_loop_rounds 3 ?_
  rw [rounds_succ]
  go_wp2
  rw [rounds_succ]
  go_wp2
  rw [rounds_succ]
  go_wp2
  go_ret
  exact ⟨rfl, rfl⟩
end Go.Proofs.Ytjgopihlakehcac
/-
  What drawbridgeref's InsWord answers, by kind: the same as Put.
-/
namespace Go.Proofs.Ytjgopihlakehcac
open Go.RowKit

set_option maxHeartbeats 2000000 in
theorem insWord_0 (a b i : Int) (w : World) (ha : betweenB 0 7 a = true) (hb : betweenB 0 7 b = true) (hi : betweenB 0 63 i = true) :
    Calls Try.prog 7 #[.agg #[.int .i64 0, .int .i64 a, .int .i64 b, .int .i64 i]] w fun e w' => e = .returned (.tuple #[.int .i64 (iW 0 a b i), .int .i64 (iE 0 a b i)]) ∧ Below w.heap.size w w' := by
  obtain ⟨a0, a1⟩ := of_between ha
  obtain ⟨b0, b1⟩ := of_between hb
  obtain ⟨i0, i1⟩ := of_between hi
  have hk : betweenB 0 8 0 = true := by decide
  have he : iE 0 a b i = if fitI 0 a b i = true then 0 else 3 := iE_in (k := 0) (by decide) ⟨a0, a1⟩ ⟨b0, b1⟩ ⟨i0, i1⟩
  have ways : (¬ 0 < a ∧ ¬ 0 < b ∧ ¬ 0 < i) ∨ (¬ 0 < a ∧ ¬ 0 < b ∧ 0 < i) ∨ (¬ 0 < a ∧ 0 < b) ∨ (0 < a) := by omega
  rcases ways with ⟨pa, pb, pi⟩ | ⟨pa, pb, pi⟩ | ⟨pa, pb⟩ | pa
  · have hf : fitI 0 a b i = true := by simp [fitI, useA, useB, useI]; omega
    rw [hf, if_pos rfl] at he
    rw [iW_ok he, he]
    clear he hf
    go_enter Try.func7, Try.ntmps7
    go_wp2_with (first | (go_at_call 13; refine (in_any _ _ _ _).mono ?_; rintro e w1 ⟨rfl, rfl⟩; first | rw [hk] | rw [ha] | rw [hb] | rw [hi]))
    go_ret2
    exact ⟨ret_two (by omega) rfl, bel_alloc (bel_alloc (bel_alloc (Below.refl _ _) _) _) _⟩
  · have hf : ¬ fitI 0 a b i = true := by simp [fitI, useA, useB, useI]; omega
    rw [if_neg hf] at he
    rw [iW_bad he (by decide), he]
    clear he hf
    go_enter Try.func7, Try.ntmps7
    go_wp2_with (first | (go_at_call 13; refine (in_any _ _ _ _).mono ?_; rintro e w1 ⟨rfl, rfl⟩; first | rw [hk] | rw [ha] | rw [hb] | rw [hi]))
    refine (has_no_i _ _ ?_).mono ?_
    · simp [go_sem]
    rintro e w1 ⟨rfl, rfl⟩
    go_wp2_with (first | (go_at_call 13; refine (in_any _ _ _ _).mono ?_; rintro e w1 ⟨rfl, rfl⟩; first | rw [hk] | rw [ha] | rw [hb] | rw [hi]))
    go_ret2
    exact ⟨ret_two (by omega) rfl, bel_alloc (bel_alloc (bel_alloc (Below.refl _ _) _) _) _⟩
  · have hf : ¬ fitI 0 a b i = true := by simp [fitI, useA, useB, useI]; omega
    rw [if_neg hf] at he
    rw [iW_bad he (by decide), he]
    clear he hf
    go_enter Try.func7, Try.ntmps7
    go_wp2_with (first | (go_at_call 13; refine (in_any _ _ _ _).mono ?_; rintro e w1 ⟨rfl, rfl⟩; first | rw [hk] | rw [ha] | rw [hb] | rw [hi]))
    refine (has_no_b _ _ ?_).mono ?_
    · simp [go_sem]
    rintro e w1 ⟨rfl, rfl⟩
    go_wp2_with (first | (go_at_call 13; refine (in_any _ _ _ _).mono ?_; rintro e w1 ⟨rfl, rfl⟩; first | rw [hk] | rw [ha] | rw [hb] | rw [hi]))
    go_ret2
    exact ⟨ret_two (by omega) rfl, bel_alloc (bel_alloc (bel_alloc (Below.refl _ _) _) _) _⟩
  · have hf : ¬ fitI 0 a b i = true := by simp [fitI, useA, useB, useI]; omega
    rw [if_neg hf] at he
    rw [iW_bad he (by decide), he]
    clear he hf
    go_enter Try.func7, Try.ntmps7
    go_wp2_with (first | (go_at_call 13; refine (in_any _ _ _ _).mono ?_; rintro e w1 ⟨rfl, rfl⟩; first | rw [hk] | rw [ha] | rw [hb] | rw [hi]))
    refine (has_no_a _ _ ?_).mono ?_
    · simp [go_sem]
    rintro e w1 ⟨rfl, rfl⟩
    go_wp2_with (first | (go_at_call 13; refine (in_any _ _ _ _).mono ?_; rintro e w1 ⟨rfl, rfl⟩; first | rw [hk] | rw [ha] | rw [hb] | rw [hi]))
    go_ret2
    exact ⟨ret_two (by omega) rfl, bel_alloc (bel_alloc (bel_alloc (Below.refl _ _) _) _) _⟩
set_option maxHeartbeats 2000000 in
theorem insWord_1 (a b i : Int) (w : World) (ha : betweenB 0 7 a = true) (hb : betweenB 0 7 b = true) (hi : betweenB 0 63 i = true) :
    Calls Try.prog 7 #[.agg #[.int .i64 1, .int .i64 a, .int .i64 b, .int .i64 i]] w fun e w' => e = .returned (.tuple #[.int .i64 (iW 1 a b i), .int .i64 (iE 1 a b i)]) ∧ Below w.heap.size w w' := by
  obtain ⟨a0, a1⟩ := of_between ha
  obtain ⟨b0, b1⟩ := of_between hb
  obtain ⟨i0, i1⟩ := of_between hi
  have hk : betweenB 0 8 1 = true := by decide
  have he : iE 1 a b i = if fitI 1 a b i = true then 0 else 3 := iE_in (k := 1) (by decide) ⟨a0, a1⟩ ⟨b0, b1⟩ ⟨i0, i1⟩
  have ways : (¬ 0 < a ∧ ¬ 0 < b ∧ ¬ 0 < i) ∨ (¬ 0 < a ∧ ¬ 0 < b ∧ 0 < i) ∨ (¬ 0 < a ∧ 0 < b) ∨ (0 < a ∧ ¬ 0 < b ∧ ¬ 0 < i) ∨ (0 < a ∧ ¬ 0 < b ∧ 0 < i) ∨ (0 < a ∧ 0 < b) := by omega
  rcases ways with ⟨pa, pb, pi⟩ | ⟨pa, pb, pi⟩ | ⟨pa, pb⟩ | ⟨pa, pb, pi⟩ | ⟨pa, pb, pi⟩ | ⟨pa, pb⟩
  · have hf : fitI 1 a b i = true := by simp [fitI, useA, useB, useI]; omega
    rw [hf, if_pos rfl] at he
    rw [iW_ok he, he]
    clear he hf
    go_enter Try.func7, Try.ntmps7
    go_wp2_with (first | (go_at_call 13; refine (in_any _ _ _ _).mono ?_; rintro e w1 ⟨rfl, rfl⟩; first | rw [hk] | rw [ha] | rw [hb] | rw [hi]))
    go_ret2
    exact ⟨ret_two (by omega) rfl, bel_alloc (bel_alloc (bel_alloc (Below.refl _ _) _) _) _⟩
  · have hf : fitI 1 a b i = true := by simp [fitI, useA, useB, useI]; omega
    rw [hf, if_pos rfl] at he
    rw [iW_ok he, he]
    clear he hf
    go_enter Try.func7, Try.ntmps7
    go_wp2_with (first | (go_at_call 13; refine (in_any _ _ _ _).mono ?_; rintro e w1 ⟨rfl, rfl⟩; first | rw [hk] | rw [ha] | rw [hb] | rw [hi]))
    refine (has_ai_i _ _ ?_).mono ?_
    · simp [go_sem]
    rintro e w1 ⟨rfl, rfl⟩
    go_wp2_with (first | (go_at_call 13; refine (in_any _ _ _ _).mono ?_; rintro e w1 ⟨rfl, rfl⟩; first | rw [hk] | rw [ha] | rw [hb] | rw [hi]))
    go_ret2
    exact ⟨ret_two (by omega) rfl, bel_alloc (bel_alloc (bel_alloc (Below.refl _ _) _) _) _⟩
  · have hf : ¬ fitI 1 a b i = true := by simp [fitI, useA, useB, useI]; omega
    rw [if_neg hf] at he
    rw [iW_bad he (by decide), he]
    clear he hf
    go_enter Try.func7, Try.ntmps7
    go_wp2_with (first | (go_at_call 13; refine (in_any _ _ _ _).mono ?_; rintro e w1 ⟨rfl, rfl⟩; first | rw [hk] | rw [ha] | rw [hb] | rw [hi]))
    refine (has_ai_b _ _ ?_).mono ?_
    · simp [go_sem]
    rintro e w1 ⟨rfl, rfl⟩
    go_wp2_with (first | (go_at_call 13; refine (in_any _ _ _ _).mono ?_; rintro e w1 ⟨rfl, rfl⟩; first | rw [hk] | rw [ha] | rw [hb] | rw [hi]))
    go_ret2
    exact ⟨ret_two (by omega) rfl, bel_alloc (bel_alloc (bel_alloc (Below.refl _ _) _) _) _⟩
  · have hf : fitI 1 a b i = true := by simp [fitI, useA, useB, useI]; omega
    rw [hf, if_pos rfl] at he
    rw [iW_ok he, he]
    clear he hf
    go_enter Try.func7, Try.ntmps7
    go_wp2_with (first | (go_at_call 13; refine (in_any _ _ _ _).mono ?_; rintro e w1 ⟨rfl, rfl⟩; first | rw [hk] | rw [ha] | rw [hb] | rw [hi]))
    refine (has_ai_a _ _ ?_).mono ?_
    · simp [go_sem]
    rintro e w1 ⟨rfl, rfl⟩
    go_wp2_with (first | (go_at_call 13; refine (in_any _ _ _ _).mono ?_; rintro e w1 ⟨rfl, rfl⟩; first | rw [hk] | rw [ha] | rw [hb] | rw [hi]))
    go_ret2
    exact ⟨ret_two (by omega) rfl, bel_alloc (bel_alloc (bel_alloc (Below.refl _ _) _) _) _⟩
  · have hf : fitI 1 a b i = true := by simp [fitI, useA, useB, useI]; omega
    rw [hf, if_pos rfl] at he
    rw [iW_ok he, he]
    clear he hf
    go_enter Try.func7, Try.ntmps7
    go_wp2_with (first | (go_at_call 13; refine (in_any _ _ _ _).mono ?_; rintro e w1 ⟨rfl, rfl⟩; first | rw [hk] | rw [ha] | rw [hb] | rw [hi]))
    refine (has_ai_a _ _ ?_).mono ?_
    · simp [go_sem]
    rintro e w1 ⟨rfl, rfl⟩
    go_wp2_with (first | (go_at_call 13; refine (in_any _ _ _ _).mono ?_; rintro e w1 ⟨rfl, rfl⟩; first | rw [hk] | rw [ha] | rw [hb] | rw [hi]))
    refine (has_ai_i _ _ ?_).mono ?_
    · simp [go_sem]
    rintro e w1 ⟨rfl, rfl⟩
    go_wp2_with (first | (go_at_call 13; refine (in_any _ _ _ _).mono ?_; rintro e w1 ⟨rfl, rfl⟩; first | rw [hk] | rw [ha] | rw [hb] | rw [hi]))
    go_ret2
    exact ⟨ret_two (by omega) rfl, bel_alloc (bel_alloc (bel_alloc (Below.refl _ _) _) _) _⟩
  · have hf : ¬ fitI 1 a b i = true := by simp [fitI, useA, useB, useI]; omega
    rw [if_neg hf] at he
    rw [iW_bad he (by decide), he]
    clear he hf
    go_enter Try.func7, Try.ntmps7
    go_wp2_with (first | (go_at_call 13; refine (in_any _ _ _ _).mono ?_; rintro e w1 ⟨rfl, rfl⟩; first | rw [hk] | rw [ha] | rw [hb] | rw [hi]))
    refine (has_ai_a _ _ ?_).mono ?_
    · simp [go_sem]
    rintro e w1 ⟨rfl, rfl⟩
    go_wp2_with (first | (go_at_call 13; refine (in_any _ _ _ _).mono ?_; rintro e w1 ⟨rfl, rfl⟩; first | rw [hk] | rw [ha] | rw [hb] | rw [hi]))
    refine (has_ai_b _ _ ?_).mono ?_
    · simp [go_sem]
    rintro e w1 ⟨rfl, rfl⟩
    go_wp2_with (first | (go_at_call 13; refine (in_any _ _ _ _).mono ?_; rintro e w1 ⟨rfl, rfl⟩; first | rw [hk] | rw [ha] | rw [hb] | rw [hi]))
    go_ret2
    exact ⟨ret_two (by omega) rfl, bel_alloc (bel_alloc (bel_alloc (Below.refl _ _) _) _) _⟩
set_option maxHeartbeats 2000000 in
theorem insWord_2 (a b i : Int) (w : World) (ha : betweenB 0 7 a = true) (hb : betweenB 0 7 b = true) (hi : betweenB 0 63 i = true) :
    Calls Try.prog 7 #[.agg #[.int .i64 2, .int .i64 a, .int .i64 b, .int .i64 i]] w fun e w' => e = .returned (.tuple #[.int .i64 (iW 2 a b i), .int .i64 (iE 2 a b i)]) ∧ Below w.heap.size w w' := by
  obtain ⟨a0, a1⟩ := of_between ha
  obtain ⟨b0, b1⟩ := of_between hb
  obtain ⟨i0, i1⟩ := of_between hi
  have hk : betweenB 0 8 2 = true := by decide
  have he : iE 2 a b i = if fitI 2 a b i = true then 0 else 3 := iE_in (k := 2) (by decide) ⟨a0, a1⟩ ⟨b0, b1⟩ ⟨i0, i1⟩
  have ways : (¬ 0 < a ∧ ¬ 0 < b ∧ ¬ 0 < i) ∨ (¬ 0 < a ∧ ¬ 0 < b ∧ 0 < i) ∨ (¬ 0 < a ∧ 0 < b ∧ ¬ 0 < i) ∨ (¬ 0 < a ∧ 0 < b ∧ 0 < i) ∨ (0 < a ∧ ¬ 0 < b ∧ ¬ 0 < i) ∨ (0 < a ∧ ¬ 0 < b ∧ 0 < i) ∨ (0 < a ∧ 0 < b ∧ ¬ 0 < i) ∨ (0 < a ∧ 0 < b ∧ 0 < i) := by omega
  rcases ways with ⟨pa, pb, pi⟩ | ⟨pa, pb, pi⟩ | ⟨pa, pb, pi⟩ | ⟨pa, pb, pi⟩ | ⟨pa, pb, pi⟩ | ⟨pa, pb, pi⟩ | ⟨pa, pb, pi⟩ | ⟨pa, pb, pi⟩
  · have hf : fitI 2 a b i = true := by simp [fitI, useA, useB, useI]; omega
    rw [hf, if_pos rfl] at he
    rw [iW_ok he, he]
    clear he hf
    go_enter Try.func7, Try.ntmps7
    go_wp2_with (first | (go_at_call 13; refine (in_any _ _ _ _).mono ?_; rintro e w1 ⟨rfl, rfl⟩; first | rw [hk] | rw [ha] | rw [hb] | rw [hi]))
    go_ret2
    exact ⟨ret_two (by omega) rfl, bel_alloc (bel_alloc (bel_alloc (Below.refl _ _) _) _) _⟩
  · have hf : ¬ fitI 2 a b i = true := by simp [fitI, useA, useB, useI]; omega
    rw [if_neg hf] at he
    rw [iW_bad he (by decide), he]
    clear he hf
    go_enter Try.func7, Try.ntmps7
    go_wp2_with (first | (go_at_call 13; refine (in_any _ _ _ _).mono ?_; rintro e w1 ⟨rfl, rfl⟩; first | rw [hk] | rw [ha] | rw [hb] | rw [hi]))
    refine (has_ab_i _ _ ?_).mono ?_
    · simp [go_sem]
    rintro e w1 ⟨rfl, rfl⟩
    go_wp2_with (first | (go_at_call 13; refine (in_any _ _ _ _).mono ?_; rintro e w1 ⟨rfl, rfl⟩; first | rw [hk] | rw [ha] | rw [hb] | rw [hi]))
    go_ret2
    exact ⟨ret_two (by omega) rfl, bel_alloc (bel_alloc (bel_alloc (Below.refl _ _) _) _) _⟩
  · have hf : fitI 2 a b i = true := by simp [fitI, useA, useB, useI]; omega
    rw [hf, if_pos rfl] at he
    rw [iW_ok he, he]
    clear he hf
    go_enter Try.func7, Try.ntmps7
    go_wp2_with (first | (go_at_call 13; refine (in_any _ _ _ _).mono ?_; rintro e w1 ⟨rfl, rfl⟩; first | rw [hk] | rw [ha] | rw [hb] | rw [hi]))
    refine (has_ab_b _ _ ?_).mono ?_
    · simp [go_sem]
    rintro e w1 ⟨rfl, rfl⟩
    go_wp2_with (first | (go_at_call 13; refine (in_any _ _ _ _).mono ?_; rintro e w1 ⟨rfl, rfl⟩; first | rw [hk] | rw [ha] | rw [hb] | rw [hi]))
    go_ret2
    exact ⟨ret_two (by omega) rfl, bel_alloc (bel_alloc (bel_alloc (Below.refl _ _) _) _) _⟩
  · have hf : ¬ fitI 2 a b i = true := by simp [fitI, useA, useB, useI]; omega
    rw [if_neg hf] at he
    rw [iW_bad he (by decide), he]
    clear he hf
    go_enter Try.func7, Try.ntmps7
    go_wp2_with (first | (go_at_call 13; refine (in_any _ _ _ _).mono ?_; rintro e w1 ⟨rfl, rfl⟩; first | rw [hk] | rw [ha] | rw [hb] | rw [hi]))
    refine (has_ab_b _ _ ?_).mono ?_
    · simp [go_sem]
    rintro e w1 ⟨rfl, rfl⟩
    go_wp2_with (first | (go_at_call 13; refine (in_any _ _ _ _).mono ?_; rintro e w1 ⟨rfl, rfl⟩; first | rw [hk] | rw [ha] | rw [hb] | rw [hi]))
    refine (has_ab_i _ _ ?_).mono ?_
    · simp [go_sem]
    rintro e w1 ⟨rfl, rfl⟩
    go_wp2_with (first | (go_at_call 13; refine (in_any _ _ _ _).mono ?_; rintro e w1 ⟨rfl, rfl⟩; first | rw [hk] | rw [ha] | rw [hb] | rw [hi]))
    go_ret2
    exact ⟨ret_two (by omega) rfl, bel_alloc (bel_alloc (bel_alloc (Below.refl _ _) _) _) _⟩
  · have hf : fitI 2 a b i = true := by simp [fitI, useA, useB, useI]; omega
    rw [hf, if_pos rfl] at he
    rw [iW_ok he, he]
    clear he hf
    go_enter Try.func7, Try.ntmps7
    go_wp2_with (first | (go_at_call 13; refine (in_any _ _ _ _).mono ?_; rintro e w1 ⟨rfl, rfl⟩; first | rw [hk] | rw [ha] | rw [hb] | rw [hi]))
    refine (has_ab_a _ _ ?_).mono ?_
    · simp [go_sem]
    rintro e w1 ⟨rfl, rfl⟩
    go_wp2_with (first | (go_at_call 13; refine (in_any _ _ _ _).mono ?_; rintro e w1 ⟨rfl, rfl⟩; first | rw [hk] | rw [ha] | rw [hb] | rw [hi]))
    go_ret2
    exact ⟨ret_two (by omega) rfl, bel_alloc (bel_alloc (bel_alloc (Below.refl _ _) _) _) _⟩
  · have hf : ¬ fitI 2 a b i = true := by simp [fitI, useA, useB, useI]; omega
    rw [if_neg hf] at he
    rw [iW_bad he (by decide), he]
    clear he hf
    go_enter Try.func7, Try.ntmps7
    go_wp2_with (first | (go_at_call 13; refine (in_any _ _ _ _).mono ?_; rintro e w1 ⟨rfl, rfl⟩; first | rw [hk] | rw [ha] | rw [hb] | rw [hi]))
    refine (has_ab_a _ _ ?_).mono ?_
    · simp [go_sem]
    rintro e w1 ⟨rfl, rfl⟩
    go_wp2_with (first | (go_at_call 13; refine (in_any _ _ _ _).mono ?_; rintro e w1 ⟨rfl, rfl⟩; first | rw [hk] | rw [ha] | rw [hb] | rw [hi]))
    refine (has_ab_i _ _ ?_).mono ?_
    · simp [go_sem]
    rintro e w1 ⟨rfl, rfl⟩
    go_wp2_with (first | (go_at_call 13; refine (in_any _ _ _ _).mono ?_; rintro e w1 ⟨rfl, rfl⟩; first | rw [hk] | rw [ha] | rw [hb] | rw [hi]))
    go_ret2
    exact ⟨ret_two (by omega) rfl, bel_alloc (bel_alloc (bel_alloc (Below.refl _ _) _) _) _⟩
  · have hf : fitI 2 a b i = true := by simp [fitI, useA, useB, useI]; omega
    rw [hf, if_pos rfl] at he
    rw [iW_ok he, he]
    clear he hf
    go_enter Try.func7, Try.ntmps7
    go_wp2_with (first | (go_at_call 13; refine (in_any _ _ _ _).mono ?_; rintro e w1 ⟨rfl, rfl⟩; first | rw [hk] | rw [ha] | rw [hb] | rw [hi]))
    refine (has_ab_a _ _ ?_).mono ?_
    · simp [go_sem]
    rintro e w1 ⟨rfl, rfl⟩
    go_wp2_with (first | (go_at_call 13; refine (in_any _ _ _ _).mono ?_; rintro e w1 ⟨rfl, rfl⟩; first | rw [hk] | rw [ha] | rw [hb] | rw [hi]))
    refine (has_ab_b _ _ ?_).mono ?_
    · simp [go_sem]
    rintro e w1 ⟨rfl, rfl⟩
    go_wp2_with (first | (go_at_call 13; refine (in_any _ _ _ _).mono ?_; rintro e w1 ⟨rfl, rfl⟩; first | rw [hk] | rw [ha] | rw [hb] | rw [hi]))
    go_ret2
    exact ⟨ret_two (by omega) rfl, bel_alloc (bel_alloc (bel_alloc (Below.refl _ _) _) _) _⟩
  · have hf : ¬ fitI 2 a b i = true := by simp [fitI, useA, useB, useI]; omega
    rw [if_neg hf] at he
    rw [iW_bad he (by decide), he]
    clear he hf
    go_enter Try.func7, Try.ntmps7
    go_wp2_with (first | (go_at_call 13; refine (in_any _ _ _ _).mono ?_; rintro e w1 ⟨rfl, rfl⟩; first | rw [hk] | rw [ha] | rw [hb] | rw [hi]))
    refine (has_ab_a _ _ ?_).mono ?_
    · simp [go_sem]
    rintro e w1 ⟨rfl, rfl⟩
    go_wp2_with (first | (go_at_call 13; refine (in_any _ _ _ _).mono ?_; rintro e w1 ⟨rfl, rfl⟩; first | rw [hk] | rw [ha] | rw [hb] | rw [hi]))
    refine (has_ab_b _ _ ?_).mono ?_
    · simp [go_sem]
    rintro e w1 ⟨rfl, rfl⟩
    go_wp2_with (first | (go_at_call 13; refine (in_any _ _ _ _).mono ?_; rintro e w1 ⟨rfl, rfl⟩; first | rw [hk] | rw [ha] | rw [hb] | rw [hi]))
    refine (has_ab_i _ _ ?_).mono ?_
    · simp [go_sem]
    rintro e w1 ⟨rfl, rfl⟩
    go_wp2_with (first | (go_at_call 13; refine (in_any _ _ _ _).mono ?_; rintro e w1 ⟨rfl, rfl⟩; first | rw [hk] | rw [ha] | rw [hb] | rw [hi]))
    go_ret2
    exact ⟨ret_two (by omega) rfl, bel_alloc (bel_alloc (bel_alloc (Below.refl _ _) _) _) _⟩
end Go.Proofs.Ytjgopihlakehcac
