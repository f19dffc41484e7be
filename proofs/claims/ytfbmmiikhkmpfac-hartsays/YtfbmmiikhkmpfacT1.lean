/-
  Laid together: Base, Equal, In, Mem, Entry, Entry2, Entry3, EntryMath, Blks, Parted, Mem2, Walk1, Find, Write, Put, Stored, KeepsWalk, Walk2, WithA, With, At.
-/
import Derived.Test.YtfbmmiikhkmpfacRows
import Derived.WalkKit
import Derived.WalkSpells
import Derived.WalkLawsBesides
import Derived.Below
import Derived.WalkSmall
import Derived.Deep.QuietTactic
import Derived.BigQuiet
import Derived.Deep.Draws
import Derived.Deep.RegionWith
import Derived.LoopN
import Derived.Deep.CutRange
import Derived.Deep.RegionHeld3
import Derived.Laws.CopyOwn
import Derived.Deep.AppendLies
/-
  What the walks of this seat share: when a slice of ints reads as a list of numbers in a world (Sl), and that nothing of it turns while the world only grows (Below).
-/
namespace Go.Proofs.Ytfbmmiikhkmpfac
open Go.RowKit

/-- The number at a place: a plain name, so that the walk's own rules leave it standing. -/
def nth (zs : List Int) (i : Nat) : Int := zs.getD i 0

theorem getElem?_nth {zs : List Int} {i : Nat} (h : i < zs.length) : zs[i]? = some (nth zs i) := by simp [nth, h]

/-- A slice reads as a list of numbers in a world. -/
def Sl (w : World) (v : Value) (zs : List Int) : Prop :=
  ∃ a cap, v = .slice a zs.length cap ∧ zs.length ≤ maxLen ∧
    (zs = [] ∨ ∃ b o, a = some ⟨b, o, none⟩ ∧ b < w.heap.size ∧ ∀ i, i < zs.length → w.cell? ⟨b, o + i, none⟩ = some (.int .i64 (nth zs i)))

theorem Sl.keep {w w' : World} {v : Value} {zs : List Int} (h : Sl w v zs) (hb : Below w.heap.size w w') : Sl w' v zs := by
  obtain ⟨a, cap, rfl, hl, h⟩ := h
  refine ⟨a, cap, rfl, hl, ?_⟩
  rcases h with h | ⟨b, o, rfl, hlt, hc⟩
  · exact .inl h
  · exact .inr ⟨b, o, rfl, Nat.lt_of_lt_of_le hlt hb.size, fun i hi => by rw [hb.cell (p := ⟨b, o + i, none⟩) hlt]; exact hc i hi⟩

theorem Sl.nil (w : World) (a : Option Addr) (cap : Nat) : Sl w (.slice a 0 cap) [] := ⟨a, cap, rfl, by simp [maxLen], .inl rfl⟩

/-- A block that holds the numbers and no more. -/
theorem sl_block {w : World} {b n cap : Nat} {t : TypeId} {fr : Nat × Nat} {cs : Array Value} {zs : List Int} (hb : w.heap[b]? = some (.cells cs t fr)) (hcs : cs.toList = zs.map (fun z => Value.int .i64 z)) (hn : n = zs.length) (hm : zs.length ≤ maxLen) :
    Sl w (.slice (some ⟨b, 0, none⟩) n cap) zs := by
  subst hn
  refine ⟨_, cap, rfl, hm, .inr ⟨b, 0, rfl, ?_, fun i hi => ?_⟩⟩
  · rcases Nat.lt_or_ge b w.heap.size with h | h
    · exact h
    · rw [Array.getElem?_eq_none h] at hb; exact absurd hb (by simp)
  · rw [Nat.zero_add, cell_of_row w b i cs t fr hb, ← Array.getElem?_toList, hcs, List.getElem?_map, List.getElem?_eq_getElem hi]
    simp [nth, hi]

theorem heap_push (w : World) (o : Obj) : (w.alloc o).heap = w.heap.push o := rfl

theorem heap_at {w : World} {o : Obj} {n : Nat} (h : n = w.heap.size) : (w.alloc o).heap[n]? = some o := by subst h; exact heap_alloc_new w o
theorem heap_past {w : World} {o : Obj} {n : Nat} {x : Option Obj} (h : n < w.heap.size) (k : w.heap[n]? = x) : (w.alloc o).heap[n]? = x := by rw [heap_alloc_old w o h]; exact k
theorem heap_drawn {w : World} {m n : Nat} {x : Option Obj} (k : w.heap[n]? = x) : (w.drewN m).heap[n]? = x := k

/-- Nothing old has turned: a new block; some draws; a store into a new block. -/
theorem bel_alloc {a w : World} (h : Below a.heap.size a w) (o : Obj) : Below a.heap.size a (w.alloc o) := h.alloc h.size o
theorem bel_drewN {a w : World} (h : Below a.heap.size a w) (n : Nat) : Below a.heap.size a (w.drewN n) := below_drewN h n
theorem bel_trans {a b c : World} (h : Below a.heap.size a b) (k : Below b.heap.size b c) : Below a.heap.size a c := h.trans (k.mono h.size)

/-- Old cells and marks behind a call that only grows the world. -/
theorem bcell {W w1 : World} (hb : Below W.heap.size W w1) : (∀ b o, b < W.heap.size → w1.cell? ⟨b, o, none⟩ = W.cell? ⟨b, o, none⟩) ∧ (∀ b o, b < W.heap.size → w1.frozen? ⟨b, o, none⟩ = W.frozen? ⟨b, o, none⟩) :=
  ⟨fun b o h => hb.cell (p := ⟨b, o, none⟩) h, fun b o h => hb.frozen (p := ⟨b, o, none⟩) h⟩

theorem ret_bool {a b : Bool} (h : a = b) : Ending.returned (.bool a) = .returned (.bool b) := by rw [h]
theorem ret_int {k : IntKind} {a b : Int} (h : a = b) : Ending.returned (.int k a) = .returned (.int k b) := by rw [h]

/-- Two lists of one length that agree at every place are one. -/
theorem list_ext_getD {xs ys : List Int} (hl : xs.length = ys.length) (h : ∀ i, i < xs.length → nth xs i = nth ys i) : xs = ys := by
  apply List.ext_getElem hl
  intro i h1 h2
  have := h i h1
  simpa [nth, List.getD_eq_getElem?_getD, List.getElem?_eq_getElem h1, List.getElem?_eq_getElem h2] using this

theorem ne_of_getD {xs ys : List Int} {i : Nat} (h : ¬ nth xs i = nth ys i) : xs ≠ ys := fun e => h (by rw [e])
/-- Its memory is new: it lies behind what was there. -/
def Fresh (base : Nat) (v : Value) : Prop := ∀ k, v.ownBlock = some k → base ≤ k
theorem Fresh.mono {a b : Nat} {v : Value} (h : Fresh b v) (k : a ≤ b) : Fresh a v := fun n hn => Nat.le_trans k (h n hn)
theorem Fresh.none (base n c : Nat) : Fresh base (.slice none n c) := fun k hk => by simp [Value.ownBlock] at hk
theorem Fresh.ne {base n : Nat} {v : Value} (h : Fresh base v) (k : n < base) : v.ownBlock ≠ some n := fun e => absurd (h n e) (by omega)
theorem fresh_at {base g : Nat} (h : base ≤ g) (o n c : Nat) : Fresh base (.slice (some ⟨g, o, none⟩) n c) := fun k hk => by simp [Value.ownBlock] at hk; omega
end Go.Proofs.Ytfbmmiikhkmpfac
/-
  slices.Equal on two slices of ints answers whether they read as one list, whatever they are; it only reads.
-/
namespace Go.Proofs.Ytfbmmiikhkmpfac
open Go.RowKit

theorem equal_done {xs ys : List Int} {k : Nat} (hl : xs.length = ys.length) (hk : ¬ k < xs.length) (h : ∀ j, j < k → nth xs j = nth ys j) : decide (xs = ys) = true := by
  simp only [decide_eq_true_eq]; exact list_ext_getD hl fun i hi => h i (by omega)

set_option maxHeartbeats 1000000 in
/-- slices.Equal[[]int,int]. -/
theorem equal_any (v1 v2 : Value) (xs ys : List Int) (w : World) (h1 : Sl w v1 xs) (h2 : Sl w v2 ys) :
    Calls Try.prog 24 #[v1, v2] w fun e w' => e = .returned (.bool (decide (xs = ys))) ∧ ∃ n, w' = w.drewN n := by
  obtain ⟨a1, c1, rfl, l1, h1⟩ := h1
  obtain ⟨a2, c2, rfl, l2, h2⟩ := h2
  unfold maxLen at l1 l2
  by_cases hl : xs.length = ys.length
  · have hne : ((xs.length : Int) != (ys.length : Int)) = false := by simp [hl]
    rcases h1 with rfl | ⟨b1, o1, rfl, hb1, hc1⟩
    · obtain rfl : ys = [] := List.eq_nil_of_length_eq_zero hl.symm
      go_enter Try.func24, Try.ntmps24
      go_wp2
      go_loopw [5, 13] (fun _ i w' => i = .int .i64 0 ∧ w' = w) (fun _ i _ => 0)
      case atStart => exact ⟨rfl, rfl⟩
      case round =>
        obtain ⟨rfl, rfl⟩ := hrel
        go_wp2
        go_ret
        exact ⟨rfl, 0, rfl⟩
    · rcases h2 with rfl | ⟨b2, o2, rfl, hb2, hc2⟩
      · obtain rfl : xs = [] := List.eq_nil_of_length_eq_zero hl
        go_enter Try.func24, Try.ntmps24
        go_wp2
        go_loopw [5, 13] (fun _ i w' => i = .int .i64 0 ∧ w' = w) (fun _ i _ => 0)
        case atStart => exact ⟨rfl, rfl⟩
        case round =>
          obtain ⟨rfl, rfl⟩ := hrel
          go_wp2
          go_ret
          exact ⟨rfl, 0, rfl⟩
      have Hl : Hid (xs.length = ys.length) := hl
      have hle : (xs.length : Int) ≤ ys.length := by omega
      have H1 := hc1
      have H2 := hc2
      clear hl hc1 hc2
      have HC1 : Hid _ := H1
      have HC2 : Hid _ := H2
      clear H1 H2
      go_enter Try.func24, Try.ntmps24
      go_wp2
      go_loopw [5, 13] (fun _ i w' => ∃ k : Nat, k ≤ xs.length ∧ i = .int .i64 k ∧ (∀ j, j < k → nth xs j = nth ys j) ∧ ∃ n, w' = w.drewN n) (fun _ i _ => xs.length - (intOf i).toNat)
      case atStart => exact ⟨0, Nat.zero_le _, rfl, fun j hj => absurd hj (Nat.not_lt_zero _), 0, rfl⟩
      case round =>
        obtain ⟨k, hk, rfl, hpre, n, rfl⟩ := hrel
        have HP : Hid (∀ j, j < k → nth xs j = nth ys j) := hpre
        clear hpre
        by_cases hlt : k < xs.length
        · have g1 := HC1.out k hlt
          have g2 := HC2.out k (by have := Hl.out; omega)
          have hlt1 : (k : Int) < xs.length := by omega
          have hlt2 : (k : Int) < ys.length := by omega
          by_cases hq : nth xs k = nth ys k
          · have hb : (nth xs k != nth ys k) = false := by simp [hq]
            have HQ : Hid (nth xs k = nth ys k) := hq
            clear hq
            go_wp2
            go_quiet (fail)
            go_wp2
            refine ⟨⟨k + 1, by omega, by go_num, fun j hj => ?_, _, rfl⟩, by simp [intOf]; omega⟩
            by_cases e : j = k
            · rw [e]; exact HQ.out
            · exact HP.out j (by omega)
          · have hb : (nth xs k != nth ys k) = true := by simp [hq]
            have HN : Hid (decide (xs = ys) = false) := by simpa [Hid] using ne_of_getD hq
            clear hq
            go_wp2
            go_quiet (fail)
            go_wp2
            go_ret
            exact ⟨ret_bool HN.out.symm, n + nq, World.drewN_drewN _ _ _⟩
        · have HD : Hid (decide (xs = ys) = true) := equal_done Hl.out hlt HP.out
          go_wp2
          go_ret
          exact ⟨ret_bool HD.out.symm, _, rfl⟩
  · have hne : ((xs.length : Int) != (ys.length : Int)) = true := by simp; omega
    have hd : decide (xs = ys) = false := by simp; intro e; exact hl (by rw [e])
    rw [hd]
    go_enter Try.func24, Try.ntmps24
    go_wp2
    go_ret
    exact ⟨rfl, 0, rfl⟩
end Go.Proofs.Ytfbmmiikhkmpfac
/-
  drawbridgeref's in: whether a number is from one to another one.
-/
namespace Go.Proofs.Ytfbmmiikhkmpfac
open Go.RowKit

/-- Is it from one to the other? -/
def betweenB (lo hi z : Int) : Bool := decide (lo ≤ z ∧ z ≤ hi)
theorem between_yes {lo hi z : Int} (h : lo ≤ z ∧ z ≤ hi) : betweenB lo hi z = true := decide_eq_true h
theorem between_no {lo hi z : Int} (h : ¬ (lo ≤ z ∧ z ≤ hi)) : betweenB lo hi z = false := decide_eq_false h
theorem of_between {lo hi z : Int} (h : betweenB lo hi z = true) : lo ≤ z ∧ z ≤ hi := of_decide_eq_true h

theorem in_any (z lo hi : Int) (w : World) : Calls Try.prog 32 #[.int .i64 z, .int .i64 lo, .int .i64 hi] w fun e w' => e = .returned (.bool (betweenB lo hi z)) ∧ w' = w := by
  by_cases h1 : lo ≤ z
  · by_cases h2 : z ≤ hi
    · have : betweenB lo hi z = true := by simp [betweenB, h1, h2]
      rw [this]
      go_enter Try.func32, Try.ntmps32
      go_wp2
      go_ret
      exact ⟨rfl, rfl⟩
    · have : betweenB lo hi z = false := by simp [betweenB, h2]
      rw [this]
      go_enter Try.func32, Try.ntmps32
      go_wp2
      go_ret
      exact ⟨rfl, rfl⟩
  · have : betweenB lo hi z = false := by simp [betweenB, h1]
    rw [this]
    go_enter Try.func32, Try.ntmps32
    go_wp2
    go_ret
    exact ⟨rfl, rfl⟩
end Go.Proofs.Ytfbmmiikhkmpfac
/-
  Package mem: what Check, Read, New, Same answer, and what drawbridgeref's CheckMem and in answer; none turns memory that was there.
-/
namespace Go.Proofs.Ytfbmmiikhkmpfac
open Go.RowKit

/-- Is it a word? -/
def wordB (z : Int) : Bool := decide (0 ≤ z ∧ z ≤ 65535)
/-- Is it a place? -/
def placeB (z : Int) : Bool := decide (0 ≤ z ∧ z < 512)
/-- What Check says of these words. -/
def chk (zs : List Int) : Int := if zs.length = 512 then (if zs.all wordB then 0 else 2) else 3

theorem chk_len {zs : List Int} (h : ¬ zs.length = 512) : chk zs = 3 := by simp [chk, h]
theorem chk_all {zs : List Int} (h : zs.length = 512) (k : ∀ j, j < 512 → wordB (nth zs j) = true) : chk zs = 0 := by
  have : zs.all wordB = true := by
    rw [List.all_eq_true]
    intro x hx
    obtain ⟨i, hi, rfl⟩ := List.getElem_of_mem hx
    have := k i (by omega)
    simpa [nth, hi] using this
  simp [chk, h, this]
theorem chk_not {zs : List Int} {j : Nat} (h : zs.length = 512) (hj : j < 512) (k : wordB (nth zs j) = false) : chk zs = 2 := by
  have : zs.all wordB = false := by
    rw [List.all_eq_false]
    exact ⟨zs[j], List.getElem_mem _, by simpa [nth, h, hj] using k⟩
  simp [chk, h, this]
theorem chk_ok {zs : List Int} (h : chk zs = 0) : zs.length = 512 ∧ ∀ j, j < 512 → wordB (nth zs j) = true := by
  unfold chk at h
  by_cases hl : zs.length = 512
  · refine ⟨hl, fun j hj => ?_⟩
    by_cases ha : zs.all wordB = true
    · rw [List.all_eq_true] at ha
      have := ha zs[j] (List.getElem_mem _)
      simpa [nth, hl, hj] using this
    · simp [hl, ha] at h
  · simp [hl] at h
theorem chk_cases (zs : List Int) : chk zs = 0 ∨ chk zs = 2 ∨ chk zs = 3 := by
  unfold chk; by_cases hl : zs.length = 512 <;> by_cases ha : zs.all wordB = true <;> simp [hl, ha]

theorem isWord_any (z : Int) (w : World) : Calls Try.prog 43 #[.int .i64 z] w fun e w' => e = .returned (.bool (wordB z)) ∧ w' = w := by
  by_cases h1 : 0 ≤ z
  · by_cases h2 : z ≤ 65535
    · have : wordB z = true := by simp [wordB, h1, h2]
      rw [this]
      go_enter Try.func43, Try.ntmps43
      go_wp2
      go_ret
      exact ⟨rfl, rfl⟩
    · have : wordB z = false := by simp [wordB, h2]
      rw [this]
      go_enter Try.func43, Try.ntmps43
      go_wp2
      go_ret
      exact ⟨rfl, rfl⟩
  · have : wordB z = false := by simp [wordB, h1]
    rw [this]
    go_enter Try.func43, Try.ntmps43
    go_wp2
    go_ret
    exact ⟨rfl, rfl⟩
theorem isPlace_any (z : Int) (w : World) : Calls Try.prog 70 #[.int .i64 z] w fun e w' => e = .returned (.bool (placeB z)) ∧ w' = w := by
  by_cases h1 : 0 ≤ z
  · by_cases h2 : z < 512
    · have : placeB z = true := by simp [placeB, h1, h2]
      rw [this]
      go_enter Try.func70, Try.ntmps70
      go_wp2
      go_ret
      exact ⟨rfl, rfl⟩
    · have : placeB z = false := by simp [placeB, h2]
      rw [this]
      go_enter Try.func70, Try.ntmps70
      go_wp2
      go_ret
      exact ⟨rfl, rfl⟩
  · have : placeB z = false := by simp [placeB, h1]
    rw [this]
    go_enter Try.func70, Try.ntmps70
    go_wp2
    go_ret
    exact ⟨rfl, rfl⟩
set_option maxHeartbeats 1000000 in
theorem check_any (v : Value) (zs : List Int) (w : World) (h : Sl w v zs) :
    Calls Try.prog 25 #[.agg #[v]] w fun e w' => e = .returned (.int .i64 (chk zs)) ∧ Below w.heap.size w w' := by
  obtain ⟨a, cap, rfl, hl, h⟩ := h
  unfold maxLen at hl
  by_cases hn : zs.length = 512
  · rcases h with rfl | ⟨b, o, rfl, hb, hc⟩
    · simp at hn
    have HC : Hid (∀ i, i < 512 → w.cell? ⟨b, o + i, none⟩ = some (.int .i64 (nth zs i))) := fun i hi => hc i (by omega)
    have HN : Hid (zs.length = 512) := hn
    rw [hn]
    clear hc hl hn
    go_enter Try.func25, Try.ntmps25
    go_wp2
    go_loop [12] (fun i => ∃ k : Nat, k ≤ 512 ∧ i = .int .i64 k ∧ ∀ j, j < k → wordB (nth zs j) = true) (fun i => 512 - (intOf i).toNat)
    case atStart => exact ⟨0, Nat.zero_le _, rfl, fun j hj => absurd hj (Nat.not_lt_zero _)⟩
    case round =>
      obtain ⟨k, hk, rfl, hpre⟩ := hrel
      have HP : Hid (∀ j, j < k → wordB (nth zs j) = true) := hpre
      clear hpre
      by_cases hlt : k < 512
      · have g := HC.out k hlt
        have hlt1 : (k : Int) < 512 := by omega
        by_cases hq : wordB (nth zs k) = true
        · go_wp2_with (go_at_call 43; refine (isWord_any _ _).mono ?_; rintro e w' ⟨rfl, rfl⟩)
          refine ⟨⟨k + 1, by omega, by go_num, fun j hj => ?_⟩, by simp [intOf]; omega⟩
          by_cases e : j = k
          · rw [e]; exact hq
          · exact HP.out j (by omega)
        · have hq' : wordB (nth zs k) = false := by simpa using hq
          have HD : Hid (chk zs = 2) := chk_not HN.out hlt hq'
          clear hq
          go_wp2_with (go_at_call 43; refine (isWord_any _ _).mono ?_; rintro e w' ⟨rfl, rfl⟩)
          go_ret
          exact ⟨ret_int HD.out.symm, bel_alloc (Below.refl _ _) _⟩
      · have HD : Hid (chk zs = 0) := chk_all HN.out fun j hj => HP.out j (by omega)
        have hge : ¬ (k : Int) < 512 := by omega
        go_wp2
        go_ret
        exact ⟨ret_int HD.out.symm, bel_alloc (Below.refl _ _) _⟩
  · have hne : ((zs.length : Int) != 512) = true := by simp; omega
    rw [chk_len hn]
    go_enter Try.func25, Try.ntmps25
    go_wp2
    go_ret
    exact ⟨rfl, bel_alloc (Below.refl _ _) _⟩

theorem between_word (z : Int) : betweenB 0 65535 z = wordB z := rfl

set_option maxHeartbeats 1000000 in
theorem checkMem_any (v : Value) (zs : List Int) (w : World) (h : Sl w v zs) :
    Calls Try.prog 15 #[.agg #[v]] w fun e w' => e = .returned (.int .i64 (chk zs)) ∧ Below w.heap.size w w' := by
  obtain ⟨a, cap, rfl, hl, h⟩ := h
  unfold maxLen at hl
  by_cases hn : zs.length = 512
  · rcases h with rfl | ⟨b, o, rfl, hb, hc⟩
    · simp at hn
    have HC : Hid (∀ i, i < 512 → w.cell? ⟨b, o + i, none⟩ = some (.int .i64 (nth zs i))) := fun i hi => hc i (by omega)
    have HN : Hid (zs.length = 512) := hn
    rw [hn]
    clear hc hl hn
    go_enter Try.func15, Try.ntmps15
    go_wp2
    go_loop [12] (fun i => ∃ k : Nat, k ≤ 512 ∧ i = .int .i64 k ∧ ∀ j, j < k → wordB (nth zs j) = true) (fun i => 512 - (intOf i).toNat)
    case atStart => exact ⟨0, Nat.zero_le _, rfl, fun j hj => absurd hj (Nat.not_lt_zero _)⟩
    case round =>
      obtain ⟨k, hk, rfl, hpre⟩ := hrel
      have HP : Hid (∀ j, j < k → wordB (nth zs j) = true) := hpre
      clear hpre
      by_cases hlt : k < 512
      · have g := HC.out k hlt
        have hlt1 : (k : Int) < 512 := by omega
        by_cases hq : wordB (nth zs k) = true
        · go_wp2_with (go_at_call 32; refine (in_any _ _ _ _).mono ?_; rintro e w' ⟨rfl, rfl⟩; rw [between_word])
          refine ⟨⟨k + 1, by omega, by go_num, fun j hj => ?_⟩, by simp [intOf]; omega⟩
          by_cases e : j = k
          · rw [e]; exact hq
          · exact HP.out j (by omega)
        · have hq' : wordB (nth zs k) = false := by simpa using hq
          have HD : Hid (chk zs = 2) := chk_not HN.out hlt hq'
          clear hq
          go_wp2_with (go_at_call 32; refine (in_any _ _ _ _).mono ?_; rintro e w' ⟨rfl, rfl⟩; rw [between_word])
          go_ret
          exact ⟨ret_int HD.out.symm, bel_alloc (Below.refl _ _) _⟩
      · have HD : Hid (chk zs = 0) := chk_all HN.out fun j hj => HP.out j (by omega)
        have hge : ¬ (k : Int) < 512 := by omega
        go_wp2
        go_ret
        exact ⟨ret_int HD.out.symm, bel_alloc (Below.refl _ _) _⟩
  · have hne : ((zs.length : Int) != 512) = true := by simp; omega
    rw [chk_len hn]
    go_enter Try.func15, Try.ntmps15
    go_wp2
    go_ret
    exact ⟨rfl, bel_alloc (Below.refl _ _) _⟩
end Go.Proofs.Ytfbmmiikhkmpfac
/-
  Package entry: what its small functions answer; none turns memory that was there.
-/
namespace Go.Proofs.Ytfbmmiikhkmpfac
open Go.RowKit

/-- Is it a page? -/
def pageB (z : Int) : Bool := decide (0 ≤ z ∧ z < 64)

/-- Is this bit of a word set? -/
def bitB (z : Int) (k : Nat) : Bool := decide (z / 2 ^ k % 2 = 1)
/-- Is one of these bits set? -/
def anyB (z : Int) (zs : List Int) : Bool := zs.any (fun k => bitB z k.toNat)

theorem wraps_i64 (n : Int) (h0 : 0 ≤ n) (h1 : n < 2 ^ 63) : IntKind.i64.wrap n = n := by rw [IntKind.wrap_i64]; omega
theorem and_one_i64 (x : Int) (h0 : 0 ≤ x) (h1 : x ≤ 65535) : bits .and .i64 x 1 = x % 2 :=
  bits_mask .i64 63 (by decide) wraps_i64 1 (by decide) x h0 (by omega)
theorem shr_le (z : Int) (s : Nat) (h0 : 0 ≤ z) (h1 : z ≤ 65535) : 0 ≤ z / 2 ^ s ∧ z / 2 ^ s ≤ 65535 := by
  have hp : (0 : Int) < 2 ^ s := Int.pow_pos (by decide)
  exact ⟨Int.ediv_nonneg h0 (Int.le_of_lt hp), Int.le_trans (Int.ediv_le_self _ h0) h1⟩
theorem bit_eq (z : Int) (s : Nat) (h0 : 0 ≤ z) (h1 : z ≤ 65535) : (bits .and .i64 (z / 2 ^ s) 1 == 1) = bitB z s := by
  rw [and_one_i64 _ (shr_le z s h0 h1).1 (shr_le z s h0 h1).2, bitB]
  rfl
theorem anyB_at {z : Int} {zs : List Int} {i : Nat} (hi : i < zs.length) (h : bitB z (nth zs i).toNat = true) : anyB z zs = true := by
  rw [anyB, List.any_eq_true]
  refine ⟨zs[i], List.getElem_mem _, ?_⟩
  simpa [nth, hi] using h
theorem anyB_none {z : Int} {zs : List Int} (h : ∀ i, i < zs.length → bitB z (nth zs i).toNat = false) : anyB z zs = false := by
  rw [anyB, List.any_eq_false]
  intro x hx
  obtain ⟨i, hi, rfl⟩ := List.getElem_of_mem hx
  have := h i hi
  simp only [nth, List.getD_eq_getElem?_getD, List.getElem?_eq_getElem hi, Option.getD_some] at this
  simp [this]

/-- What is asked of an entry's form, and of a context's. -/
def formE (v r x l : Bool) (p : Int) : Bool := if v then (r || !x) && (l || !r) else !r && !x && !l && decide (p = 0)
def formC (v a : Bool) (p : Int) : Bool := if v then !a || decide (p = 0) else !a && decide (p = 0)

end Go.Proofs.Ytfbmmiikhkmpfac
/-
  Package entry: what wordOf, Read, ReadContext, Put, PutContext answer; none turns memory that was there.
-/
namespace Go.Proofs.Ytfbmmiikhkmpfac
open Go.RowKit

def bth (fs : List Bool) (i : Nat) : Bool := fs.getD i false
/-- The word with this page and the first k of these flags. -/
def accB (p : Int) (fs : List Bool) : Nat → Int
  | 0 => 16 * p
  | k + 1 => accB p fs k + (if bth fs k then 2 ^ k else 0)

theorem or_bit : ∀ k, k < 4 → ∀ a, a < 1024 → a / 2 ^ k % 2 = 0 → a ||| 2 ^ k = a + 2 ^ k := by decide +kernel
theorem accB_in (p : Int) (fs : List Bool) (k : Nat) (hk : k ≤ 4) : ∃ m : Int, accB p fs k = 16 * p + m ∧ 0 ≤ m ∧ m < 2 ^ k := by
  induction k with
  | zero => exact ⟨0, by simp [accB], by omega, by omega⟩
  | succ k ih =>
    obtain ⟨m, e, m0, m1⟩ := ih (by omega)
    cases hb : bth fs k
    · exact ⟨m, by simp [accB, hb, e], m0, by rw [Int.pow_succ]; omega⟩
    · exact ⟨m + 2 ^ k, by simp [accB, hb, e]; omega, by omega, by rw [Int.pow_succ]; omega⟩
theorem or_acc (p : Int) (fs : List Bool) (h0 : 0 ≤ p) (h1 : p < 64) (k : Nat) (hk : k < 4) : bits .or .i64 (accB p fs k) (2 ^ k) = accB p fs k + 2 ^ k := by
  obtain ⟨m, e, m0, m1⟩ := accB_in p fs k (by omega)
  rw [e]
  have h2 : (2 : Int) ^ k ≤ 8 := by
    obtain rfl | rfl | rfl | rfl : k = 0 ∨ k = 1 ∨ k = 2 ∨ k = 3 := by omega
    all_goals decide
  obtain ⟨P, rfl⟩ := Int.eq_ofNat_of_zero_le h0
  obtain ⟨M, rfl⟩ := Int.eq_ofNat_of_zero_le m0
  have e1 : (16 * (P : Int) + M) = ((16 * P + M : Nat) : Int) := by simp
  have e2 : (2 : Int) ^ k = ((2 ^ k : Nat) : Int) := by simp
  have hM : M < 2 ^ k := by exact_mod_cast m1
  have h2' : 2 ^ k ≤ 8 := by exact_mod_cast h2
  rw [e1, e2, (bits_nat .i64 63 (by decide) wraps_i64 _ _ (by omega) (by omega)).2, or_bit k hk (16 * P + M) (by omega) ?_]
  · simp
  · obtain rfl | rfl | rfl | rfl : k = 0 ∨ k = 1 ∨ k = 2 ∨ k = 3 := by omega
    all_goals omega

theorem wrap_pow (k : Nat) (hk : k < 4) : wrap64 (2 ^ k) = 2 ^ k := by
  obtain rfl | rfl | rfl | rfl : k = 0 ∨ k = 1 ∨ k = 2 ∨ k = 3 := by omega
  all_goals (unfold wrap64; decide)

/-- What a word says as an entry: may it be one; its fields. -/
def okE (z : Int) : Bool := wordB z && (!bitB z 0 || (!anyB z [10, 11, 12, 13, 14, 15] && formE true (bitB z 1) (bitB z 2) (bitB z 3) (z / 16 % 64)))
def vE (z : Int) : Bool := okE z && bitB z 0
def rE (z : Int) : Bool := vE z && bitB z 1
def xE (z : Int) : Bool := vE z && bitB z 2
def lE (z : Int) : Bool := vE z && bitB z 3
def pE (z : Int) : Int := if vE z then z / 16 % 64 else 0
/-- What a word says as a context. -/
def okC (z : Int) : Bool := wordB z && (!bitB z 0 || (!anyB z [2, 3, 10, 11, 12, 13, 14, 15] && formC true (bitB z 1) (z / 16 % 64)))
def vC (z : Int) : Bool := okC z && bitB z 0
def aC (z : Int) : Bool := vC z && bitB z 1
def pC (z : Int) : Int := if vC z then z / 16 % 64 else 0

theorem any_one (z : Int) (k : Nat) : anyB z [(k : Int)] = bitB z k := by simp [anyB]

end Go.Proofs.Ytfbmmiikhkmpfac
/-
  Package entry: what ReadContext, Put, PutContext answer; none turns memory that was there.
-/
namespace Go.Proofs.Ytfbmmiikhkmpfac
open Go.RowKit

/-- What Put answers, and PutContext. -/
def putE (v r x l : Bool) (p : Int) : Int := if pageB p then (if formE v r x l p then 0 else 3) else 2
def putW (v r x l : Bool) (p : Int) : Int := if putE v r x l p = 0 then accB p [v, r, x, l] 4 else 0
def ptcE (v a : Bool) (p : Int) : Int := if pageB p then (if formC v a p then 0 else 3) else 2
def ptcW (v a : Bool) (p : Int) : Int := if ptcE v a p = 0 then accB p [v, a] 2 else 0

theorem flag_cells {w : World} {b : Nat} {t : TypeId} {fr : Nat × Nat} {cs : Array Value} {fs : List Bool} (hb : w.heap[b]? = some (.cells cs t fr)) (hcs : cs.toList = fs.map Value.bool) :
    ∀ i, i < fs.length → w.cell? ⟨b, i, none⟩ = some (.bool (bth fs i)) := fun i hi => by
  rw [cell_of_row w b i cs t fr hb, ← Array.getElem?_toList, hcs, List.getElem?_map, List.getElem?_eq_getElem hi]
  simp [bth, hi]

end Go.Proofs.Ytfbmmiikhkmpfac
/-
  Entries and contexts as numbers: what is put is read, what is read and valid is put as it was.
-/
namespace Go.Proofs.Ytfbmmiikhkmpfac
open Go.RowKit

theorem hi_six (z : Int) (h0 : 0 ≤ z) (h1 : z ≤ 65535) : anyB z [10, 11, 12, 13, 14, 15] = decide (1024 ≤ z) := by
  rw [Bool.eq_iff_iff]
  simp [anyB, bitB]
  omega
theorem hi_eight (z : Int) (h0 : 0 ≤ z) (h1 : z ≤ 65535) : anyB z [2, 3, 10, 11, 12, 13, 14, 15] = (bitB z 2 || bitB z 3 || decide (1024 ≤ z)) := by
  rw [Bool.eq_iff_iff]
  simp [anyB, bitB]
  omega

theorem put_back {v r x l : Bool} {p : Int} (h : putE v r x l p = 0) :
    okE (putW v r x l p) = true ∧ vE (putW v r x l p) = v ∧ rE (putW v r x l p) = r ∧ xE (putW v r x l p) = x ∧ lE (putW v r x l p) = l ∧ pE (putW v r x l p) = p := by
  have hw : putW v r x l p = accB p [v, r, x, l] 4 := by rw [putW, if_pos h]
  rw [hw]
  have hp : pageB p = true := by
    cases hh : pageB p
    · simp [putE, hh] at h
    · rfl
  have hf : formE v r x l p = true := by
    cases hh : formE v r x l p
    · simp [putE, hp, hh] at h
    · rfl
  obtain ⟨p0, p1⟩ : 0 ≤ p ∧ p < 64 := by simpa [pageB] using hp
  obtain ⟨m, e, m0, m1⟩ := accB_in p [v, r, x, l] 4 (by omega)
  have hz0 : 0 ≤ accB p [v, r, x, l] 4 := by omega
  have hz1 : accB p [v, r, x, l] 4 < 1024 := by omega
  have hwd : wordB (accB p [v, r, x, l] 4) = true := by simp [wordB]; omega
  have hh := hi_six _ hz0 (by omega : accB p [v, r, x, l] 4 ≤ 65535)
  rw [show decide (1024 ≤ accB p [v, r, x, l] 4) = false by simp; omega] at hh
  have hpg : accB p [v, r, x, l] 4 / 16 % 64 = p := by omega
  have hbits : bitB (accB p [v, r, x, l] 4) 0 = v ∧ bitB (accB p [v, r, x, l] 4) 1 = r ∧ bitB (accB p [v, r, x, l] 4) 2 = x ∧ bitB (accB p [v, r, x, l] 4) 3 = l := by
    clear hh hwd hz0 hz1 e m0 m1 hpg h hw hf
    cases v <;> cases r <;> cases x <;> cases l <;> simp [accB, bth, bitB] <;> omega
  obtain ⟨b0, b1, b2, b3⟩ := hbits
  have ho : okE (accB p [v, r, x, l] 4) = true := by
    rw [okE, hwd, b0, b1, b2, b3, hh, hpg]
    cases v
    · rfl
    · rw [hf]; rfl
  have hv : vE (accB p [v, r, x, l] 4) = v := by rw [vE, ho, b0]; rfl
  refine ⟨ho, hv, ?_, ?_, ?_, ?_⟩
  · rw [rE, hv, b1]; cases v
    · simp [formE] at hf; simp [hf]
    · rfl
  · rw [xE, hv, b2]; cases v
    · simp [formE] at hf; simp [hf]
    · rfl
  · rw [lE, hv, b3]; cases v
    · simp [formE] at hf; simp [hf]
    · rfl
  · rw [pE, hv, hpg]; cases v
    · simp [formE] at hf; simp [hf]
    · rfl

theorem ptc_back {v a : Bool} {p : Int} (h : ptcE v a p = 0) :
    okC (ptcW v a p) = true ∧ vC (ptcW v a p) = v ∧ aC (ptcW v a p) = a ∧ pC (ptcW v a p) = p := by
  have hw : ptcW v a p = accB p [v, a] 2 := by rw [ptcW, if_pos h]
  rw [hw]
  have hp : pageB p = true := by
    cases hh : pageB p
    · simp [ptcE, hh] at h
    · rfl
  have hf : formC v a p = true := by
    cases hh : formC v a p
    · simp [ptcE, hp, hh] at h
    · rfl
  obtain ⟨p0, p1⟩ : 0 ≤ p ∧ p < 64 := by simpa [pageB] using hp
  obtain ⟨m, e, m0, m1⟩ := accB_in p [v, a] 2 (by omega)
  have hz0 : 0 ≤ accB p [v, a] 2 := by omega
  have hz1 : accB p [v, a] 2 < 1024 := by omega
  have hwd : wordB (accB p [v, a] 2) = true := by simp [wordB]; omega
  have hh := hi_eight _ hz0 (by omega : accB p [v, a] 2 ≤ 65535)
  rw [show decide (1024 ≤ accB p [v, a] 2) = false by simp; omega] at hh
  have hpg : accB p [v, a] 2 / 16 % 64 = p := by omega
  have hbits : bitB (accB p [v, a] 2) 0 = v ∧ bitB (accB p [v, a] 2) 1 = a ∧ bitB (accB p [v, a] 2) 2 = false ∧ bitB (accB p [v, a] 2) 3 = false := by
    clear hh hwd hz0 hz1 e m0 m1 hpg h hw hf
    cases v <;> cases a <;> simp [accB, bth, bitB] <;> omega
  obtain ⟨b0, b1, b2, b3⟩ := hbits
  have ho : okC (accB p [v, a] 2) = true := by
    rw [okC, hwd, hh, b0, b1, b2, b3, hpg]
    cases v
    · rfl
    · rw [hf]; rfl
  have hv : vC (accB p [v, a] 2) = v := by rw [vC, ho, b0]; rfl
  refine ⟨ho, hv, ?_, ?_⟩
  · rw [aC, hv, b1]; cases v
    · simp [formC] at hf; simp [hf]
    · rfl
  · rw [pC, hv, hpg]; cases v
    · simp [formC] at hf; simp [hf]
    · rfl

theorem read_back {z : Int} (h : vE z = true) : putE (vE z) (rE z) (xE z) (lE z) (pE z) = 0 ∧ putW (vE z) (rE z) (xE z) (lE z) (pE z) = z ∧ 0 ≤ z ∧ z < 1024 := by
  have hr : rE z = bitB z 1 := by rw [rE, h]; rfl
  have hx : xE z = bitB z 2 := by rw [xE, h]; rfl
  have hl : lE z = bitB z 3 := by rw [lE, h]; rfl
  have hp : pE z = z / 16 % 64 := by rw [pE, h]; rfl
  have hb : bitB z 0 = true := by
    cases hh : bitB z 0
    · simp [vE, hh] at h
    · rfl
  have ho : okE z = true := by
    cases hh : okE z
    · simp [vE, hh] at h
    · rfl
  have hw : wordB z = true := by
    cases hh : wordB z
    · simp [okE, hh] at ho
    · rfl
  obtain ⟨h0, h1⟩ : 0 ≤ z ∧ z ≤ 65535 := by simpa [wordB] using hw
  rw [okE, hw, hb, hi_six z h0 h1] at ho
  simp only [Bool.not_true, Bool.false_or, Bool.true_and, Bool.and_eq_true, Bool.not_eq_true', decide_eq_false_iff_not, Int.not_le] at ho
  obtain ⟨hz, hf⟩ := ho
  have hpb : pageB (z / 16 % 64) = true := by simp [pageB]; omega
  have he : putE (vE z) (rE z) (xE z) (lE z) (pE z) = 0 := by rw [h, hr, hx, hl, hp, putE, hpb, hf]; rfl
  refine ⟨he, ?_, h0, hz⟩
  rw [putW, if_pos he, h, hr, hx, hl, hp]
  simp only [bitB, decide_eq_true_eq] at hb
  simp only [accB, bth, List.getD_cons_zero, List.getD_cons_succ, if_true, bitB, decide_eq_true_eq]
  split <;> split <;> split <;> omega

theorem readctx_back {z : Int} (h : vC z = true) : ptcE (vC z) (aC z) (pC z) = 0 ∧ ptcW (vC z) (aC z) (pC z) = z := by
  have ha : aC z = bitB z 1 := by rw [aC, h]; rfl
  have hp : pC z = z / 16 % 64 := by rw [pC, h]; rfl
  have hb : bitB z 0 = true := by
    cases hh : bitB z 0
    · simp [vC, hh] at h
    · rfl
  have ho : okC z = true := by
    cases hh : okC z
    · simp [vC, hh] at h
    · rfl
  have hw : wordB z = true := by
    cases hh : wordB z
    · simp [okC, hh] at ho
    · rfl
  obtain ⟨h0, h1⟩ : 0 ≤ z ∧ z ≤ 65535 := by simpa [wordB] using hw
  rw [okC, hw, hb, hi_eight z h0 h1] at ho
  simp only [Bool.not_true, Bool.false_or, Bool.true_and, Bool.and_eq_true, Bool.not_eq_true', Bool.or_eq_false_iff, decide_eq_false_iff_not, Int.not_le] at ho
  obtain ⟨⟨⟨b2, b3⟩, hz⟩, hf⟩ := ho
  have hpb : pageB (z / 16 % 64) = true := by simp [pageB]; omega
  have he : ptcE (vC z) (aC z) (pC z) = 0 := by rw [h, ha, hp, ptcE, hpb, hf]; rfl
  refine ⟨he, ?_⟩
  rw [ptcW, if_pos he, h, ha, hp]
  simp only [bitB, decide_eq_true_eq, decide_eq_false_iff_not] at hb b2 b3
  simp only [accB, bth, List.getD_cons_zero, List.getD_cons_succ, if_true, bitB, decide_eq_true_eq]
  split <;> omega
end Go.Proofs.Ytfbmmiikhkmpfac
/-
  Blocks of cells that a walk carries over its calls.
-/
namespace Go.Proofs.Ytfbmmiikhkmpfac
open Go.RowKit

/-- This block holds these cells. -/
def Blk (w : World) (n : Nat) (cs : Array Value) : Prop := ∃ t fr, w.heap[n]? = some (.cells cs t fr)

theorem Blk.lt {w : World} {n : Nat} {cs : Array Value} (h : Blk w n cs) : n < w.heap.size := by
  obtain ⟨t, fr, h⟩ := h
  rcases Nat.lt_or_ge n w.heap.size with k | k
  · exact k
  · rw [Array.getElem?_eq_none k] at h; exact absurd h (by simp)
theorem Blk.keep {w w' : World} {n : Nat} {cs : Array Value} (h : Blk w n cs) (hb : Below w.heap.size w w') : Blk w' n cs := by
  have hl := h.lt
  obtain ⟨t, fr, h⟩ := h
  exact ⟨t, fr, by rw [hb.block n hl]; exact h⟩
theorem Blk.new (w : World) (cs : Array Value) (t : TypeId) (fr : Nat × Nat) : Blk (w.alloc (.cells cs t fr)) w.heap.size cs := ⟨t, fr, heap_at rfl⟩
theorem Blk.newAt {w : World} {n : Nat} (h : n = w.heap.size) (cs : Array Value) (t : TypeId) (fr : Nat × Nat) : Blk (w.alloc (.cells cs t fr)) n cs := ⟨t, fr, heap_at h⟩
theorem Blk.past {w : World} {n : Nat} {cs : Array Value} (h : Blk w n cs) (o : Obj) : Blk (w.alloc o) n cs := h.keep (bel_alloc (Below.refl _ _) _)
theorem Blk.cell {w : World} {n : Nat} {cs : Array Value} (h : Blk w n cs) (i : Nat) : w.cell? ⟨n, i, none⟩ = cs[i]? := by
  obtain ⟨t, fr, h⟩ := h
  exact cell_of_row w n i cs t fr h
theorem Blk.three {w : World} {n : Nat} {a b c : Value} (h : Blk w n #[a, b, c]) : w.cell? ⟨n, 0, none⟩ = some a ∧ w.cell? ⟨n, 1, none⟩ = some b ∧ w.cell? ⟨n, 2, none⟩ = some c :=
  ⟨h.cell 0, h.cell 1, h.cell 2⟩
theorem Blk.five {w : World} {n : Nat} {a b c d e : Value} (h : Blk w n #[a, b, c, d, e]) :
    w.cell? ⟨n, 0, none⟩ = some a ∧ w.cell? ⟨n, 1, none⟩ = some b ∧ w.cell? ⟨n, 2, none⟩ = some c ∧ w.cell? ⟨n, 3, none⟩ = some d ∧ w.cell? ⟨n, 4, none⟩ = some e :=
  ⟨h.cell 0, h.cell 1, h.cell 2, h.cell 3, h.cell 4⟩

/-- Five stores into one block that is new. -/
theorem bel_set5 {a w : World} {n : Nat} (hp : a.heap.size ≤ n) (h : Below a.heap.size a w) (u0 u1 u2 u3 u4 : Value) :
    Below a.heap.size a (((((w.setCell ⟨n, 0, none⟩ u0).setCell ⟨n, 1, none⟩ u1).setCell ⟨n, 2, none⟩ u2).setCell ⟨n, 3, none⟩ u3).setCell ⟨n, 4, none⟩ u4) :=
  ((((h.setCell (p := ⟨n, 0, none⟩) hp u0).setCell (p := ⟨n, 1, none⟩) hp u1).setCell (p := ⟨n, 2, none⟩) hp u2).setCell (p := ⟨n, 3, none⟩) hp u3).setCell (p := ⟨n, 4, none⟩) hp u4
theorem bel_set {a w : World} {p : Addr} (hp : a.heap.size ≤ p.block) (h : Below a.heap.size a w) (u : Value) : Below a.heap.size a (w.setCell p u) := h.setCell hp u

theorem below_drew {a w : World} (h : Below a.heap.size a w) : Below a.heap.size a w.drew := h.drew

theorem blk_set5 {w : World} {n : Nat} {t : TypeId} {a0 a1 a2 a3 a4 : Value} (h : w.heap[n]? = some (.cells #[a0, a1, a2, a3, a4] t (0, 0))) (u0 u1 u2 u3 u4 : Value) :
    Blk (((((w.setCell ⟨n, 0, none⟩ u0).setCell ⟨n, 1, none⟩ u1).setCell ⟨n, 2, none⟩ u2).setCell ⟨n, 3, none⟩ u3).setCell ⟨n, 4, none⟩ u4) n #[u0, u1, u2, u3, u4] := by
  have h0 := heap_setCell_same w n 0 _ t u0 h
  have h1 := heap_setCell_same _ n 1 _ t u1 h0
  have h2 := heap_setCell_same _ n 2 _ t u2 h1
  have h3 := heap_setCell_same _ n 3 _ t u3 h2
  have h4 := heap_setCell_same _ n 4 _ t u4 h3
  exact ⟨t, (0, 0), h4⟩
theorem heap_kept {W w1 : World} {n : Nat} {x : Option Obj} (hb : Below W.heap.size W w1) (hl : n < W.heap.size) (h : W.heap[n]? = x) : w1.heap[n]? = x := by rw [hb.block n hl]; exact h
end Go.Proofs.Ytfbmmiikhkmpfac
/-
  The closed fact parted holds.
-/
namespace Go.Proofs.Ytfbmmiikhkmpfac
open Go.RowKit

theorem at95 : vE 95 = true ∧ rE 95 = true ∧ xE 95 = true ∧ lE 95 = true ∧ pE 95 = 5 ∧ okE 95 = true := by decide
theorem at113 : vC 113 = true ∧ aC 113 = false ∧ pC 113 = 7 ∧ okC 113 = true := by decide
theorem at5 : okE 5 = false := by decide
theorem put95 : putW true true true true 5 = 95 ∧ putE true true true true 5 = 0 := by decide
theorem put113 : ptcW true false 7 = 113 ∧ ptcE true false 7 = 0 := by decide

end Go.Proofs.Ytfbmmiikhkmpfac
/-
  Package mem: what Read, New, Same answer; none turns memory that was there.
-/
namespace Go.Proofs.Ytfbmmiikhkmpfac
open Go.RowKit

/-- What Read answers: the word, the error. -/
def rdV (zs : List Int) (k : Int) : Int := if chk zs = 0 ∧ placeB k = true then nth zs k.toNat else 0
def rdE (zs : List Int) (k : Int) : Int := if chk zs = 0 then (if placeB k = true then 0 else 4) else chk zs

theorem Sl.open512 {w : World} {v : Value} {zs : List Int} (h : Sl w v zs) (hn : zs.length = 512) : ∃ b o cap, v = .slice (some ⟨b, o, none⟩) 512 cap ∧ b < w.heap.size ∧ ∀ i, i < 512 → w.cell? ⟨b, o + i, none⟩ = some (.int .i64 (nth zs i)) := by
  obtain ⟨a, cap, rfl, hl, h⟩ := h
  rcases h with rfl | ⟨b, o, rfl, hb, hc⟩
  · simp at hn
  · exact ⟨b, o, cap, by rw [hn], hb, fun i hi => hc i (by omega)⟩

theorem ret_pair {a b c d : Int} (h : a = c) (k : b = d) : Ending.returned (.tuple #[.int .i64 a, .int .i64 b]) = .returned (.tuple #[.int .i64 c, .int .i64 d]) := by rw [h, k]

set_option maxHeartbeats 1000000 in
theorem read_any (v : Value) (zs : List Int) (k : Int) (w : World) (h : Sl w v zs) :
    Calls Try.prog 65 #[.agg #[v], .int .i64 k] w fun e w' => e = .returned (.tuple #[.int .i64 (rdV zs k), .int .i64 (rdE zs k)]) ∧ Below w.heap.size w w' := by
  by_cases hk : chk zs = 0
  · by_cases hp : placeB k = true
    · have HR : Hid (rdV zs k = nth zs k.toNat ∧ rdE zs k = 0) := ⟨by simp [rdV, hk, hp], by simp [rdE, hk, hp]⟩
      obtain ⟨hn, _⟩ := chk_ok hk
      have hp' := hp
      simp only [placeB, decide_eq_true_eq] at hp'
      obtain ⟨p0, p1⟩ := hp'
      obtain ⟨b, o, cap, rfl, hb, hc⟩ := h.open512 hn
      have g := hc k.toNat (by omega)
      clear hc hn
      go_enter Try.func65, Try.ntmps65
      go_wp2_with fail
      refine (check_any _ zs _ ?_).mono ?_
      · exact h.keep (bel_alloc (Below.refl _ _) _)
      rintro e w1 ⟨rfl, hb1⟩
      obtain ⟨hc1, hf1⟩ := bcell hb1
      go_wp2_with (go_at_call 70; refine (isPlace_any _ _).mono ?_; rintro e w' ⟨rfl, rfl⟩)
      go_ret2
      exact ⟨ret_pair HR.out.1.symm HR.out.2.symm, bel_trans (bel_alloc (Below.refl _ _) _) hb1⟩
    · have hp' : placeB k = false := by simpa using hp
      have HR : Hid (rdV zs k = 0 ∧ rdE zs k = 4) := ⟨by simp [rdV, hk, hp], by simp [rdE, hk, hp]⟩
      clear hp
      go_enter Try.func65, Try.ntmps65
      go_wp2_with fail
      refine (check_any _ zs _ ?_).mono ?_
      · exact h.keep (bel_alloc (Below.refl _ _) _)
      rintro e w1 ⟨rfl, hb1⟩
      obtain ⟨hc1, hf1⟩ := bcell hb1
      go_wp2_with (go_at_call 70; refine (isPlace_any _ _).mono ?_; rintro e w' ⟨rfl, rfl⟩)
      go_ret2
      exact ⟨ret_pair HR.out.1.symm HR.out.2.symm, bel_trans (bel_alloc (Below.refl _ _) _) hb1⟩
  · have HR : Hid (rdV zs k = 0 ∧ rdE zs k = chk zs) := ⟨by simp [rdV, hk], by simp [rdE, hk]⟩
    have hk' : (chk zs != 0) = true := by simpa using hk
    clear hk
    go_enter Try.func65, Try.ntmps65
    go_wp2_with fail
    refine (check_any _ zs _ ?_).mono ?_
    · exact h.keep (bel_alloc (Below.refl _ _) _)
    rintro e w1 ⟨rfl, hb1⟩
    obtain ⟨hc1, hf1⟩ := bcell hb1
    go_wp2
    go_ret2
    exact ⟨ret_pair HR.out.1.symm HR.out.2.symm, bel_trans (bel_alloc (Below.refl _ _) _) hb1⟩

/-- The cells of new memory: a plain name, so that the walk's own rules leave it standing. -/
def zeroCells : Array Value := madeCells #[.int .i64 0] 512
def zeros : List Int := List.replicate 512 0
theorem zeroCells_list : zeroCells.toList = zeros.map (fun z => Value.int .i64 z) := by
  unfold zeroCells zeros
  rw [toList_madeCells_one, List.map_replicate]
theorem zeros_length : zeros.length = 512 := List.length_replicate

theorem infoInt : ∃ i, Try.prog.info? 3 = some i ∧ i.zero = some (.int .i64 0) ∧ i.size = 1 ∧ i.bytes = 8 := by
  have h : (Try.prog.info? 3).map (fun i => (i.zero, i.size, i.bytes)) = some (some (.int .i64 0), 1, 8) := by kernel_rfl
  cases hi : Try.prog.info? 3 with
  | none => rw [hi] at h; simp at h
  | some i => rw [hi] at h; simp at h; exact ⟨i, rfl, h.1, h.2.1, h.2.2⟩

theorem make512 (w : World) : (Instr.makeSlice 31 (.int .i64 512) (.int .i64 512)).run Try.prog w = .ok (.slice (some ⟨w.heap.size, 0, none⟩) 512 512) (w.alloc (.cells zeroCells 3)) := by
  obtain ⟨i, hi, hz, hs, hb⟩ := infoInt
  have h := run_make (P := Try.prog) w 31 3 i _ Try.underlying31 hi hz .i64 .i64 512 512 (by decide) (by decide) (by rw [hb]; decide) (by decide)
  rw [hs] at h
  exact h

set_option maxHeartbeats 1000000 in
/-- New's memory lies in a block of its own. -/
theorem new_own (w : World) :
    Calls Try.prog 48 #[] w fun e w' => ∃ g, e = .returned (.agg #[.slice (some ⟨g, 0, none⟩) 512 512]) ∧ w'.heap[g]? = some (.cells zeroCells 3 (0, 0)) ∧ w.heap.size ≤ g ∧ Below w.heap.size w w' := by
  have hm := make512
  go_enter Try.func48, Try.ntmps48
  go_wp2
  exact bodyPost_ret (v := .agg #[.slice (some ⟨w.heap.size + 1, 0, none⟩) 512 512]) (by simp [results, Try.results48, go_sem]) rfl ⟨_, rfl, heap_at (by simp), by omega, bel_alloc (bel_alloc (Below.refl _ _) _) _⟩

theorem new_any (w : World) :
    Calls Try.prog 48 #[] w fun e w' => ∃ v, e = .returned (.agg #[v]) ∧ Sl w' v zeros ∧ Below w.heap.size w w' :=
  (new_own w).mono fun e w' ⟨g, he, hg, _, hb⟩ => ⟨_, he, sl_block hg zeroCells_list zeros_length.symm (by rw [zeros_length]; simp [maxLen]), hb⟩
end Go.Proofs.Ytfbmmiikhkmpfac
/-
  Package walk: what isPage, may, read, within answer; none turns memory that was there.
-/
namespace Go.Proofs.Ytfbmmiikhkmpfac
open Go.RowKit

/-- The fault of one word: it may not be an entry; it isn't valid. -/
def fltR (z : Int) : Int := if okE z = true then (if vE z = true then 0 else 3) else 4

theorem fields_none {z : Int} (h : vE z = false) : rE z = false ∧ xE z = false ∧ lE z = false ∧ pE z = 0 := by simp [rE, xE, lE, pE, h]

end Go.Proofs.Ytfbmmiikhkmpfac
/-
  Package walk: what find answers; it turns nothing that was there.
-/
namespace Go.Proofs.Ytfbmmiikhkmpfac
open Go.RowKit

/-- The fields of an entry. -/
abbrev Five := Bool × Bool × Bool × Bool × Int
def E0 : Five := (false, false, false, false, 0)
def entE (z : Int) : Five := (vE z, rE z, xE z, lE z, pE z)
/-- The first word that is read, and the second one. -/
def one (zs : List Int) (root page : Int) : Int := nth zs (8 * root + page / 8).toNat
def two (zs : List Int) (root page : Int) : Int := nth zs (8 * pE (one zs root page) + page % 8).toNat
/-- What find answers. -/
def fnd (zs : List Int) (root page : Int) : Five × Int :=
  if fltR (one zs root page) = 0 then
    (if lE (one zs root page) = true then
      (if pE (one zs root page) % 8 = 0 then ((vE (one zs root page), rE (one zs root page), xE (one zs root page), lE (one zs root page), pE (one zs root page) + page % 8), 0) else (E0, 4))
    else if fltR (two zs root page) = 0 then
      (if lE (two zs root page) = true then (entE (two zs root page), 0) else (E0, 4))
    else (E0, fltR (two zs root page)))
  else (E0, fltR (one zs root page))

theorem pE_in (z : Int) : 0 ≤ pE z ∧ pE z < 64 := by
  unfold pE; split <;> omega

theorem quo_one {p : Int} (h0 : 0 ≤ p) (h1 : p < 64) : (IntKind.i64.wrap (p.tdiv 8)).tmod 8 = p / 8 := by
  rw [Int.tdiv_eq_ediv_of_nonneg h0, wraps_i64 _ (by omega) (by omega), Int.tmod_eq_emod_of_nonneg (by omega)]
  omega
theorem quo_two {p : Int} (h0 : 0 ≤ p) (h1 : p < 64) : (IntKind.i64.wrap p).tmod 8 = p % 8 := by
  rw [wraps_i64 _ (by omega) (by omega), Int.tmod_eq_emod_of_nonneg (by omega)]

end Go.Proofs.Ytfbmmiikhkmpfac
/-
  Package mem: what Write answers: new memory, as the old one but for the word; nothing that was there turns.
-/
namespace Go.Proofs.Ytfbmmiikhkmpfac
open Go.RowKit

/-- What Write answers: the words, the error. -/
def wrE (zs : List Int) (k x : Int) : Int := if chk zs = 0 then (if placeB k = true then (if wordB x = true then 0 else 2) else 4) else chk zs
def wrM (zs : List Int) (k x : Int) : List Int := if chk zs = 0 ∧ placeB k = true ∧ wordB x = true then zs.set k.toNat x else []

/-- The cells of a row of numbers: a plain name, so that the walk's own rules leave it standing. -/
def intCells (zs : List Int) : Array Value := (zs.map (fun z => Value.int .i64 z)).toArray
theorem intCells_list (zs : List Int) : (intCells zs).toList = zs.map (fun z => Value.int .i64 z) := by simp [intCells]
theorem intCells_size (zs : List Int) : (intCells zs).size = zs.length := by simp [intCells]
theorem intCells_at {zs : List Int} {i : Nat} (h : i < zs.length) : (intCells zs)[i]? = some (.int .i64 (nth zs i)) := by
  simp [intCells, nth, h]
theorem intCells_set (zs : List Int) (i : Nat) (x : Int) : (intCells zs).setIfInBounds i (.int .i64 x) = intCells (zs.set i x) := by
  simp [intCells, List.map_set]


/-- copy fills a row of its own. -/
theorem copy_full (w : World) (b o cap g : Nat) (zs : List Int) (cur : Array Value) (hn : zs.length = 512) (hg : w.heap[g]? = some (.cells cur 3 (0, 0))) (hcur : cur.size = 512)
    (hc : ∀ i, i < 512 → w.cell? ⟨b, o + i, none⟩ = some (.int .i64 (nth zs i))) :
    ∃ w3, (Builtin.copy_ #[31, 31] 3 #[.slice (some ⟨g, 0, none⟩) 512 512, .slice (some ⟨b, o, none⟩) 512 cap]).run Try.prog w = .ok (.int .i64 512) w3 ∧ w3.heap[g]? = some (.cells (intCells zs) 3 (0, 0)) ∧
      (∀ k, k ≠ g → w3.heap[k]? = w.heap[k]?) ∧ w3.heap.size = w.heap.size ∧ Below g w w3 := by
  have hl : (zs.map (fun z => Value.int .i64 z)).length = 512 := by simp [hn]
  have h := run_copy_row (P := Try.prog) w 31 31 3 3 g 0 512 512 ⟨b, o, none⟩ 512 cap cur 3 (zs.map (fun z => Value.int .i64 z)) Try.underlying31 (by kernel_rfl) hg (by rw [hl]; rfl)
    (fun j v hv => by
      rw [List.getElem?_map] at hv
      by_cases hj : j < 512
      · rw [List.getElem?_eq_getElem (by omega)] at hv
        simp only [Option.map_some, Option.some.injEq] at hv
        have := hc j hj
        rw [← hv]
        have ha : Addr.add ⟨b, o, none⟩ j = ⟨b, o + j, none⟩ := by unfold Addr.add; split <;> simp_all
        rw [ha, this]
        simp [nth, hn, hj]
      · rw [List.getElem?_eq_none (by omega)] at hv
        simp at hv) (by rw [hl]; omega) (by
      intro v hv
      obtain ⟨z, _, rfl⟩ := List.mem_map.1 hv
      rfl)
  have hd : List.drop (0 + 512) cur.toList = [] := List.drop_of_length_le (by simp [hcur])
  rw [hl, hd, List.take_zero, List.nil_append, List.append_nil] at h
  exact ⟨_, h, setRow_heap w g _ _ _ _ hg, fun k hk => setRow_other w g k _ hk, by simp [World.setRow], ⟨rfl, rfl, rfl, by simp [World.setRow], fun k hk => setRow_other w g k _ (by omega)⟩⟩

set_option maxHeartbeats 1000000 in
theorem write_okN (v : Value) (zs : List Int) (k x : Int) (w : World) (h : Sl w v zs) (hk : chk zs = 0) (hp : placeB k = true) (hx : wordB x = true) :
    Calls Try.prog 66 #[.agg #[v], .int .i64 k, .int .i64 x] w fun e w' => ∃ v', e = .returned (.tuple #[.agg #[v'], .int .i64 0]) ∧ Sl w' v' (zs.set k.toNat x) ∧ Fresh w.heap.size v' ∧ Below w.heap.size w w' := by
  obtain ⟨hn, _⟩ := chk_ok hk
  have hp' := hp
  simp only [placeB, decide_eq_true_eq] at hp'
  obtain ⟨p0, p1⟩ := hp'
  obtain ⟨b, o, cap, rfl, hb, hc⟩ := h.open512 hn
  have HC : Hid (∀ i, i < 512 → w.cell? ⟨b, o + i, none⟩ = some (.int .i64 (nth zs i))) := hc
  have HN : Hid (zs.length = 512) := hn
  clear hc hn
  go_enter Try.func66, Try.ntmps66
  go_wp2_with fail
  refine (check_any _ zs _ ?_).mono ?_
  · exact h.keep (bel_alloc (bel_alloc (Below.refl _ _) _) _)
  rintro e w1 ⟨rfl, hb1⟩
  obtain ⟨hc1, hf1⟩ := bcell hb1
  have hs1 : w.heap.size + 1 < w1.heap.size := by have := hb1.size; simp at this; omega
  go_wp2_with (first | (go_at_call 70; refine (isPlace_any _ _).mono ?_; rintro e w' ⟨rfl, rfl⟩) | (go_at_call 43; refine (isWord_any _ _).mono ?_; rintro e w' ⟨rfl, rfl⟩))
  refine (new_own _).mono ?_
  rintro e w2 ⟨g, rfl, hg2, hge, hb2⟩
  obtain ⟨hc2, hf2⟩ := bcell hb2
  have hs2 := hb2.size
  have z2 : w.heap.size < w2.heap.size := by omega
  have z3 : w.heap.size + 1 < w2.heap.size := by omega
  have q0 : w2.cell? ⟨w.heap.size, 0, none⟩ = some (.slice (some ⟨b, o, none⟩) 512 cap) := by rw [hc2 _ _ (by omega), hc1 _ _ (by simp; omega)]; simp [go_sem]
  have q1 : w2.cell? ⟨w.heap.size + 1, 0, none⟩ = some (.slice none 0 0) := by rw [hc2 _ _ (by omega), hc1 _ _ (by simp)]; simp [go_sem]
  have q2 : w2.frozen? ⟨w.heap.size + 1, 0, none⟩ = false := by rw [hf2 _ _ (by omega), hf1 _ _ (by simp)]; simp [go_sem]
  have HB2 : Hid (Below w.heap.size w w2) := bel_trans (bel_trans (bel_alloc (bel_alloc (Below.refl _ _) _) _) hb1) hb2
  clear hc1 hf1 hc2 hf2 hb1 hb2
  have hg2' := Array.getElem?_eq_some_iff.1 hg2
  obtain ⟨hglt, _⟩ := hg2'
  obtain ⟨w3, hrun, hg3, ho3, hs3, hb3⟩ := copy_full (w2.alloc (.cells #[.slice (some ⟨g, 0, none⟩) 512 512] 33)) b o cap g zs zeroCells HN.out (heap_past hglt hg2) (by simp [zeroCells, size_madeCells]) (fun i hi => by
    rw [World.cell?_alloc_past _ _ _ (by omega), HB2.out.cell (p := ⟨b, o + i, none⟩) hb]; exact HC.out i hi)
  have r0 : w3.cell? ⟨w2.heap.size, 0, none⟩ = some (.slice (some ⟨g, 0, none⟩) 512 512) := by
    rw [World.cell?_of_block (a := ⟨w2.heap.size, 0, none⟩) (ho3 w2.heap.size (by omega))]; simp [go_sem]
  have r1 : w3.cell? ⟨w.heap.size + 1, 0, none⟩ = some (.slice none 0 0) := by
    rw [World.cell?_of_block (a := ⟨w.heap.size + 1, 0, none⟩) (ho3 (w.heap.size + 1) (by omega)), World.cell?_alloc_past _ _ _ z3]; exact q1
  have r2 : w3.frozen? ⟨w.heap.size + 1, 0, none⟩ = false := by
    rw [World.frozen?_of_block (a := ⟨w.heap.size + 1, 0, none⟩) (ho3 (w.heap.size + 1) (by omega)), World.frozen?_alloc_past _ _ _ z3]; exact q2
  have r3 : w3.cell? ⟨g, k.toNat, none⟩ = some (.int .i64 (nth zs k.toNat)) := by
    rw [cell_of_row w3 g _ _ _ _ hg3, intCells_at (by have := HN.out; omega)]
  have r4 : w3.frozen? ⟨g, k.toNat, none⟩ = false := frozen_of_row w3 g _ _ _ hg3
  have n1 : ¬ g = w2.heap.size := by omega
  have n2 : ¬ g = w.heap.size + 1 := by omega
  have HG3 : Hid _ := hg3
  have HB3 : Hid (Below w.heap.size w w3) := (bel_alloc HB2.out _).trans (hb3.mono (by omega))
  clear ho3 hb3 hg3 hg2
  go_wp2_with fail
  refine bodyPost_ret (v := .tuple #[.agg #[.slice (some ⟨g, 0, none⟩) 512 512], .int .i64 0]) (by simp [results, Try.results66, go_sem, *]) rfl ⟨_, rfl, ?_, fun k hk => by simp [Value.ownBlock] at hk; omega, ?_⟩
  · refine sl_block (cs := intCells (zs.set k.toNat x)) (t := 3) (fr := (0, 0)) ?_ (intCells_list _) (by rw [List.length_set]; exact HN.out.symm) (by rw [List.length_set, HN.out]; simp [maxLen])
    rw [heap_setCell_other _ _ _ _ n2, heap_setCell_same _ _ _ _ _ _ HG3.out, intCells_set]
  · exact (HB3.out.setCell (p := ⟨g, k.toNat, none⟩) (by show w.heap.size ≤ g; omega) _).setCell (p := ⟨w.heap.size + 1, 0, none⟩) (by show w.heap.size ≤ w.heap.size + 1; omega) _

set_option maxHeartbeats 1000000 in
theorem write_err (v : Value) (zs : List Int) (k x : Int) (w : World) (h : Sl w v zs) (hw : ¬ (chk zs = 0 ∧ placeB k = true ∧ wordB x = true)) :
    Calls Try.prog 66 #[.agg #[v], .int .i64 k, .int .i64 x] w fun e w' => e = .returned (.tuple #[.agg #[.slice none 0 0], .int .i64 (wrE zs k x)]) ∧ Below w.heap.size w w' := by
  by_cases hk : chk zs = 0
  · by_cases hp : placeB k = true
    · have hx : wordB x = false := by
        cases hh : wordB x
        · rfl
        · exact absurd ⟨hk, hp, hh⟩ hw
      rw [show wrE zs k x = 2 by simp [wrE, hk, hp, hx]]
      clear hw
      go_enter Try.func66, Try.ntmps66
      go_wp2_with fail
      refine (check_any _ zs _ ?_).mono ?_
      · exact h.keep (bel_alloc (bel_alloc (Below.refl _ _) _) _)
      rintro e w1 ⟨rfl, hb1⟩
      obtain ⟨hc1, hf1⟩ := bcell hb1
      have hs1 : w.heap.size + 1 < w1.heap.size := by have := hb1.size; simp at this; omega
      go_wp2_with (first | (go_at_call 70; refine (isPlace_any _ _).mono ?_; rintro e w' ⟨rfl, rfl⟩) | (go_at_call 43; refine (isWord_any _ _).mono ?_; rintro e w' ⟨rfl, rfl⟩))
      refine bodyPost_ret (v := .tuple #[.agg #[.slice none 0 0], .int .i64 2]) (by simp [results, Try.results66, go_sem, *]) rfl ⟨rfl, ?_⟩
      exact (bel_trans (bel_alloc (bel_alloc (Below.refl _ _) _) _) hb1).setCell (by show w.heap.size ≤ w.heap.size + 1; omega) _
    · have hp' : placeB k = false := by simpa using hp
      rw [show wrE zs k x = 4 by simp [wrE, hk, hp']]
      clear hw hp
      go_enter Try.func66, Try.ntmps66
      go_wp2_with fail
      refine (check_any _ zs _ ?_).mono ?_
      · exact h.keep (bel_alloc (bel_alloc (Below.refl _ _) _) _)
      rintro e w1 ⟨rfl, hb1⟩
      obtain ⟨hc1, hf1⟩ := bcell hb1
      have hs1 : w.heap.size + 1 < w1.heap.size := by have := hb1.size; simp at this; omega
      go_wp2_with (first | (go_at_call 70; refine (isPlace_any _ _).mono ?_; rintro e w' ⟨rfl, rfl⟩) | (go_at_call 43; refine (isWord_any _ _).mono ?_; rintro e w' ⟨rfl, rfl⟩))
      refine bodyPost_ret (v := .tuple #[.agg #[.slice none 0 0], .int .i64 4]) (by simp [results, Try.results66, go_sem, *]) rfl ⟨rfl, ?_⟩
      exact (bel_trans (bel_alloc (bel_alloc (Below.refl _ _) _) _) hb1).setCell (by show w.heap.size ≤ w.heap.size + 1; omega) _
  · have hk' : (chk zs != 0) = true := by simpa using hk
    rw [show wrE zs k x = chk zs by simp [wrE, hk]]
    clear hw hk
    go_enter Try.func66, Try.ntmps66
    go_wp2_with fail
    refine (check_any _ zs _ ?_).mono ?_
    · exact h.keep (bel_alloc (bel_alloc (Below.refl _ _) _) _)
    rintro e w1 ⟨rfl, hb1⟩
    obtain ⟨hc1, hf1⟩ := bcell hb1
    have hs1 : w.heap.size + 1 < w1.heap.size := by have := hb1.size; simp at this; omega
    go_wp2
    refine bodyPost_ret (v := .tuple #[.agg #[.slice none 0 0], .int .i64 (chk zs)]) (by simp [results, Try.results66, go_sem, *]) rfl ⟨rfl, ?_⟩
    exact (bel_trans (bel_alloc (bel_alloc (Below.refl _ _) _) _) hb1).setCell (by show w.heap.size ≤ w.heap.size + 1; omega) _

theorem write_anyN (v : Value) (zs : List Int) (k x : Int) (w : World) (h : Sl w v zs) :
    Calls Try.prog 66 #[.agg #[v], .int .i64 k, .int .i64 x] w fun e w' => ∃ v', e = .returned (.tuple #[.agg #[v'], .int .i64 (wrE zs k x)]) ∧ Sl w' v' (wrM zs k x) ∧ Fresh w.heap.size v' ∧ Below w.heap.size w w' := by
  by_cases hw : chk zs = 0 ∧ placeB k = true ∧ wordB x = true
  · refine (write_okN v zs k x w h hw.1 hw.2.1 hw.2.2).mono fun e w' ⟨v', he, hs, hf, hb⟩ => ⟨v', ?_, ?_, hf, hb⟩
    · rw [he, show wrE zs k x = 0 by simp [wrE, hw.1, hw.2.1, hw.2.2]]
    · rw [show wrM zs k x = zs.set k.toNat x by rw [wrM, if_pos hw]]; exact hs
  · refine (write_err v zs k x w h hw).mono fun e w' ⟨he, hb⟩ => ⟨_, he, ?_, Fresh.none _ _ _, hb⟩
    rw [show wrM zs k x = [] by rw [wrM, if_neg hw]]; exact Sl.nil _ _ _
theorem write_any (v : Value) (zs : List Int) (k x : Int) (w : World) (h : Sl w v zs) :
    Calls Try.prog 66 #[.agg #[v], .int .i64 k, .int .i64 x] w fun e w' => ∃ v', e = .returned (.tuple #[.agg #[v'], .int .i64 (wrE zs k x)]) ∧ Sl w' v' (wrM zs k x) ∧ Below w.heap.size w w' :=
  (write_anyN v zs k x w h).mono fun _ _ ⟨v', he, hs, _, hb⟩ => ⟨v', he, hs, hb⟩
theorem write_ok (v : Value) (zs : List Int) (k x : Int) (w : World) (h : Sl w v zs) (hk : chk zs = 0) (hp : placeB k = true) (hx : wordB x = true) :
    Calls Try.prog 66 #[.agg #[v], .int .i64 k, .int .i64 x] w fun e w' => ∃ v', e = .returned (.tuple #[.agg #[v'], .int .i64 0]) ∧ Sl w' v' (zs.set k.toNat x) ∧ Below w.heap.size w w' :=
  (write_okN v zs k x w h hk hp hx).mono fun _ _ ⟨v', he, hs, _, hb⟩ => ⟨v', he, hs, hb⟩
end Go.Proofs.Ytfbmmiikhkmpfac
/-
  drawbridgeref's Put and drawbridgelaw's at: what they answer; nothing that was there turns.
-/
namespace Go.Proofs.Ytfbmmiikhkmpfac
open Go.RowKit

theorem lit_row (w : World) (base : Nat) (h : base ≤ w.heap.size) : (w.alloc (.cells #[] 3)).ownsRow base 3 1 (.slice (some ⟨w.heap.size, 0, none⟩) 0 0) 0 [] :=
  World.ownsRow_lit (base := base) (e := 3) (size := 1) w #[] 0 h (by simp [maxLen]) rfl

/-- append of numbers to an empty row of its own. -/
theorem wpList_append_new {w : World} {ops : Array Oper} {rest : List Oper} {o : Oper} {a : Act} {Q : Exit → Act → World → Prop} (hgd : o.guard = none) (s x : Operand)
    (ho : o.op = .call { callee := .builtin .append, args := #[s, x], argTypes := #[31, 31] }) (base : Nat) (v : Value) (hs : a.eval s = v) (hown : w.ownsRow base 3 1 v 0 [])
    (b off c : Nat) (zs : List Int) (hx : a.eval x = .slice (some ⟨b, off, none⟩) 512 c) (hn : zs.length = 512) (hc : ∀ i, i < 512 → w.cell? ⟨b, off + i, none⟩ = some (.int .i64 (nth zs i))) (hbase : base ≤ w.heap.size)
    (h : ∀ g cap w', w'.ownsRow base 3 1 (.slice (some ⟨g, 0, none⟩) 512 cap) 512 (zs.map (fun z => Value.int .i64 z)) → w.grownBy w' v.ownBlock → (v.ownBlock = some g ∨ g = w.heap.size) → g < w'.heap.size → wpList Try.prog ops Q rest (a.put o.dst (.slice (some ⟨g, 0, none⟩) 512 cap)) w') :
    wpList Try.prog ops Q (o :: rest) a w := by
  obtain ⟨i, hi, hz, hsz, hby⟩ := infoInt
  have hl : (zs.map (fun z => Value.int .i64 z)).length = 512 := by simp [hn]
  refine wpList_append_lies w hgd s x 31 ho base 3 i _ 1 8 Try.underlying31 hi hz hsz hby rfl (by omega) v 0 [] hs hown ⟨b, off, none⟩ 512 c (zs.map (fun z => Value.int .i64 z)) hx (by rw [hl]) (fun j u hu => ?_) (fun u hu => ?_) (by omega) (by simp [maxLen]) (by omega) hbase w.heap.size rfl ?_
  · rw [List.getElem?_map] at hu
    by_cases hj : j < 512
    · rw [List.getElem?_eq_getElem (by omega)] at hu
      simp only [Option.map_some, Option.some.injEq] at hu
      have ha : Addr.add ⟨b, off, none⟩ j = ⟨b, off + j, none⟩ := by unfold Addr.add; split <;> simp_all
      rw [ha, hc j hj, ← hu]
      simp [nth, hn, hj]
    · rw [List.getElem?_eq_none (by omega)] at hu
      simp at hu
  · obtain ⟨z, _, rfl⟩ := List.mem_map.1 hu
    rfl
  · simpa using h

/-- A row of its own that holds numbers reads as them. -/
theorem sl_owned {w : World} {base g cap n : Nat} {zs : List Int} (h : w.ownsRow base 3 1 (.slice (some ⟨g, 0, none⟩) n cap) n (zs.map (fun z => Value.int .i64 z))) (hm : zs.length ≤ maxLen) : Sl w (.slice (some ⟨g, 0, none⟩) n cap) zs := by
  have hl := h.1
  simp at hl
  subst hl
  refine ⟨_, cap, rfl, hm, .inr ⟨g, 0, rfl, (h.lt g rfl).2, fun i hi => ?_⟩⟩
  rw [Nat.zero_add, h.cellAt i (by omega), List.getElem?_map, List.getElem?_eq_getElem hi]
  simp [nth, hi]

theorem Sl.setOther {w : World} {v : Value} {zs : List Int} (h : Sl w v zs) {p : Addr} (hp : v.ownBlock ≠ some p.block) (u : Value) : Sl (w.setCell p u) v zs := by
  obtain ⟨a, cap, rfl, hl, h⟩ := h
  refine ⟨a, cap, rfl, hl, ?_⟩
  rcases h with h | ⟨b, o, rfl, hlt, hc⟩
  · exact .inl h
  · have hne : b ≠ p.block := fun e => hp (by simp [Value.ownBlock, e])
    refine .inr ⟨b, o, rfl, by simpa [World.setCell] using hlt, fun i hi => ?_⟩
    rw [World.cell?_of_block (a := ⟨b, o + i, none⟩) (heap_setCell_other w p b u hne)]
    exact hc i hi

set_option maxHeartbeats 1000000 in
theorem put_okN (v : Value) (zs : List Int) (k x : Int) (w : World) (h : Sl w v zs) (hn : zs.length = 512) (p0 : 0 ≤ k) (p1 : k < 512) :
    Calls Try.prog 42 #[.agg #[v], .int .i64 k, .int .i64 x] w fun e w' => ∃ v', e = .returned (.agg #[v']) ∧ Sl w' v' (zs.set k.toNat x) ∧ Fresh w.heap.size v' ∧ Below w.heap.size w w' := by
  obtain ⟨b, o, cap, rfl, hb, hc⟩ := h.open512 hn
  have HC : Hid (∀ i, i < 512 → w.cell? ⟨b, o + i, none⟩ = some (.int .i64 (nth zs i))) := hc
  have HN : Hid (zs.length = 512) := hn
  clear hc hn
  have HW : ∀ A B : Obj, (((w.alloc A).alloc B).alloc (.cells #[] 3)).ownsRow (w.heap.size + 1 + 1) 3 1 (.slice (some ⟨w.heap.size + 1 + 1, 0, none⟩) 0 0) 0 [] := fun A B => by
    have := lit_row ((w.alloc A).alloc B) (w.heap.size + 1 + 1) (by simp)
    simpa using this
  have H1 : Hid _ := HW
  clear HW
  go_enter Try.func42, Try.ntmps42
  go_wp2_with (at_builtin; refine wpList_append_new rfl (.tmp 8) (.tmp 10) rfl (w.heap.size + 1 + 1) _ rfl (H1.out _ _) b o cap zs rfl HN.out ?hc ?hbase ?hrest)
  case hbase => simp
  case hc =>
    intro i hi
    rw [World.cell?_alloc_past _ _ _ (by simp; omega), World.cell?_alloc_past _ _ _ (by simp; omega), World.cell?_alloc_past _ _ _ (by omega)]
    exact HC.out i hi
  case hrest =>
    intro g cap' w3 hown hgr hat hlt
    have hgb := (hown.lt g rfl).1
    have r3 : w3.cell? ⟨g, k.toNat, none⟩ = some (.int .i64 (nth zs k.toNat)) := by
      rw [hown.cellAt k.toNat (by omega), List.getElem?_map, getElem?_nth (by have := HN.out; omega)]
      rfl
    have r4 : w3.frozen? ⟨g, k.toNat, none⟩ = false := hown.frozenAt k.toNat
    have hgs : w.heap.size + 1 + 1 + 1 ≤ w3.heap.size := by have := hgr.size; simpa using this
    have r1 : w3.cell? ⟨w.heap.size + 1, 0, none⟩ = some (.slice none 0 0) := by
      rw [World.cell?_of_block (a := ⟨w.heap.size + 1, 0, none⟩) (hgr.block (w.heap.size + 1) (by simp) (by simp [Value.ownBlock]))]
      simp [go_sem]
    have r2 : w3.frozen? ⟨w.heap.size + 1, 0, none⟩ = false := by
      rw [World.frozen?_of_block (a := ⟨w.heap.size + 1, 0, none⟩) (hgr.block (w.heap.size + 1) (by simp) (by simp [Value.ownBlock]))]
      simp [go_sem]
    have HB3 : Hid (Below w.heap.size w w3) := (bel_alloc (bel_alloc (bel_alloc (Below.refl _ _) _) _) _).grown hgr (by simp; omega) (fun k hk => by simp [Value.ownBlock] at hk; omega)
    have HO : Hid _ := hown
    have n2 : ¬ g = w.heap.size + 1 := by omega
    clear hown hgr hat
    go_wp2
    refine bodyPost_ret (v := .agg #[.slice (some ⟨g, 0, none⟩) 512 cap']) (by simp [results, Try.results42, go_sem, *]) rfl ⟨_, rfl, ?_, fun k hk => by simp [Value.ownBlock] at hk; omega, ?_⟩
    · have hst := (World.ownsRow.stored HO.out k.toNat (.int .i64 x)).1
      rw [← List.map_set] at hst
      exact (sl_owned hst (by rw [List.length_set, HN.out]; simp [maxLen])).setOther (by simp [Value.ownBlock]; omega) _
    · exact (HB3.out.setCell (p := ⟨g, k.toNat, none⟩) (by show w.heap.size ≤ g; omega) _).setCell (p := ⟨w.heap.size + 1, 0, none⟩) (by show w.heap.size ≤ w.heap.size + 1; omega) _

theorem put_ok (v : Value) (zs : List Int) (k x : Int) (w : World) (h : Sl w v zs) (hn : zs.length = 512) (p0 : 0 ≤ k) (p1 : k < 512) :
    Calls Try.prog 42 #[.agg #[v], .int .i64 k, .int .i64 x] w fun e w' => ∃ v', e = .returned (.agg #[v']) ∧ Sl w' v' (zs.set k.toNat x) ∧ Below w.heap.size w w' :=
  (put_okN v zs k x w h hn p0 p1).mono fun _ _ ⟨v', he, hs, _, hb⟩ => ⟨v', he, hs, hb⟩

end Go.Proofs.Ytfbmmiikhkmpfac
/-
  The closed fact 'stored' of the statements answers true; nothing that was there turns.
-/
namespace Go.Proofs.Ytfbmmiikhkmpfac
open Go.RowKit

theorem nth_set_same {zs : List Int} {i : Nat} (h : i < zs.length) (x : Int) : nth (zs.set i x) i = x := by simp [nth, h]
theorem nth_set_other {zs : List Int} {i j : Nat} (h : i ≠ j) (x : Int) : nth (zs.set i x) j = nth zs j := by simp [nth, h]
theorem nth_zeros {i : Nat} (h : i < 512) : nth zeros i = 0 := by
  unfold nth zeros
  rw [List.getD_eq_getElem?_getD, List.getElem?_replicate, if_pos h]; rfl
theorem chk_zeros : chk zeros = 0 := chk_all zeros_length fun j hj => by rw [nth_zeros hj]; rfl
theorem chk_set {zs : List Int} {k : Nat} {x : Int} (h : chk zs = 0) (hx : wordB x = true) : chk (zs.set k x) = 0 := by
  obtain ⟨hl, ha⟩ := chk_ok h
  refine chk_all (by rw [List.length_set]; exact hl) fun j hj => ?_
  by_cases e : k = j
  · subst e; rw [nth_set_same (by omega)]; exact hx
  · rw [nth_set_other e]; exact ha j hj
theorem rdV_ok {zs : List Int} {k : Int} (h : chk zs = 0) (hp : placeB k = true) : rdV zs k = nth zs k.toNat := by simp [rdV, h, hp]
theorem rdE_ok {zs : List Int} {k : Int} (h : chk zs = 0) (hp : placeB k = true) : rdE zs k = 0 := by simp [rdE, h, hp]
theorem wrE_ok {zs : List Int} {k x : Int} (h : chk zs = 0) (hp : placeB k = true) (hx : wordB x = true) : wrE zs k x = 0 := by simp [wrE, h, hp, hx]
theorem wrM_ok {zs : List Int} {k x : Int} (h : chk zs = 0) (hp : placeB k = true) (hx : wordB x = true) : wrM zs k x = zs.set k.toNat x := by rw [wrM, if_pos ⟨h, hp, hx⟩]

/-- New's memory: where it lies, and what it reads as. -/
theorem new_both (w : World) :
    Calls Try.prog 48 #[] w fun e w' => ∃ g, e = .returned (.agg #[.slice (some ⟨g, 0, none⟩) 512 512]) ∧ Sl w' (.slice (some ⟨g, 0, none⟩) 512 512) zeros ∧ Below w.heap.size w w' :=
  (new_own w).mono fun e w' ⟨g, he, hg, _, hb⟩ => ⟨_, he, sl_block hg zeroCells_list zeros_length.symm (by rw [zeros_length]; simp [maxLen]), hb⟩

/-- New memory with one word. -/
def oneWord : List Int := zeros.set 9 7
theorem oneWord_len : oneWord.length = 512 := by unfold oneWord; rw [List.length_set, zeros_length]
theorem chk_oneWord : chk oneWord = 0 := chk_set chk_zeros rfl
theorem wrM_oneWord : wrM zeros 9 7 = oneWord := wrM_ok chk_zeros rfl rfl
theorem wrE_oneWord : wrE zeros 9 7 = 0 := wrE_ok chk_zeros rfl rfl
theorem rdV_oneWord : rdV oneWord 9 = 7 := by rw [rdV_ok chk_oneWord rfl]; exact nth_set_same (by rw [zeros_length]; decide) 7
theorem rdE_oneWord : rdE oneWord 9 = 0 := rdE_ok chk_oneWord rfl
theorem rdE_past : rdE oneWord 512 = 4 := by unfold rdE; rw [if_pos chk_oneWord]; rfl

/-- The one field of a memory that is a value. -/
theorem field0 (v : Value) (w : World) : (Instr.field 33 (.agg #[v]) 0).run Try.prog w = .ok v w := by kernel_rfl

end Go.Proofs.Ytfbmmiikhkmpfac
/-
  The walk of drawbridgelaw.MemKeeps: it answers true, whatever memory and numbers it is given; nothing that was there turns.
-/
namespace Go.Proofs.Ytfbmmiikhkmpfac
open Go.RowKit

theorem Sl.shape {w : World} {v : Value} {zs : List Int} (h : Sl w v zs) : ∃ a cap, v = .slice a zs.length cap := by
  obtain ⟨a, cap, h, _⟩ := h; exact ⟨a, cap, h⟩
/-- A store over a slice turns no number. -/
theorem Sl.setSlice {w : World} {v : Value} {zs : List Int} (h : Sl w v zs) {p : Addr} {a : Option Addr} {n c : Nat} (hp : w.cell? p = some (.slice a n c)) (u : Value) : Sl (w.setCell p u) v zs := by
  obtain ⟨a, cap, rfl, hl, h⟩ := h
  refine ⟨a, cap, rfl, hl, ?_⟩
  rcases h with h | ⟨b, o, rfl, hlt, hc⟩
  · exact .inl h
  · refine .inr ⟨b, o, rfl, by simpa [World.setCell] using hlt, fun i hi => ?_⟩
    have hq := hc i hi
    have hne : p ≠ ⟨b, o + i, none⟩ := fun e => by rw [e, hq] at hp; simp at hp
    rw [World.cell?_setCell_other (h := hne)]
    exact hq

end Go.Proofs.Ytfbmmiikhkmpfac
/-
  Package walk: what Walk answers, errors and faults too; it turns nothing that was there.
-/
namespace Go.Proofs.Ytfbmmiikhkmpfac
open Go.RowKit

/-- What Walk answers of right memory and pages in range: the entry, the fault. -/
def wkF (zs : List Int) (root page : Int) (wr : Bool) : Five × Int :=
  if (fnd zs root page).2 = 0 then (if ((fnd zs root page).1.2.1 && ((fnd zs root page).1.2.2.1 || !wr)) = true then ((fnd zs root page).1, 0) else (E0, 5)) else (E0, (fnd zs root page).2)
/-- What Walk answers: the entry, the fault, the error. -/
def wkd (zs : List Int) (root page : Int) (wr : Bool) : Five × Int × Int :=
  if chk zs = 0 then
    (if pageB root = true ∧ pageB page = true then ((wkF zs root page wr).1, (wkF zs root page wr).2, 0) else (E0, 0, 4))
  else (E0, 0, chk zs)

theorem five_eq {a b : Five × Int} (h1 : a.1 = b.1) (h2 : a.2 = b.2) : a = b := Prod.ext h1 h2

end Go.Proofs.Ytfbmmiikhkmpfac
/-
  drawbridgelaw's with: words at places, of noughts; it turns nothing that was there.
-/
namespace Go.Proofs.Ytfbmmiikhkmpfac
open Go.RowKit

/-- Noughts, and the first so many pairs laid. -/
def wth (ps : List Int) : Nat → List Int
  | 0 => zeros
  | j + 1 => (wth ps j).set (nth ps (2 * j)).toNat (nth ps (2 * j + 1))
theorem wth_len (ps : List Int) (j : Nat) : (wth ps j).length = 512 := by
  induction j with
  | zero => exact zeros_length
  | succ j ih => rw [wth, List.length_set, ih]

/-- What the rounds of with keep. -/
def WithRel (w : World) (ps : List Int) (j : Nat) (w' : World) : Prop :=
  (∃ cs : Array Value, w'.heap[w.heap.size + 1]? = some (.cells cs 3 (0, 0)) ∧ cs.toList = (wth ps j).map (fun z => Value.int .i64 z)) ∧
  w'.heap[w.heap.size + 1 + 1]? = some (.cells #[.slice (some ⟨w.heap.size + 1, 0, none⟩) 512 512] 33 (0, 0)) ∧
  w'.heap[w.heap.size]? = some (.cells #[.slice none 0 0] 33 (0, 0)) ∧
  Below w.heap.size w w'

theorem WithRel.next {w w' : World} {ps : List Int} {j : Nat} (h : WithRel w ps j w') : WithRel w ps (j + 1) ((w'.setCell ⟨w.heap.size + 1, (nth ps (2 * j)).toNat, none⟩ (.int .i64 (nth ps (2 * j + 1)))).drew) := by
  obtain ⟨⟨cs, h1, h2⟩, h3, h4, h5⟩ := h
  refine ⟨⟨_, heap_setCell_same _ _ _ cs _ _ h1, ?_⟩, ?_, ?_, ?_⟩
  · rw [Array.toList_setIfInBounds, h2, wth, List.map_set]
  · show (w'.setCell _ _).heap[_]? = _
    rw [heap_setCell_other _ _ _ _ (by simp)]; exact h3
  · show (w'.setCell _ _).heap[_]? = _
    rw [heap_setCell_other _ _ _ _ (by simp)]; exact h4
  · exact (h5.setCell (p := ⟨w.heap.size + 1, _, none⟩) (by simp) _).drew

set_option maxHeartbeats 2000000 in
theorem with_own (b o cap : Nat) (ps : List Int) (m : Nat) (w : World) (h : Sl w (.slice (some ⟨b, o, none⟩) (2 * m) cap) ps) (hl : ps.length = 2 * m) (hm9 : m < 1000) (hp : ∀ j, j < m → 0 ≤ nth ps (2 * j) ∧ nth ps (2 * j) < 512) :
    Calls Try.prog 40 #[.slice (some ⟨b, o, none⟩) (2 * m : Nat) cap] w fun e w' => ∃ g, e = .returned (.agg #[.slice (some ⟨g, 0, none⟩) 512 512]) ∧ Sl w' (.slice (some ⟨g, 0, none⟩) 512 512) (wth ps m) ∧ Below w.heap.size w w' ∧ w.heap.size ≤ g ∧ ∃ cs : Array Value, w'.heap[g]? = some (.cells cs 3 (0, 0)) ∧ cs.toList = (wth ps m).map (fun z => Value.int .i64 z) := by
  have hm := make512
  have HP : Hid (∀ j, j < m → 0 ≤ nth ps (2 * j) ∧ nth ps (2 * j) < 512) := hp
  have HS : Hid (∀ i, i < 2 * m → b < w.heap.size ∧ w.cell? ⟨b, o + i, none⟩ = some (.int .i64 (nth ps i))) := by
    intro i hi
    obtain ⟨a, c, ha, _, hh⟩ := h
    simp at ha
    obtain ⟨rfl, _⟩ := ha
    rcases hh with rfl | ⟨b', o', hb, hlt, hc⟩
    · simp at hl; omega
    · simp at hb
      obtain ⟨rfl, rfl⟩ := hb
      exact ⟨hlt, hc i (by omega)⟩
  clear h hp
  go_enter Try.func40, Try.ntmps40
  go_wp2
  go_loopw [4] (fun i w' => ∃ j : Nat, j ≤ m ∧ i = .int .i64 (2 * j : Nat) ∧ WithRel w ps j w') (fun i _ => 2 * m - (intOf i).toNat)
  case atStart =>
    refine ⟨0, Nat.zero_le _, rfl, ⟨_, heap_past (by simp) (heap_at (by simp)), zeroCells_list⟩, heap_at (by simp), heap_past (by simp; omega) (heap_past (by simp) (heap_at rfl)), bel_alloc (bel_alloc (bel_alloc (Below.refl _ _) _) _) _⟩
  case round =>
    obtain ⟨j, hj, rfl, hR⟩ := hrel
    have HR : Hid (WithRel w ps j wr) := hR
    obtain ⟨⟨cs, h1, h2⟩, h3, h4, h5⟩ := hR
    have q3 := cell_of_row wr (w.heap.size + 1 + 1) 0 _ _ _ h3
    by_cases hlt : j < m
    · obtain ⟨p0, p1⟩ := HP.out j hlt
      obtain ⟨hb, e0⟩ := HS.out (2 * j) (by omega)
      obtain ⟨_, e1⟩ := HS.out (2 * j + 1) (by omega)
      have g0 : wr.cell? ⟨b, o + 2 * j, none⟩ = some (.int .i64 (nth ps (2 * j))) := by rw [h5.cell (p := ⟨b, _, none⟩) hb]; exact e0
      have g1 : wr.cell? ⟨b, o + (2 * j + 1), none⟩ = some (.int .i64 (nth ps (2 * j + 1))) := by rw [h5.cell (p := ⟨b, _, none⟩) hb]; exact e1
      have gm : wr.cell? ⟨w.heap.size + 1, (nth ps (2 * j)).toNat, none⟩ = some (.int .i64 (nth (wth ps j) (nth ps (2 * j)).toNat)) := by
        rw [cell_of_row _ _ _ _ _ _ h1, ← Array.getElem?_toList, h2, List.getElem?_map, getElem?_nth (by rw [wth_len]; omega)]; rfl
      have gf : wr.frozen? ⟨w.heap.size + 1, (nth ps (2 * j)).toNat, none⟩ = false := frozen_of_row _ _ _ _ _ h1
      have HX : Hid _ := HR.out.next
      generalize nth ps (2 * j) = p at *
      generalize nth ps (2 * j + 1) = x at *
      generalize hk : 2 * j = k at *
      have hlt1 : (k : Int) + 1 < (2 * m : Nat) := by omega
      have hlt0 : (k : Int) < (2 * m : Nat) := by omega
      have hw : wrap64 ((k : Int) + 1) = k + 1 := by unfold wrap64; omega
      clear e0 e1 h1 h2 h3 h4 h5
      go_wp2
      go_region
      go_wp2
      refine ⟨⟨j + 1, by omega, by congr 1; omega, HX.out⟩, by simp [intOf]; omega⟩
    · obtain rfl : j = m := by omega
      have HQ : Hid (Sl wr (.slice (some ⟨w.heap.size + 1, 0, none⟩) 512 512) (wth ps j)) := sl_block h1 h2 (wth_len _ _).symm (by rw [wth_len]; simp [maxLen])
      have q4 := cell_of_row wr w.heap.size 0 _ _ _ h4
      have q5 := frozen_of_row wr w.heap.size 0 _ _ h4
      have HB : Hid (Below w.heap.size w wr) := h5
      have HC : Hid (wr.heap[w.heap.size + 1]? = some (.cells cs 3 (0, 0)) ∧ cs.toList = (wth ps j).map (fun z => Value.int .i64 z)) := ⟨h1, h2⟩
      clear h1 h2 h3 h4 h5 HR
      generalize hk : 2 * j = k at *
      have hk9 : k < 2000 := by omega
      have hw : wrap64 ((k : Int) + 1) = k + 1 := by unfold wrap64; omega
      have hge : ¬ (k : Int) + 1 < (k : Int) := by omega
      go_wp2
      refine bodyPost_ret (v := .agg #[.slice (some ⟨w.heap.size + 1, 0, none⟩) 512 512]) (by simp [results, Try.results40, go_sem, *]) rfl ⟨_, rfl, HQ.out.setOther (by simp [Value.ownBlock]) _, HB.out.setCell (p := ⟨w.heap.size, 0, none⟩) (by simp) _, by omega, cs, by rw [heap_setCell_other _ _ _ _ (by simp)]; exact HC.out.1, HC.out.2⟩
theorem with_any (b o cap : Nat) (ps : List Int) (m : Nat) (w : World) (h : Sl w (.slice (some ⟨b, o, none⟩) (2 * m) cap) ps) (hl : ps.length = 2 * m) (hm9 : m < 1000) (hp : ∀ j, j < m → 0 ≤ nth ps (2 * j) ∧ nth ps (2 * j) < 512) :
    Calls Try.prog 40 #[.slice (some ⟨b, o, none⟩) (2 * m : Nat) cap] w fun e w' => ∃ g, e = .returned (.agg #[.slice (some ⟨g, 0, none⟩) 512 512]) ∧ Sl w' (.slice (some ⟨g, 0, none⟩) 512 512) (wth ps m) ∧ Below w.heap.size w w' :=
  (with_own b o cap ps m w h hl hm9 hp).mono fun _ _ ⟨g, he, hs, hb, _⟩ => ⟨g, he, hs, hb⟩
end Go.Proofs.Ytfbmmiikhkmpfac
/-
  The closed fact 'walked' of the statements answers true; nothing that was there turns.
-/
namespace Go.Proofs.Ytfbmmiikhkmpfac
open Go.RowKit

/-- The memory of the closed fact walked. -/
def wkm : List Int := wth [16, 49, 17, 143, 25, 155] 3
theorem wkm_len : wkm.length = 512 := wth_len _ _
theorem wkd_1 : wkd wkm 2 1 false = ((true, true, false, true, 9), 0, 0) := by decide +kernel
theorem wkd_2 : wkd wkm 2 1 true = ((false, false, false, false, 0), 5, 0) := by decide +kernel
theorem wkd_3 : wkd wkm 2 13 true = ((true, true, true, true, 13), 0, 0) := by decide +kernel
theorem wkd_4 : wkd wkm 2 2 false = ((false, false, false, false, 0), 3, 0) := by decide +kernel

end Go.Proofs.Ytfbmmiikhkmpfac
/-
  drawbridgelaw's at, with a page's and a word's bounds.
-/
namespace Go.Proofs.Ytfbmmiikhkmpfac
open Go.RowKit

end Go.Proofs.Ytfbmmiikhkmpfac
