/-
  Laid together: Base, In, Mem, Entry, Entry2, Entry3, EntryMath, Blks, Mem2.
-/
import Derived.Test.YthlhocneggcekaaRows
import Derived.WalkKit
import Derived.WalkSpells
import Derived.WalkLawsBesides
import Derived.Below
import Derived.WalkSmall
import Derived.Deep.QuietTactic
import Derived.BigQuiet
import Derived.Deep.Draws
namespace Go.Proofs.Ythlhocneggcekaa
open Go.RowKit
def nth (zs : List Int) (i : Nat) : Int := zs.getD i 0
theorem getElem?_nth {zs : List Int} {i : Nat} (h : i < zs.length) : zs[i]? = some (nth zs i) := by simp [nth, h]
def Sl (w : World) (v : Value) (zs : List Int) : Prop :=
  ∃ a cap, v = .slice a zs.length cap ∧ zs.length ≤ maxLen ∧
    (zs = [] ∨ ∃ b o, a = some ⟨b, o, none⟩ ∧ b < w.heap.size ∧ ∀ i, i < zs.length → w.cell? ⟨b, o + i, none⟩ = some (.int .i64 (nth zs i)))
theorem Sl.keep {w w' : World} {v : Value} {zs : List Int} (h : Sl w v zs) (hb : Below w.heap.size w w') : Sl w' v zs := by
  obtain ⟨a, cap, rfl, hl, h⟩ := h
  refine ⟨a, cap, rfl, hl, ?_⟩
  rcases h with h | ⟨b, o, rfl, hlt, hc⟩
  · exact .inl h
  · exact .inr ⟨b, o, rfl, Nat.lt_of_lt_of_le hlt hb.size, fun i hi => by rw [hb.cell (p := ⟨b, o + i, none⟩) hlt]; exact hc i hi⟩
theorem Sl.nil (w : World) (a : Option Addr) (cap : Nat) : Sl w (.slice a 0 cap) [] := ⟨a, cap, rfl, by simp [maxLen], .inl rfl⟩
theorem sl_block {w : World} {b n cap : Nat} {t : TypeId} {fr : Nat × Nat} {cs : Array Value} {zs : List Int} (hb : w.heap[b]? = some (.cells cs t fr)) (hcs : cs.toList = zs.map (fun z => Value.int .i64 z)) (hn : n = zs.length) (hm : zs.length ≤ maxLen) :
    Sl w (.slice (some ⟨b, 0, none⟩) n cap) zs := by
  subst hn
  refine ⟨_, cap, rfl, hm, .inr ⟨b, 0, rfl, ?_, fun i hi => ?_⟩⟩
  · rcases Nat.lt_or_ge b w.heap.size with h | h
    · exact h
    · rw [Array.getElem?_eq_none h] at hb; exact absurd hb (by simp)
  · rw [Nat.zero_add, cell_of_row w b i cs t fr hb, ← Array.getElem?_toList, hcs, List.getElem?_map, List.getElem?_eq_getElem hi]
    simp [nth, hi]
theorem heap_at {w : World} {o : Obj} {n : Nat} (h : n = w.heap.size) : (w.alloc o).heap[n]? = some o := by subst h; exact heap_alloc_new w o
theorem heap_past {w : World} {o : Obj} {n : Nat} {x : Option Obj} (h : n < w.heap.size) (k : w.heap[n]? = x) : (w.alloc o).heap[n]? = x := by rw [heap_alloc_old w o h]; exact k
theorem heap_drawn {w : World} {m n : Nat} {x : Option Obj} (k : w.heap[n]? = x) : (w.drewN m).heap[n]? = x := k
theorem bel_alloc {a w : World} (h : Below a.heap.size a w) (o : Obj) : Below a.heap.size a (w.alloc o) := h.alloc h.size o
theorem bel_drewN {a w : World} (h : Below a.heap.size a w) (n : Nat) : Below a.heap.size a (w.drewN n) := below_drewN h n
theorem bel_trans {a b c : World} (h : Below a.heap.size a b) (k : Below b.heap.size b c) : Below a.heap.size a c := h.trans (k.mono h.size)
theorem bcell {W w1 : World} (hb : Below W.heap.size W w1) : (∀ b o, b < W.heap.size → w1.cell? ⟨b, o, none⟩ = W.cell? ⟨b, o, none⟩) ∧ (∀ b o, b < W.heap.size → w1.frozen? ⟨b, o, none⟩ = W.frozen? ⟨b, o, none⟩) :=
  ⟨fun b o h => hb.cell (p := ⟨b, o, none⟩) h, fun b o h => hb.frozen (p := ⟨b, o, none⟩) h⟩
theorem ret_bool {a b : Bool} (h : a = b) : Ending.returned (.bool a) = .returned (.bool b) := by rw [h]
theorem ret_int {k : IntKind} {a b : Int} (h : a = b) : Ending.returned (.int k a) = .returned (.int k b) := by rw [h]
def Fresh (base : Nat) (v : Value) : Prop := ∀ k, v.ownBlock = some k → base ≤ k
theorem Fresh.mono {a b : Nat} {v : Value} (h : Fresh b v) (k : a ≤ b) : Fresh a v := fun n hn => Nat.le_trans k (h n hn)
theorem Fresh.none (base n c : Nat) : Fresh base (.slice none n c) := fun k hk => by simp [Value.ownBlock] at hk
theorem fresh_at {base g : Nat} (h : base ≤ g) (o n c : Nat) : Fresh base (.slice (some ⟨g, o, none⟩) n c) := fun k hk => by simp [Value.ownBlock] at hk; omega
def betweenB (lo hi z : Int) : Bool := decide (lo ≤ z ∧ z ≤ hi)
theorem in_any (z lo hi : Int) (w : World) : Calls Try.prog 17 #[.int .i64 z, .int .i64 lo, .int .i64 hi] w fun e w' => e = .returned (.bool (betweenB lo hi z)) ∧ w' = w := by
  by_cases h1 : lo ≤ z
  · by_cases h2 : z ≤ hi
    · have : betweenB lo hi z = true := by simp [betweenB, h1, h2]
      rw [this]
      go_enter Try.func17, Try.ntmps17
      go_wp2
      go_ret
      exact ⟨rfl, rfl⟩
    · have : betweenB lo hi z = false := by simp [betweenB, h2]
      rw [this]
      go_enter Try.func17, Try.ntmps17
      go_wp2
      go_ret
      exact ⟨rfl, rfl⟩
  · have : betweenB lo hi z = false := by simp [betweenB, h1]
    rw [this]
    go_enter Try.func17, Try.ntmps17
    go_wp2
    go_ret
    exact ⟨rfl, rfl⟩
def wordB (z : Int) : Bool := decide (0 ≤ z ∧ z ≤ 65535)
def placeB (z : Int) : Bool := decide (0 ≤ z ∧ z < 512)
def chk (zs : List Int) : Int := if zs.length = 512 then (if zs.all wordB then 0 else 2) else 3
theorem chk_len {zs : List Int} (h : ¬ zs.length = 512) : chk zs = 3 := by simp [chk, h]
theorem chk_all {zs : List Int} (h : zs.length = 512) (k : ∀ j, j < 512 → wordB (nth zs j) = true) : chk zs = 0 := by
  have : zs.all wordB = true := by
    rw [List.all_eq_true]
    intro x hx
    obtain ⟨i, hi, rfl⟩ := List.getElem_of_mem hx
    have := k i (by omega)
    simpa [nth, hi] using this
  simp [chk, h, this]
theorem chk_not {zs : List Int} {j : Nat} (h : zs.length = 512) (hj : j < 512) (k : wordB (nth zs j) = false) : chk zs = 2 := by
  have : zs.all wordB = false := by
    rw [List.all_eq_false]
    exact ⟨zs[j], List.getElem_mem _, by simpa [nth, h, hj] using k⟩
  simp [chk, h, this]
theorem chk_ok {zs : List Int} (h : chk zs = 0) : zs.length = 512 ∧ ∀ j, j < 512 → wordB (nth zs j) = true := by
  unfold chk at h
  by_cases hl : zs.length = 512
  · refine ⟨hl, fun j hj => ?_⟩
    by_cases ha : zs.all wordB = true
    · rw [List.all_eq_true] at ha
      have := ha zs[j] (List.getElem_mem _)
      simpa [nth, hl, hj] using this
    · simp [hl, ha] at h
  · simp [hl] at h
theorem isWord_any (z : Int) (w : World) : Calls Try.prog 33 #[.int .i64 z] w fun e w' => e = .returned (.bool (wordB z)) ∧ w' = w := by
  by_cases h1 : 0 ≤ z
  · by_cases h2 : z ≤ 65535
    · have : wordB z = true := by simp [wordB, h1, h2]
      rw [this]
      go_enter Try.func33, Try.ntmps33
      go_wp2
      go_ret
      exact ⟨rfl, rfl⟩
    · have : wordB z = false := by simp [wordB, h2]
      rw [this]
      go_enter Try.func33, Try.ntmps33
      go_wp2
      go_ret
      exact ⟨rfl, rfl⟩
  · have : wordB z = false := by simp [wordB, h1]
    rw [this]
    go_enter Try.func33, Try.ntmps33
    go_wp2
    go_ret
    exact ⟨rfl, rfl⟩
set_option maxHeartbeats 1000000 in
theorem check_any (v : Value) (zs : List Int) (w : World) (h : Sl w v zs) :
    Calls Try.prog 23 #[.agg #[v]] w fun e w' => e = .returned (.int .i64 (chk zs)) ∧ Below w.heap.size w w' := by
  obtain ⟨a, cap, rfl, hl, h⟩ := h
  unfold maxLen at hl
  by_cases hn : zs.length = 512
  · rcases h with rfl | ⟨b, o, rfl, hb, hc⟩
    · simp at hn
    have HC : Hid (∀ i, i < 512 → w.cell? ⟨b, o + i, none⟩ = some (.int .i64 (nth zs i))) := fun i hi => hc i (by omega)
    have HN : Hid (zs.length = 512) := hn
    rw [hn]
    clear hc hl hn
    go_enter Try.func23, Try.ntmps23
    go_wp2
    go_loop [12] (fun i => ∃ k : Nat, k ≤ 512 ∧ i = .int .i64 k ∧ ∀ j, j < k → wordB (nth zs j) = true) (fun i => 512 - (intOf i).toNat)
    case atStart => exact ⟨0, Nat.zero_le _, rfl, fun j hj => absurd hj (Nat.not_lt_zero _)⟩
    case round =>
      obtain ⟨k, hk, rfl, hpre⟩ := hrel
      have HP : Hid (∀ j, j < k → wordB (nth zs j) = true) := hpre
      clear hpre
      by_cases hlt : k < 512
      · have g := HC.out k hlt
        have hlt1 : (k : Int) < 512 := by omega
        by_cases hq : wordB (nth zs k) = true
        · go_wp2_with (go_at_call 33; refine (isWord_any _ _).mono ?_; rintro e w' ⟨rfl, rfl⟩)
          refine ⟨⟨k + 1, by omega, by go_num, fun j hj => ?_⟩, by simp [intOf]; omega⟩
          by_cases e : j = k
          · rw [e]; exact hq
          · exact HP.out j (by omega)
        · have hq' : wordB (nth zs k) = false := by simpa using hq
          have HD : Hid (chk zs = 2) := chk_not HN.out hlt hq'
          clear hq
          go_wp2_with (go_at_call 33; refine (isWord_any _ _).mono ?_; rintro e w' ⟨rfl, rfl⟩)
          go_ret
          exact ⟨ret_int HD.out.symm, bel_alloc (Below.refl _ _) _⟩
      · have HD : Hid (chk zs = 0) := chk_all HN.out fun j hj => HP.out j (by omega)
        have hge : ¬ (k : Int) < 512 := by omega
        go_wp2
        go_ret
        exact ⟨ret_int HD.out.symm, bel_alloc (Below.refl _ _) _⟩
  · have hne : ((zs.length : Int) != 512) = true := by simp; omega
    rw [chk_len hn]
    go_enter Try.func23, Try.ntmps23
    go_wp2
    go_ret
    exact ⟨rfl, bel_alloc (Below.refl _ _) _⟩
theorem between_word (z : Int) : betweenB 0 65535 z = wordB z := rfl
set_option maxHeartbeats 1000000 in
theorem checkMem_any (v : Value) (zs : List Int) (w : World) (h : Sl w v zs) :
    Calls Try.prog 14 #[.agg #[v]] w fun e w' => e = .returned (.int .i64 (chk zs)) ∧ Below w.heap.size w w' := by
  obtain ⟨a, cap, rfl, hl, h⟩ := h
  unfold maxLen at hl
  by_cases hn : zs.length = 512
  · rcases h with rfl | ⟨b, o, rfl, hb, hc⟩
    · simp at hn
    have HC : Hid (∀ i, i < 512 → w.cell? ⟨b, o + i, none⟩ = some (.int .i64 (nth zs i))) := fun i hi => hc i (by omega)
    have HN : Hid (zs.length = 512) := hn
    rw [hn]
    clear hc hl hn
    go_enter Try.func14, Try.ntmps14
    go_wp2
    go_loop [12] (fun i => ∃ k : Nat, k ≤ 512 ∧ i = .int .i64 k ∧ ∀ j, j < k → wordB (nth zs j) = true) (fun i => 512 - (intOf i).toNat)
    case atStart => exact ⟨0, Nat.zero_le _, rfl, fun j hj => absurd hj (Nat.not_lt_zero _)⟩
    case round =>
      obtain ⟨k, hk, rfl, hpre⟩ := hrel
      have HP : Hid (∀ j, j < k → wordB (nth zs j) = true) := hpre
      clear hpre
      by_cases hlt : k < 512
      · have g := HC.out k hlt
        have hlt1 : (k : Int) < 512 := by omega
        by_cases hq : wordB (nth zs k) = true
        · go_wp2_with (go_at_call 17; refine (in_any _ _ _ _).mono ?_; rintro e w' ⟨rfl, rfl⟩; rw [between_word])
          refine ⟨⟨k + 1, by omega, by go_num, fun j hj => ?_⟩, by simp [intOf]; omega⟩
          by_cases e : j = k
          · rw [e]; exact hq
          · exact HP.out j (by omega)
        · have hq' : wordB (nth zs k) = false := by simpa using hq
          have HD : Hid (chk zs = 2) := chk_not HN.out hlt hq'
          clear hq
          go_wp2_with (go_at_call 17; refine (in_any _ _ _ _).mono ?_; rintro e w' ⟨rfl, rfl⟩; rw [between_word])
          go_ret
          exact ⟨ret_int HD.out.symm, bel_alloc (Below.refl _ _) _⟩
      · have HD : Hid (chk zs = 0) := chk_all HN.out fun j hj => HP.out j (by omega)
        have hge : ¬ (k : Int) < 512 := by omega
        go_wp2
        go_ret
        exact ⟨ret_int HD.out.symm, bel_alloc (Below.refl _ _) _⟩
  · have hne : ((zs.length : Int) != 512) = true := by simp; omega
    rw [chk_len hn]
    go_enter Try.func14, Try.ntmps14
    go_wp2
    go_ret
    exact ⟨rfl, bel_alloc (Below.refl _ _) _⟩
def pageB (z : Int) : Bool := decide (0 ≤ z ∧ z < 64)
theorem eIsWord_any (z : Int) (w : World) : Calls Try.prog 60 #[.int .i64 z] w fun e w' => e = .returned (.bool (wordB z)) ∧ w' = w := by
  by_cases h1 : 0 ≤ z
  · by_cases h2 : z ≤ 65535
    · have : wordB z = true := by simp [wordB, h1, h2]
      rw [this]
      go_enter Try.func60, Try.ntmps60
      go_wp2
      go_ret
      exact ⟨rfl, rfl⟩
    · have : wordB z = false := by simp [wordB, h2]
      rw [this]
      go_enter Try.func60, Try.ntmps60
      go_wp2
      go_ret
      exact ⟨rfl, rfl⟩
  · have : wordB z = false := by simp [wordB, h1]
    rw [this]
    go_enter Try.func60, Try.ntmps60
    go_wp2
    go_ret
    exact ⟨rfl, rfl⟩
theorem pageOf_any (z : Int) (w : World) (h0 : 0 ≤ z) (h1 : z ≤ 65535) : Calls Try.prog 62 #[.int .i64 z] w fun e w' => e = .returned (.int .i64 (z / 16 % 64)) ∧ w' = w := by
  go_enter Try.func62, Try.ntmps62
  go_wp2
  go_ret
  exact ⟨rfl, rfl⟩
def bitB (z : Int) (k : Nat) : Bool := decide (z / 2 ^ k % 2 = 1)
def anyB (z : Int) (zs : List Int) : Bool := zs.any (fun k => bitB z k.toNat)
theorem wraps_i64 (n : Int) (h0 : 0 ≤ n) (h1 : n < 2 ^ 63) : IntKind.i64.wrap n = n := by rw [IntKind.wrap_i64]; omega
theorem and_one_i64 (x : Int) (h0 : 0 ≤ x) (h1 : x ≤ 65535) : bits .and .i64 x 1 = x % 2 :=
  bits_mask .i64 63 (by decide) wraps_i64 1 (by decide) x h0 (by omega)
theorem shr_le (z : Int) (s : Nat) (h0 : 0 ≤ z) (h1 : z ≤ 65535) : 0 ≤ z / 2 ^ s ∧ z / 2 ^ s ≤ 65535 := by
  have hp : (0 : Int) < 2 ^ s := Int.pow_pos (by decide)
  exact ⟨Int.ediv_nonneg h0 (Int.le_of_lt hp), Int.le_trans (Int.ediv_le_self _ h0) h1⟩
theorem bit_eq (z : Int) (s : Nat) (h0 : 0 ≤ z) (h1 : z ≤ 65535) : (bits .and .i64 (z / 2 ^ s) 1 == 1) = bitB z s := by
  rw [and_one_i64 _ (shr_le z s h0 h1).1 (shr_le z s h0 h1).2, bitB]
  rfl
theorem anyB_at {z : Int} {zs : List Int} {i : Nat} (hi : i < zs.length) (h : bitB z (nth zs i).toNat = true) : anyB z zs = true := by
  rw [anyB, List.any_eq_true]
  refine ⟨zs[i], List.getElem_mem _, ?_⟩
  simpa [nth, hi] using h
theorem anyB_none {z : Int} {zs : List Int} (h : ∀ i, i < zs.length → bitB z (nth zs i).toNat = false) : anyB z zs = false := by
  rw [anyB, List.any_eq_false]
  intro x hx
  obtain ⟨i, hi, rfl⟩ := List.getElem_of_mem hx
  have := h i hi
  simp only [nth, List.getD_eq_getElem?_getD, List.getElem?_eq_getElem hi, Option.getD_some] at this
  simp [this]
set_option maxHeartbeats 1000000 in
theorem has_any (z : Int) (v : Value) (zs : List Int) (w : World) (h0 : 0 ≤ z) (h1 : z ≤ 65535) (h : Sl w v zs) (hz : ∀ i, i < zs.length → 0 ≤ nth zs i ∧ nth zs i < 16) :
    Calls Try.prog 61 #[.int .i64 z, v] w fun e w' => e = .returned (.bool (anyB z zs)) ∧ w' = w := by
  obtain ⟨a, cap, rfl, hl, h⟩ := h
  unfold maxLen at hl
  rcases h with rfl | ⟨b, o, rfl, hb, hc⟩
  · go_enter Try.func61, Try.ntmps61
    go_wp2
    go_loop [9] (fun i => i = .int .i64 0) (fun i => 0)
    case atStart => rfl
    case round =>
      subst hrel
      go_wp2
      go_ret
      exact ⟨rfl, rfl⟩
  · have HC : Hid (∀ i, i < zs.length → w.cell? ⟨b, o + i, none⟩ = some (.int .i64 (nth zs i))) := hc
    have HZ : Hid (∀ i, i < zs.length → 0 ≤ nth zs i ∧ nth zs i < 16) := hz
    clear hc hz
    go_enter Try.func61, Try.ntmps61
    go_wp2
    go_loop [9] (fun i => ∃ k : Nat, k ≤ zs.length ∧ i = .int .i64 k ∧ ∀ j, j < k → bitB z (nth zs j).toNat = false) (fun i => zs.length - (intOf i).toNat)
    case atStart => exact ⟨0, Nat.zero_le _, rfl, fun j hj => absurd hj (Nat.not_lt_zero _)⟩
    case round =>
      obtain ⟨k, hk, rfl, hpre⟩ := hrel
      have HP : Hid (∀ j, j < k → bitB z (nth zs j).toNat = false) := hpre
      clear hpre
      by_cases hlt : k < zs.length
      · have g := HC.out k hlt
        obtain ⟨g0, g1⟩ := HZ.out k hlt
        have hlt1 : (k : Int) < zs.length := by omega
        have hq := bit_eq z (nth zs k).toNat h0 h1
        cases hb : bitB z (nth zs k).toNat
        · have HB : Hid (bitB z (nth zs k).toNat = false) := hb
          rw [hb] at hq
          clear hb
          go_wp2
          refine ⟨⟨k + 1, by omega, by go_num, fun j hj => ?_⟩, by simp [intOf]; omega⟩
          by_cases e : j = k
          · rw [e]; exact HB.out
          · exact HP.out j (by omega)
        · have HD : Hid (anyB z zs = true) := anyB_at hlt hb
          rw [hb] at hq
          clear hb
          go_wp2
          go_ret
          exact ⟨ret_bool HD.out.symm, rfl⟩
      · have HD : Hid (anyB z zs = false) := anyB_none fun j hj => HP.out j (by omega)
        have hge : ¬ (k : Int) < zs.length := by omega
        go_wp2
        go_ret
        exact ⟨ret_bool HD.out.symm, rfl⟩
def formE (v r x l : Bool) (p : Int) : Bool := if v then (r || !x) && (l || !r) else !r && !x && !l && decide (p = 0)
def formC (v a : Bool) (p : Int) : Bool := if v then !a || decide (p = 0) else !a && decide (p = 0)
set_option maxHeartbeats 1000000 in
theorem isEntry_any (v r x l : Bool) (p : Int) (w : World) :
    Calls Try.prog 70 #[.agg #[.bool v, .bool r, .bool x, .bool l, .int .i64 p]] w fun e w' => e = .returned (.bool (formE v r x l p)) ∧ ∃ o, w' = w.alloc o := by
  cases v
  · by_cases hp : p = 0
    · subst hp
      cases r <;> cases x <;> cases l
      all_goals
        go_enter Try.func70, Try.ntmps70
        go_wp2
        go_ret
        exact ⟨rfl, _, rfl⟩
    · have hq : (p == 0) = false := by simpa using hp
      have HF : Hid (formE false r x l p = false) := by simp [formE, hp, Hid]
      cases r <;> cases x <;> cases l
      all_goals
        go_enter Try.func70, Try.ntmps70
        go_wp2
        go_ret
        exact ⟨ret_bool HF.out.symm, _, rfl⟩
  · cases r <;> cases x <;> cases l
    all_goals
      go_enter Try.func70, Try.ntmps70
      go_wp2
      go_ret
      exact ⟨rfl, _, rfl⟩
set_option maxHeartbeats 1000000 in
theorem isContext_any (v a : Bool) (p : Int) (w : World) :
    Calls Try.prog 63 #[.agg #[.bool v, .bool a, .int .i64 p]] w fun e w' => e = .returned (.bool (formC v a p)) ∧ ∃ o, w' = w.alloc o := by
  by_cases hp : p = 0
  · subst hp
    cases v <;> cases a
    all_goals
      go_enter Try.func63, Try.ntmps63
      go_wp2
      go_ret
      exact ⟨rfl, _, rfl⟩
  · have hq : (p == 0) = false := by simpa using hp
    have HF : Hid (formC v a p = (v && !a)) := by cases v <;> cases a <;> simp [formC, hp, Hid]
    cases v <;> cases a
    all_goals
      go_enter Try.func63, Try.ntmps63
      go_wp2
      go_ret
      exact ⟨ret_bool HF.out.symm, _, rfl⟩
def okE (z : Int) : Bool := wordB z && (!bitB z 0 || (!anyB z [10, 11, 12, 13, 14, 15] && formE true (bitB z 1) (bitB z 2) (bitB z 3) (z / 16 % 64)))
def vE (z : Int) : Bool := okE z && bitB z 0
def rE (z : Int) : Bool := vE z && bitB z 1
def xE (z : Int) : Bool := vE z && bitB z 2
def lE (z : Int) : Bool := vE z && bitB z 3
def pE (z : Int) : Int := if vE z then z / 16 % 64 else 0
def okC (z : Int) : Bool := wordB z && (!bitB z 0 || (!anyB z [2, 3, 10, 11, 12, 13, 14, 15] && formC true (bitB z 1) (z / 16 % 64)))
def vC (z : Int) : Bool := okC z && bitB z 0
def aC (z : Int) : Bool := vC z && bitB z 1
def pC (z : Int) : Int := if vC z then z / 16 % 64 else 0
theorem any_one (z : Int) (k : Nat) : anyB z [(k : Int)] = bitB z k := by simp [anyB]
set_option maxHeartbeats 2000000 in
theorem eRead_any (z : Int) (w : World) :
    Calls Try.prog 69 #[.int .i64 z] w fun e w' => e = .returned (.tuple #[.agg #[.bool (vE z), .bool (rE z), .bool (xE z), .bool (lE z), .int .i64 (pE z)], .bool (okE z)]) ∧ Below w.heap.size w w' := by
  cases hw : wordB z
  · have ho : okE z = false := by simp [okE, hw]
    have hv : vE z = false := by simp [vE, ho]
    rw [ho, hv, show rE z = false by simp [rE, hv], show xE z = false by simp [xE, hv], show lE z = false by simp [lE, hv], show pE z = 0 by simp [pE, hv]]
    go_enter Try.func69, Try.ntmps69
    go_wp2_with fail
    refine (eIsWord_any _ _).mono ?_
    rintro e w1 ⟨rfl, rfl⟩
    rw [hw]
    go_wp2
    refine bodyPost_ret (v := .tuple #[.agg #[.bool false, .bool false, .bool false, .bool false, .int .i64 0], .bool false]) (by simp [results, Try.results69, go_sem]) rfl ⟨rfl, ?_⟩
    exact bel_alloc (Below.refl _ _) _
  · obtain ⟨h0, h1⟩ : 0 ≤ z ∧ z ≤ 65535 := by simpa [wordB] using hw
    cases hb : bitB z 0
    · have ho : okE z = true := by simp [okE, hw, hb]
      have hv : vE z = false := by simp [vE, hb]
      rw [ho, hv, show rE z = false by simp [rE, hv], show xE z = false by simp [xE, hv], show lE z = false by simp [lE, hv], show pE z = 0 by simp [pE, hv]]
      go_enter Try.func69, Try.ntmps69
      go_wp2_with fail
      refine (eIsWord_any _ _).mono ?_
      rintro e w1 ⟨rfl, rfl⟩
      rw [hw]
      go_wp2_with fail
      refine (has_any _ _ [0] _ h0 h1 (sl_block (by repeat (first | (refine heap_at ?_; simp; done) | (refine heap_past ?_ ?_; · (simp; try omega)))) rfl rfl (by simp [maxLen])) (by decide)).mono ?_
      rintro e w1 ⟨rfl, rfl⟩
      rw [show anyB z [0] = false from (any_one z 0).trans hb]
      go_wp2
      refine bodyPost_ret (v := .tuple #[.agg #[.bool false, .bool false, .bool false, .bool false, .int .i64 0], .bool true]) (by simp [results, Try.results69, go_sem]) rfl ⟨rfl, ?_⟩
      exact bel_alloc (bel_alloc (Below.refl _ _) _) _
    · have goal : ∀ hi fo : Bool, anyB z [10, 11, 12, 13, 14, 15] = hi → formE true (bitB z 1) (bitB z 2) (bitB z 3) (z / 16 % 64) = fo →
          Calls Try.prog 69 #[.int .i64 z] w fun e w' => e = .returned (.tuple #[.agg #[.bool (!hi && fo), .bool ((!hi && fo) && bitB z 1), .bool ((!hi && fo) && bitB z 2), .bool ((!hi && fo) && bitB z 3), .int .i64 (if !hi && fo then z / 16 % 64 else 0)], .bool (!hi && fo)]) ∧ Below w.heap.size w w' := by
        intro hi fo hhi hfo
        go_enter Try.func69, Try.ntmps69
        go_wp2_with fail
        refine (eIsWord_any _ _).mono ?_
        rintro e w1 ⟨rfl, rfl⟩
        rw [hw]
        go_wp2_with fail
        refine (has_any _ _ [0] _ h0 h1 (sl_block (by repeat (first | (refine heap_at ?_; simp; done) | (refine heap_past ?_ ?_; · (simp; try omega)))) rfl rfl (by simp [maxLen])) (by decide)).mono ?_
        rintro e w1 ⟨rfl, rfl⟩
        rw [show anyB z [0] = true from (any_one z 0).trans hb]
        go_wp2_with fail
        refine (has_any _ _ [1] _ h0 h1 (sl_block (by repeat (first | (refine heap_at ?_; simp; done) | (refine heap_past ?_ ?_; · (simp; try omega)))) rfl rfl (by simp [maxLen])) (by decide)).mono ?_
        rintro e w1 ⟨rfl, rfl⟩
        rw [show anyB z [1] = bitB z 1 from any_one z 1]
        go_wp2_with fail
        refine (has_any _ _ [2] _ h0 h1 (sl_block (by repeat (first | (refine heap_at ?_; simp; done) | (refine heap_past ?_ ?_; · (simp; try omega)))) rfl rfl (by simp [maxLen])) (by decide)).mono ?_
        rintro e w1 ⟨rfl, rfl⟩
        rw [show anyB z [2] = bitB z 2 from any_one z 2]
        go_wp2_with fail
        refine (has_any _ _ [3] _ h0 h1 (sl_block (by repeat (first | (refine heap_at ?_; simp; done) | (refine heap_past ?_ ?_; · (simp; try omega)))) rfl rfl (by simp [maxLen])) (by decide)).mono ?_
        rintro e w1 ⟨rfl, rfl⟩
        rw [show anyB z [3] = bitB z 3 from any_one z 3]
        go_wp2_with fail
        refine (pageOf_any _ _ h0 h1).mono ?_
        rintro e w1 ⟨rfl, rfl⟩
        go_wp2_with fail
        refine (has_any _ _ [10, 11, 12, 13, 14, 15] _ h0 h1 (sl_block (by repeat (first | (refine heap_at ?_; simp; done) | (refine heap_past ?_ ?_; · (simp; try omega)))) rfl rfl (by simp [maxLen])) (by decide)).mono ?_
        rintro e w1 ⟨rfl, rfl⟩
        rw [hhi]
        cases hi
        · go_wp2_with fail
          refine (isEntry_any _ _ _ _ _ _).mono ?_
          rintro e w1 ⟨rfl, o1, rfl⟩
          rw [hfo]
          cases fo
          · go_wp2
            refine bodyPost_ret (v := .tuple #[.agg #[.bool false, .bool false, .bool false, .bool false, .int .i64 0], .bool false]) (by simp [results, Try.results69, go_sem]) rfl ⟨rfl, ?_⟩
            repeat (first | exact Below.refl _ _ | refine bel_alloc ?_ _)
          · go_wp2
            refine bodyPost_ret (v := .tuple #[.agg #[.bool true, .bool (bitB z 1), .bool (bitB z 2), .bool (bitB z 3), .int .i64 (z / 16 % 64)], .bool true]) (by simp [results, Try.results69, go_sem]) rfl ⟨rfl, ?_⟩
            repeat (first | exact Below.refl _ _ | refine bel_alloc ?_ _)
        · go_wp2
          refine bodyPost_ret (v := .tuple #[.agg #[.bool false, .bool false, .bool false, .bool false, .int .i64 0], .bool false]) (by simp [results, Try.results69, go_sem]) rfl ⟨rfl, ?_⟩
          repeat (first | exact Below.refl _ _ | refine bel_alloc ?_ _)
      have ho : okE z = (!anyB z [10, 11, 12, 13, 14, 15] && formE true (bitB z 1) (bitB z 2) (bitB z 3) (z / 16 % 64)) := by simp [okE, hw, hb]
      have hv : vE z = okE z := by simp [vE, hb]
      have := goal _ _ rfl rfl
      rw [← ho] at this
      rw [rE, xE, lE, pE, hv]
      exact this
set_option maxHeartbeats 2000000 in
theorem eReadContext_any (z : Int) (w : World) :
    Calls Try.prog 56 #[.int .i64 z] w fun e w' => e = .returned (.tuple #[.agg #[.bool (vC z), .bool (aC z), .int .i64 (pC z)], .bool (okC z)]) ∧ Below w.heap.size w w' := by
  cases hw : wordB z
  · have ho : okC z = false := by simp [okC, hw]
    have hv : vC z = false := by simp [vC, ho]
    rw [ho, hv, show aC z = false by simp [aC, hv], show pC z = 0 by simp [pC, hv]]
    go_enter Try.func56, Try.ntmps56
    go_wp2_with fail
    refine (eIsWord_any _ _).mono ?_
    rintro e w1 ⟨rfl, rfl⟩
    rw [hw]
    go_wp2
    refine bodyPost_ret (v := .tuple #[.agg #[.bool false, .bool false, .int .i64 0], .bool false]) (by simp [results, Try.results56, go_sem]) rfl ⟨rfl, ?_⟩
    exact bel_alloc (Below.refl _ _) _
  · obtain ⟨h0, h1⟩ : 0 ≤ z ∧ z ≤ 65535 := by simpa [wordB] using hw
    cases hb : bitB z 0
    · have ho : okC z = true := by simp [okC, hw, hb]
      have hv : vC z = false := by simp [vC, hb]
      rw [ho, hv, show aC z = false by simp [aC, hv], show pC z = 0 by simp [pC, hv]]
      go_enter Try.func56, Try.ntmps56
      go_wp2_with fail
      refine (eIsWord_any _ _).mono ?_
      rintro e w1 ⟨rfl, rfl⟩
      rw [hw]
      go_wp2_with fail
      refine (has_any _ _ [0] _ h0 h1 (sl_block (by repeat (first | (refine heap_at ?_; simp; done) | (refine heap_past ?_ ?_; · (simp; try omega)))) rfl rfl (by simp [maxLen])) (by decide)).mono ?_
      rintro e w1 ⟨rfl, rfl⟩
      rw [show anyB z [0] = false from (any_one z 0).trans hb]
      go_wp2
      refine bodyPost_ret (v := .tuple #[.agg #[.bool false, .bool false, .int .i64 0], .bool true]) (by simp [results, Try.results56, go_sem]) rfl ⟨rfl, ?_⟩
      exact bel_alloc (bel_alloc (Below.refl _ _) _) _
    · have goal : ∀ hi fo : Bool, anyB z [2, 3, 10, 11, 12, 13, 14, 15] = hi → formC true (bitB z 1) (z / 16 % 64) = fo →
          Calls Try.prog 56 #[.int .i64 z] w fun e w' => e = .returned (.tuple #[.agg #[.bool (!hi && fo), .bool ((!hi && fo) && bitB z 1), .int .i64 (if !hi && fo then z / 16 % 64 else 0)], .bool (!hi && fo)]) ∧ Below w.heap.size w w' := by
        intro hi fo hhi hfo
        go_enter Try.func56, Try.ntmps56
        go_wp2_with fail
        refine (eIsWord_any _ _).mono ?_
        rintro e w1 ⟨rfl, rfl⟩
        rw [hw]
        go_wp2_with fail
        refine (has_any _ _ [0] _ h0 h1 (sl_block (by repeat (first | (refine heap_at ?_; simp; done) | (refine heap_past ?_ ?_; · (simp; try omega)))) rfl rfl (by simp [maxLen])) (by decide)).mono ?_
        rintro e w1 ⟨rfl, rfl⟩
        rw [show anyB z [0] = true from (any_one z 0).trans hb]
        go_wp2_with fail
        refine (has_any _ _ [1] _ h0 h1 (sl_block (by repeat (first | (refine heap_at ?_; simp; done) | (refine heap_past ?_ ?_; · (simp; try omega)))) rfl rfl (by simp [maxLen])) (by decide)).mono ?_
        rintro e w1 ⟨rfl, rfl⟩
        rw [show anyB z [1] = bitB z 1 from any_one z 1]
        go_wp2_with fail
        refine (pageOf_any _ _ h0 h1).mono ?_
        rintro e w1 ⟨rfl, rfl⟩
        go_wp2_with fail
        refine (has_any _ _ [2, 3, 10, 11, 12, 13, 14, 15] _ h0 h1 (sl_block (by repeat (first | (refine heap_at ?_; simp; done) | (refine heap_past ?_ ?_; · (simp; try omega)))) rfl rfl (by simp [maxLen])) (by decide)).mono ?_
        rintro e w1 ⟨rfl, rfl⟩
        rw [hhi]
        cases hi
        · go_wp2_with fail
          refine (isContext_any _ _ _ _).mono ?_
          rintro e w1 ⟨rfl, o1, rfl⟩
          rw [hfo]
          cases fo
          · go_wp2
            refine bodyPost_ret (v := .tuple #[.agg #[.bool false, .bool false, .int .i64 0], .bool false]) (by simp [results, Try.results56, go_sem]) rfl ⟨rfl, ?_⟩
            repeat (first | exact Below.refl _ _ | refine bel_alloc ?_ _)
          · go_wp2
            refine bodyPost_ret (v := .tuple #[.agg #[.bool true, .bool (bitB z 1), .int .i64 (z / 16 % 64)], .bool true]) (by simp [results, Try.results56, go_sem]) rfl ⟨rfl, ?_⟩
            repeat (first | exact Below.refl _ _ | refine bel_alloc ?_ _)
        · go_wp2
          refine bodyPost_ret (v := .tuple #[.agg #[.bool false, .bool false, .int .i64 0], .bool false]) (by simp [results, Try.results56, go_sem]) rfl ⟨rfl, ?_⟩
          repeat (first | exact Below.refl _ _ | refine bel_alloc ?_ _)
      have ho : okC z = (!anyB z [2, 3, 10, 11, 12, 13, 14, 15] && formC true (bitB z 1) (z / 16 % 64)) := by simp [okC, hw, hb]
      have hv : vC z = okC z := by simp [vC, hb]
      have := goal _ _ rfl rfl
      rw [← ho] at this
      rw [aC, pC, hv]
      exact this
theorem hi_six (z : Int) (h0 : 0 ≤ z) (h1 : z ≤ 65535) : anyB z [10, 11, 12, 13, 14, 15] = decide (1024 ≤ z) := by
  rw [Bool.eq_iff_iff]
  simp [anyB, bitB]
  omega
theorem hi_eight (z : Int) (h0 : 0 ≤ z) (h1 : z ≤ 65535) : anyB z [2, 3, 10, 11, 12, 13, 14, 15] = (bitB z 2 || bitB z 3 || decide (1024 ≤ z)) := by
  rw [Bool.eq_iff_iff]
  simp [anyB, bitB]
  omega
def Blk (w : World) (n : Nat) (cs : Array Value) : Prop := ∃ t fr, w.heap[n]? = some (.cells cs t fr)
theorem Blk.lt {w : World} {n : Nat} {cs : Array Value} (h : Blk w n cs) : n < w.heap.size := by
  obtain ⟨t, fr, h⟩ := h
  rcases Nat.lt_or_ge n w.heap.size with k | k
  · exact k
  · rw [Array.getElem?_eq_none k] at h; exact absurd h (by simp)
theorem Blk.keep {w w' : World} {n : Nat} {cs : Array Value} (h : Blk w n cs) (hb : Below w.heap.size w w') : Blk w' n cs := by
  have hl := h.lt
  obtain ⟨t, fr, h⟩ := h
  exact ⟨t, fr, by rw [hb.block n hl]; exact h⟩
theorem Blk.new (w : World) (cs : Array Value) (t : TypeId) (fr : Nat × Nat) : Blk (w.alloc (.cells cs t fr)) w.heap.size cs := ⟨t, fr, heap_at rfl⟩
theorem Blk.newAt {w : World} {n : Nat} (h : n = w.heap.size) (cs : Array Value) (t : TypeId) (fr : Nat × Nat) : Blk (w.alloc (.cells cs t fr)) n cs := ⟨t, fr, heap_at h⟩
theorem Blk.past {w : World} {n : Nat} {cs : Array Value} (h : Blk w n cs) (o : Obj) : Blk (w.alloc o) n cs := h.keep (bel_alloc (Below.refl _ _) _)
theorem Blk.cell {w : World} {n : Nat} {cs : Array Value} (h : Blk w n cs) (i : Nat) : w.cell? ⟨n, i, none⟩ = cs[i]? := by
  obtain ⟨t, fr, h⟩ := h
  exact cell_of_row w n i cs t fr h
theorem Blk.five {w : World} {n : Nat} {a b c d e : Value} (h : Blk w n #[a, b, c, d, e]) :
    w.cell? ⟨n, 0, none⟩ = some a ∧ w.cell? ⟨n, 1, none⟩ = some b ∧ w.cell? ⟨n, 2, none⟩ = some c ∧ w.cell? ⟨n, 3, none⟩ = some d ∧ w.cell? ⟨n, 4, none⟩ = some e :=
  ⟨h.cell 0, h.cell 1, h.cell 2, h.cell 3, h.cell 4⟩
theorem bel_set5 {a w : World} {n : Nat} (hp : a.heap.size ≤ n) (h : Below a.heap.size a w) (u0 u1 u2 u3 u4 : Value) :
    Below a.heap.size a (((((w.setCell ⟨n, 0, none⟩ u0).setCell ⟨n, 1, none⟩ u1).setCell ⟨n, 2, none⟩ u2).setCell ⟨n, 3, none⟩ u3).setCell ⟨n, 4, none⟩ u4) :=
  ((((h.setCell (p := ⟨n, 0, none⟩) hp u0).setCell (p := ⟨n, 1, none⟩) hp u1).setCell (p := ⟨n, 2, none⟩) hp u2).setCell (p := ⟨n, 3, none⟩) hp u3).setCell (p := ⟨n, 4, none⟩) hp u4
theorem bel_set {a w : World} {p : Addr} (hp : a.heap.size ≤ p.block) (h : Below a.heap.size a w) (u : Value) : Below a.heap.size a (w.setCell p u) := h.setCell hp u
theorem below_drew {a w : World} (h : Below a.heap.size a w) : Below a.heap.size a w.drew := h.drew
theorem blk_set5 {w : World} {n : Nat} {t : TypeId} {a0 a1 a2 a3 a4 : Value} (h : w.heap[n]? = some (.cells #[a0, a1, a2, a3, a4] t (0, 0))) (u0 u1 u2 u3 u4 : Value) :
    Blk (((((w.setCell ⟨n, 0, none⟩ u0).setCell ⟨n, 1, none⟩ u1).setCell ⟨n, 2, none⟩ u2).setCell ⟨n, 3, none⟩ u3).setCell ⟨n, 4, none⟩ u4) n #[u0, u1, u2, u3, u4] := by
  have h0 := heap_setCell_same w n 0 _ t u0 h
  have h1 := heap_setCell_same _ n 1 _ t u1 h0
  have h2 := heap_setCell_same _ n 2 _ t u2 h1
  have h3 := heap_setCell_same _ n 3 _ t u3 h2
  have h4 := heap_setCell_same _ n 4 _ t u4 h3
  exact ⟨t, (0, 0), h4⟩
theorem heap_kept {W w1 : World} {n : Nat} {x : Option Obj} (hb : Below W.heap.size W w1) (hl : n < W.heap.size) (h : W.heap[n]? = x) : w1.heap[n]? = x := by rw [hb.block n hl]; exact h
theorem Sl.open512 {w : World} {v : Value} {zs : List Int} (h : Sl w v zs) (hn : zs.length = 512) : ∃ b o cap, v = .slice (some ⟨b, o, none⟩) 512 cap ∧ b < w.heap.size ∧ ∀ i, i < 512 → w.cell? ⟨b, o + i, none⟩ = some (.int .i64 (nth zs i)) := by
  obtain ⟨a, cap, rfl, hl, h⟩ := h
  rcases h with rfl | ⟨b, o, rfl, hb, hc⟩
  · simp at hn
  · exact ⟨b, o, cap, by rw [hn], hb, fun i hi => hc i (by omega)⟩
def zeroCells : Array Value := madeCells #[.int .i64 0] 512
def zeros : List Int := List.replicate 512 0
theorem zeroCells_list : zeroCells.toList = zeros.map (fun z => Value.int .i64 z) := by
  unfold zeroCells zeros
  rw [toList_madeCells_one, List.map_replicate]
theorem zeros_length : zeros.length = 512 := List.length_replicate
theorem infoInt : ∃ i, Try.prog.info? 3 = some i ∧ i.zero = some (.int .i64 0) ∧ i.size = 1 ∧ i.bytes = 8 := by
  have h : (Try.prog.info? 3).map (fun i => (i.zero, i.size, i.bytes)) = some (some (.int .i64 0), 1, 8) := by kernel_rfl
  cases hi : Try.prog.info? 3 with
  | none => rw [hi] at h; simp at h
  | some i => rw [hi] at h; simp at h; exact ⟨i, rfl, h.1, h.2.1, h.2.2⟩
theorem make512 (w : World) : (Instr.makeSlice 28 (.int .i64 512) (.int .i64 512)).run Try.prog w = .ok (.slice (some ⟨w.heap.size, 0, none⟩) 512 512) (w.alloc (.cells zeroCells 3)) := by
  obtain ⟨i, hi, hz, hs, hb⟩ := infoInt
  have h := run_make (P := Try.prog) w 28 3 i _ Try.underlying28 hi hz .i64 .i64 512 512 (by decide) (by decide) (by rw [hb]; decide) (by decide)
  rw [hs] at h
  exact h
end Go.Proofs.Ythlhocneggcekaa
