/-
  Laid together: MRow, MHapR, MCopy, MCheck, MRows.
-/
import Derived.Test.YthlhocneggcekaaGreatB1
import Derived.Test.YthlhocneggcekaaGreatB2
import Derived.Test.YthlhocneggcekaaGreatB3
import Derived.Test.YthlhocneggcekaaGreatB4
import Derived.Test.YthlhocneggcekaaGreatB5
import Derived.Test.YthlhocneggcekaaGreatB6
import Derived.Test.YthlhocneggcekaaGreatB7
import Derived.Test.YthlhocneggcekaaGreatB8
import Derived.Test.YthlhocneggcekaaGreatB9
import Derived.Test.YthlhocneggcekaaGreatB10
import Derived.Test.YthlhocneggcekaaGreatB11
import Derived.Test.YthlhocneggcekaaGreatB12
import Derived.Test.YthlhocneggcekaaGreatB13
import Derived.Test.YthlhocneggcekaaGreatB14
import Derived.Test.YthlhocneggcekaaGreatB15
import Derived.Test.YthlhocneggcekaaGreatB16
import Derived.Test.YthlhocneggcekaaGreatB17
import Derived.Test.YthlhocneggcekaaGreatB18
import Derived.Test.YthlhocneggcekaaGreatB19
import Derived.Test.YthlhocneggcekaaGreatB20
import Derived.Test.YthlhocneggcekaaGreatB21
import Derived.Test.YthlhocneggcekaaGreatB22
import Derived.Test.YthlhocneggcekaaGreatB23
import Derived.Test.YthlhocneggcekaaGreatB24
import Derived.Test.YthlhocneggcekaaGreatB25
import Derived.Test.YthlhocneggcekaaGreatB26
import Derived.Test.YthlhocneggcekaaGreatB27
import Derived.Test.YthlhocneggcekaaGreatB28
import Derived.Test.YthlhocneggcekaaGreatB29
import Derived.Test.YthlhocneggcekaaGreatB30
import Derived.Test.YthlhocneggcekaaGreatB31
import Derived.Test.YthlhocneggcekaaGreatB32
import Derived.Test.YthlhocneggcekaaGreatB33
import Derived.Test.YthlhocneggcekaaGreatB34
import Derived.Test.YthlhocneggcekaaGreatB35
import Derived.Test.YthlhocneggcekaaGreatB36
import Derived.Test.YthlhocneggcekaaGreatB37
import Derived.Test.YthlhocneggcekaaGreatB38
import Derived.Maps.OwnOps
import Derived.Maps.OwnSet
import Derived.Deep.AppendLies
import Derived.Deep.RegionWith
import Derived.LoopN
import Derived.Deep.CutRange
import Derived.Deep.RegionHeld3
import Derived.Test.YthlhocneggcekaaGreatRows
import Derived.WalkKit
import Derived.WalkSpells
import Derived.WalkLawsBesides
import Derived.Below
import Derived.WalkSmall
import Derived.Deep.QuietTactic
import Derived.BigQuiet
import Derived.Deep.Draws
import Derived.Deep.RegionHeld
import Derived.Deep.DrawnRows
import Derived.Laws.CopyOwn
import Derived.Deep.RegionLaw
import Derived.Lib.AppendZerosOnto
import Derived.Lib.SliceRun
namespace Go.Proofs.YthlhocneggcekaaGreat
open Go.RowKit
theorem infoTo : (Tryz.prog.info? 40).map (·.size) = some 4 := by kernel_rfl
theorem infoH : (Tryz.prog.info? 37).map (·.size) = some 7 := by kernel_rfl
theorem Box.loadT {w : World} {n : Nat} {t : TypeId} {cs : Array Value} (h : Box w n t cs) (hs : cs.size = 4) : (loadVar 40 ⟨n, 0, none⟩).run Tryz.prog w = .ok (.agg cs) w :=
  run_loadVar_row w n t 40 cs (0, 0) _ h Tryz.underlying40 rfl (by rw [infoTo, hs])
theorem Box.loadH {w : World} {n : Nat} {t : TypeId} {cs : Array Value} (h : Box w n t cs) (hs : cs.size = 7) : (loadVar 37 ⟨n, 0, none⟩).run Tryz.prog w = .ok (.agg cs) w :=
  run_loadVar_row w n t 37 cs (0, 0) _ h Tryz.underlying37 rfl (by rw [infoH, hs])
theorem KeptB.setRow {may : Nat → Prop} {a w : World} (h : KeptB may a w) {n : Nat} (hp : may n ∨ a.heap.size ≤ n) (new : Array Value) : KeptB may a (w.setRow n new) :=
  ⟨h.os, h.tape, h.output, by simpa [World.setRow] using h.size, fun k hk hm => (setRow_other w n k new (fun e => by
    subst e
    rcases hp with hp | hp
    · exact hm hp
    · omega)).trans (h.block k hk hm)⟩
theorem step_store_row {w : World} {ops : Array Oper} {o : Oper} {a : Act} {K : Act → World → Prop} {Q : Exit → Act → World → Prop} {E : Prop} (hgd : o.guard = none) (ty : TypeId) (x y : Operand) (ho : o.op = .store ty x y)
    (g : Nat) (cells : Array Value) (hx : a.eval x = .pointer (some ⟨g, 0, none⟩)) (hy : a.eval y = .agg cells) (t : TypeId) (old : Array Value) (hg : Box w g t old) (hi : (Tryz.prog.info? ty).map (·.size) = some cells.size)
    (hold : old.size = cells.size) (h1 : cells.all (·.oneCell') = true) (h : K (a.put o.dst undef) (w.setRow g cells)) :
    if Region.wanted o (yielded ops a.tmps) = true then Oper.wp Tryz.prog o a w K Q else E := by
  have hw : Region.wanted o (yielded ops a.tmps) = true := by simp [Region.wanted, hgd]
  rw [if_pos hw]
  exact wp_store_row ty x y ho g cells hx hy t old hg hi hold h1 h
section
open Go
variable {P : Program} {ops : Array Oper} {Q : Exit → Act → World → Prop} {md : Region.Mode} {S : World → Prop}
theorem wpHeld_threeL {i j k : Nat} {o o2 o3 : Oper} {n : Nat} {listed : Array Bool} {a : Act} {w : World} (hr : Region.ready md ops listed = [i, j, k]) (ho : opL ops.toList i = some o) (ho2 : opL ops.toList j = some o2) (ho3 : opL ops.toList k = some o3)
    (h : ∀ K' : Act → World → Prop, Shut (∀ a w, S w → (S w → wpAnyH P md ops Q S n (listed.setIfInBounds i true) a w) → K' a w) → if Region.wanted o (yielded ops a.tmps) = true then Oper.wp P o a w K' Q else K' (a.put o.dst undef) w)
    (h2 : ∀ K' : Act → World → Prop, Shut (∀ a w, S w → (S w → wpAnyH P md ops Q S n (listed.setIfInBounds j true) a w) → K' a w) → if Region.wanted o2 (yielded ops a.tmps) = true then Oper.wp P o2 a w K' Q else K' (a.put o2.dst undef) w)
    (h3 : ∀ K' : Act → World → Prop, Shut (∀ a w, S w → (S w → wpAnyH P md ops Q S n (listed.setIfInBounds k true) a w) → K' a w) → if Region.wanted o3 (yielded ops a.tmps) = true then Oper.wp P o3 a w K' Q else K' (a.put o3.dst undef) w) :
    wpAnyH P md ops Q S (n + 1) listed a w := wpAnyH_ready hr (by simp) (AllReadyH.cons (opL_spec ho) h (AllReadyH.cons (opL_spec ho2) h2 (AllReadyH.cons (opL_spec ho3) h3 AllReadyH.nil)))
end
def IsT (w : World) (t : To) (cs : Array Value) : Prop := ∃ a4 n4 c4 a5 n5 c5, cs = #[.bool t.done, .slice a4 n4 c4, J t.f, .slice a5 n5 c5] ∧ Sl w (.slice a4 n4 c4) t.dat ∧ Ts w (.slice a5 n5 c5) t.tch
def IsH (w : World) (x : Hp) (cs : Array Value) : Prop := ∃ a6 n6 c6, cs = #[J x.kind, J x.num, J x.d, J x.a, J x.n, .bool x.wr, .slice a6 n6 c6] ∧ Sl w (.slice a6 n6 c6) x.ds
def OffRow (bad : Nat → Prop) (cs : Array Value) : Prop := ∀ (i : Nat) (v : Value), cs[i]? = some v → Off bad v
theorem OffRow.less {a b : Nat → Prop} {cs : Array Value} (h : OffRow b cs) (k : ∀ q, a q → b q) : OffRow a cs := fun i v hv => (h i v hv).less k
theorem IsH.size {w : World} {x : Hp} {cs : Array Value} (h : IsH w x cs) : cs.size = 7 ∧ cs.all (·.oneCell') = true := by
  obtain ⟨a6, n6, c6, rfl, -⟩ := h; exact ⟨rfl, by simp [Value.oneCell']⟩
theorem IsH.keep {w w' : World} {x : Hp} {cs : Array Value} (h : IsH w x cs) (hb : Below w.heap.size w w') : IsH w' x cs := by
  obtain ⟨a6, n6, c6, rfl, h1⟩ := h; exact ⟨a6, n6, c6, rfl, h1.keep hb⟩
theorem IsM.kept {bad may : Nat → Prop} {w w' : World} {m : Mc} {cs : Array Value} (h : IsM w m cs) (k : KeptB may w w') (o : OffRow bad cs) (hm : ∀ q, may q → bad q) : IsM w' m cs := by
  obtain ⟨a1, n1, c1, a2, n2, c2, a3, n3, c3, rfl, h1, h2, h3⟩ := h
  exact ⟨a1, n1, c1, a2, n2, c2, a3, n3, c3, rfl, h1.kept k (fun q hq hb => o 0 _ rfl q hq (hm q hb)), h2.kept k (fun q hq hb => o 2 _ rfl q hq (hm q hb)), h3.kept k (fun q hq hb => o 6 _ rfl q hq (hm q hb))⟩
theorem IsT.kept {bad may : Nat → Prop} {w w' : World} {t : To} {cs : Array Value} (h : IsT w t cs) (k : KeptB may w w') (o : OffRow bad cs) (hm : ∀ q, may q → bad q) : IsT w' t cs := by
  obtain ⟨a4, n4, c4, a5, n5, c5, rfl, h1, h2⟩ := h
  exact ⟨a4, n4, c4, a5, n5, c5, rfl, h1.kept k (fun q hq hb => o 1 _ rfl q hq (hm q hb)), h2.kept k (fun q hq hb => o 3 _ rfl q hq (hm q hb))⟩
def zeroM : Array Value := #[.slice none 0 0, J 0, .slice none 0 0, .bool false, J 0, J 0, .slice none 0 0, J 0, J 0, J 0, .bool false, J 0, J 0, J 0, J 0, .bool false]
def zeroT : Array Value := #[.bool false, .slice none 0 0, J 0, .slice none 0 0]
theorem isM_zero (w : World) : IsM w M0 zeroM := ⟨none, 0, 0, none, 0, 0, none, 0, 0, rfl, Sl.nil _ none 0, Sl.nil _ none 0, Ls.nothing _⟩
theorem isT_zero (w : World) : IsT w T0 zeroT := ⟨none, 0, 0, none, 0, 0, rfl, Sl.nil _ none 0, Ts.nothing _⟩
theorem off_int (bad : Nat → Prop) (k : IntKind) (z : Int) : Off bad (.int k z) := fun q hq => by simp [Value.ownBlock] at hq
theorem off_bool (bad : Nat → Prop) (b : Bool) : Off bad (.bool b) := fun q hq => by simp [Value.ownBlock] at hq
theorem offRow_mk {bad : Nat → Prop} {cs : Array Value} (h : ∀ v ∈ cs.toList, Off bad v) : OffRow bad cs := fun i v hv => h v (by
  rw [← Array.getElem?_toList] at hv
  exact List.mem_of_getElem? hv)
theorem offM {bad : Nat → Prop} {v u l : Value} {p i0 i1 i3 i4 i5 i7 i8 i9 i10 : Int} {d b6 b11 : Bool} (h1 : Off bad v) (h2 : Off bad u) (h3 : Off bad l) :
    OffRow bad #[v, J p, u, .bool d, J i0, J i1, l, J i3, J i4, J i5, .bool b6, J i7, J i8, J i9, J i10, .bool b11] := offRow_mk (by
  intro x hx
  simp only [List.mem_cons, List.not_mem_nil, or_false] at hx
  rcases hx with rfl | rfl | rfl | rfl | rfl | rfl | rfl | rfl | rfl | rfl | rfl | rfl | rfl | rfl | rfl | rfl
  all_goals first | assumption | exact off_int _ _ _ | exact off_bool _ _)
theorem offT {bad : Nat → Prop} {v u : Value} {f : Int} {d : Bool} (h1 : Off bad v) (h2 : Off bad u) : OffRow bad #[.bool d, v, J f, u] := offRow_mk (by
  intro x hx
  simp only [List.mem_cons, List.not_mem_nil, or_false] at hx
  rcases hx with rfl | rfl | rfl | rfl
  all_goals first | assumption | exact off_int _ _ _ | exact off_bool _ _)
theorem off_zeroM (bad : Nat → Prop) : OffRow bad zeroM := offM (Off.none _ _ _) (Off.none _ _ _) (Off.none _ _ _)
theorem off_zeroT (bad : Nat → Prop) : OffRow bad zeroT := offT (Off.none _ _ _) (Off.none _ _ _)
def HapRow (bad : Nat → Prop) (m : Mc) (x : Hp) (w' : World) (cs1 cs2 : Array Value) : Prop :=
  (cs1.size = 16 ∧ cs1.all (·.oneCell') = true) ∧ (cs2.size = 4 ∧ cs2.all (·.oneCell') = true) ∧ (hpE m x = 0 → IsM w' (hpR m x).1 cs1 ∧ IsT w' (hpR m x).2 cs2 ∧ OffRow bad cs1 ∧ OffRow bad cs2)
theorem HapRow.kept {bad may : Nat → Prop} {m : Mc} {x : Hp} {w w' : World} {cs1 cs2 : Array Value} (h : HapRow bad m x w cs1 cs2) (k : KeptB may w w') (hm : ∀ q, may q → bad q) : HapRow bad m x w' cs1 cs2 :=
  ⟨h.1, h.2.1, fun h0 => by obtain ⟨h1, h2, o1, o2⟩ := h.2.2 h0; exact ⟨h1.kept k o1 hm, h2.kept k o2 hm, o1, o2⟩⟩
theorem HapRow.less {a b : Nat → Prop} {m : Mc} {x : Hp} {w : World} {cs1 cs2 : Array Value} (h : HapRow b m x w cs1 cs2) (k : ∀ q, a q → b q) : HapRow a m x w cs1 cs2 :=
  ⟨h.1, h.2.1, fun h0 => by obtain ⟨h1, h2, o1, o2⟩ := h.2.2 h0; exact ⟨h1, h2, o1.less k, o2.less k⟩⟩
theorem mHap_row {m : Mc} {x : Hp} {cs ch : Array Value} {bad : Nat → Prop} {w : World} (hm : IsM w m cs) (hx : IsH w x ch) (hE : chkM m = 0) (hN : ∀ q, bad q → q < w.heap.size) (ho : OffRow bad cs) :
    Calls Tryz.prog 35 #[.agg cs, .agg ch] w fun e w' => ∃ cs1 cs2, e = .returned (.tuple #[.agg cs1, .agg cs2, J (hpE m x)]) ∧ HapRow bad m x w' cs1 cs2 ∧ Below w.heap.size w w' := by
  obtain ⟨zs, ⟨p, r, d⟩, ⟨mo, ba, l, op, oh, ot, st, fe, fp, fh, ft, lo⟩⟩ := m
  obtain ⟨kd, num, dv, a, ct, wr, ds⟩ := x
  obtain ⟨a1, n1, c1, a2, n2, c2, a3, n3, c3, rfl, h1, h2, h3⟩ := hm
  obtain ⟨a6, n6, c6, rfl, h6⟩ := hx
  refine (mHap_any _ zs p _ r d mo ba op oh ot fe fp fh ft st lo _ l kd num dv a ct wr _ ds bad w h1 h2 h3 h6 hE hN (ho 0 _ rfl) (ho 2 _ rfl) (ho 6 _ rfl)).mono ?_
  rintro e w' ⟨⟨a1, n1, c1, p1, a2, n2, c2, d1, mo1, ba1, a3, n3, c3, op1, oh1, ot1, st1, fe1, fp1, fh1, ft1, lo1, dn1, a4, n4, c4, f1, a5, n5, c5, rfl, hG⟩, hb⟩
  refine ⟨_, _, rfl, ⟨⟨rfl, by simp [Value.oneCell']⟩, ⟨rfl, by simp [Value.oneCell']⟩, fun h0 => ?_⟩, hb⟩
  obtain ⟨zs1, r1, l1, dat1, tch1, hR, s1, s2, s3, s4, s5, o1, o2, o3, o4, o5⟩ := hG h0
  rw [hR]
  exact ⟨⟨a1, n1, c1, a2, n2, c2, a3, n3, c3, rfl, s1, s2, s3⟩, ⟨a4, n4, c4, a5, n5, c5, rfl, s4, s5⟩, offM o1 o2 o3, offT o4 o5⟩
theorem Sl.open8 {w : World} {v : Value} {r : List Int} (h : Sl w v r) (hn : r.length = 8) : ∃ b o cap, v = .slice (some ⟨b, o, none⟩) 8 cap ∧ b < w.heap.size ∧ ∀ i, i < 8 → w.cell? ⟨b, o + i, none⟩ = some (J (nth r i)) := by
  obtain ⟨a, cap, rfl, hl, h⟩ := h
  rcases h with rfl | ⟨b, o, rfl, hb, hc⟩
  · simp at hn
  · exact ⟨b, o, cap, by rw [hn], hb, fun i hi => hc i (by omega)⟩
theorem copyRegs (w : World) (b o cap g : Nat) (zs : List Int) (cur : Array Value) (hn : zs.length = 8) (hg : w.heap[g]? = some (.cells cur 3 (0, 0))) (hcur : cur.size = 8)
    (hc : ∀ i, i < 8 → w.cell? ⟨b, o + i, none⟩ = some (J (nth zs i))) :
    ∃ w3, (Builtin.copy_ #[22, 22] 3 #[.slice (some ⟨g, 0, none⟩) 8 8, .slice (some ⟨b, o, none⟩) 8 cap]).run Tryz.prog w = .ok (J 8) w3 ∧ w3.heap[g]? = some (.cells (intCells zs) 3 (0, 0)) ∧
      (∀ k, k ≠ g → w3.heap[k]? = w.heap[k]?) ∧ w3.heap.size = w.heap.size ∧ Below g w w3 := by
  have hl : (zs.map (fun z => J z)).length = 8 := by simp [hn]
  have h := run_copy_row (P := Tryz.prog) w 22 22 3 3 g 0 8 8 ⟨b, o, none⟩ 8 cap cur 3 (zs.map (fun z => J z)) Tryz.underlying22 (by kernel_rfl) hg (by rw [hl]; rfl)
    (fun j v hv => by
      rw [List.getElem?_map] at hv
      by_cases hj : j < 8
      · rw [List.getElem?_eq_getElem (by omega)] at hv
        simp only [Option.map_some, Option.some.injEq] at hv
        have := hc j hj
        rw [← hv]
        have ha : Addr.add ⟨b, o, none⟩ j = ⟨b, o + j, none⟩ := by unfold Addr.add; split <;> simp_all
        rw [ha, this]
        simp [nth, hn, hj]
      · rw [List.getElem?_eq_none (by omega)] at hv
        simp at hv) (by rw [hl]; omega) (by
      intro v hv
      obtain ⟨z, _, rfl⟩ := List.mem_map.1 hv
      rfl)
  have hd : List.drop (0 + 8) cur.toList = [] := List.drop_of_length_le (by simp [hcur])
  rw [hl, hd, List.take_zero, List.nil_append, List.append_nil] at h
  exact ⟨_, h, setRow_heap w g _ _ _ _ hg, fun k hk => setRow_other w g k _ hk, by simp [World.setRow], ⟨rfl, rfl, rfl, by simp [World.setRow], fun k hk => setRow_other w g k _ (by omega)⟩⟩
def CpyA (W : World) (a b : Value) (wx : World) : Prop :=
  ∃ g1 g2, a = .slice (some ⟨g1, 0, none⟩) 512 512 ∧ b = .slice (some ⟨g2, 0, none⟩) 8 8 ∧ Box wx g1 3 zeroCells ∧ Box wx g2 3 zeroRegs ∧ ¬ g1 = g2 ∧ W.heap.size ≤ g1 ∧ W.heap.size ≤ g2 ∧ Below W.heap.size W wx
set_option maxRecDepth 10000 in
set_option maxHeartbeats 8000000 in
theorem mCopy_any (v : Value) (zs : List Int) (p : Int) (u : Value) (r : List Int) (d : Bool) (mo ba op oh ot fe fp fh ft : Int) (st lo : Bool) (vc : Value) (l : List Ln) (w : World) (hs : Sl w v zs) (hr : Sl w u r) (h : Ls w vc l) (hz : zs.length = 512) (h8 : r.length = 8) (h6 : l.length ≤ 6) :
    Calls Tryz.prog 36 #[.agg #[v, J p, u, .bool d, J mo, J ba, vc, J op, J oh, J ot, .bool st, J fe, J fp, J fh, J ft, .bool lo]] w fun e w' => ∃ g1 g2 g3, e = .returned (.agg #[.slice (some ⟨g1, 0, none⟩) 512 512, J p, .slice (some ⟨g2, 0, none⟩) 8 8, .bool d, J mo, J ba, .slice (some ⟨g3, 0, none⟩) l.length l.length, J op, J oh, J ot, .bool st, J fe, J fp, J fh, J ft, .bool lo]) ∧
      Sl w' (.slice (some ⟨g1, 0, none⟩) 512 512) zs ∧ Sl w' (.slice (some ⟨g2, 0, none⟩) 8 8) r ∧ Ls w' (.slice (some ⟨g3, 0, none⟩) l.length l.length) l ∧ w.heap.size ≤ g1 ∧ w.heap.size ≤ g2 ∧ w.heap.size ≤ g3 ∧ (g1 < w'.heap.size ∧ g2 < w'.heap.size ∧ g3 < w'.heap.size) ∧ Below w.heap.size w w' := by
  have HL : Hid (Ls w vc l) := h
  obtain ⟨va, vk, rfl, -⟩ := h.shape
  obtain ⟨b, o, cap, rfl, hb, hc⟩ := hs.open512 hz
  obtain ⟨rb, ro, rc, rfl, hrb, hrc⟩ := hr.open8 h8
  have HC : Hid (∀ i, i < 512 → w.cell? ⟨b, o + i, none⟩ = some (J (nth zs i))) := hc
  have HRC : Hid (∀ i, i < 8 → w.cell? ⟨rb, ro + i, none⟩ = some (J (nth r i))) := hrc
  have HN : Hid (zs.length = 512) := hz
  have H8 : Hid (r.length = 8) := h8
  have H6 : Hid (l.length ≤ 6) := h6
  obtain ⟨N, hN⟩ : ∃ N, N = l.length := ⟨_, rfl⟩
  have HK : Hid (N = l.length) := hN
  have hN6 : N ≤ 6 := by omega
  rw [← hN] at HL ⊢
  clear h hs hr hc hrc hz h8 h6 hN
  have X0 := (Box.newAt (w := w) (n := w.heap.size) rfl 33 #[.slice (some ⟨b, o, none⟩) 512 cap, J p, .slice (some ⟨rb, ro, none⟩) 8 rc, .bool d, J mo, J ba, .slice va N vk, J op, J oh, J ot, .bool st, J fe, J fp, J fh, J ft, .bool lo]).past (.cells #[.slice none 0 0, J 0, .slice none 0 0, .bool false, J 0, J 0, .slice none 0 0, J 0, J 0, J 0, .bool false, J 0, J 0, J 0, J 0, .bool false] 33)
  have X1 := Box.newAt (w := (w.alloc (.cells #[.slice (some ⟨b, o, none⟩) 512 cap, J p, .slice (some ⟨rb, ro, none⟩) 8 rc, .bool d, J mo, J ba, .slice va N vk, J op, J oh, J ot, .bool st, J fe, J fp, J fh, J ft, .bool lo] 33))) (n := w.heap.size + 1) (by simp) 33 #[.slice none 0 0, J 0, .slice none 0 0, .bool false, J 0, J 0, .slice none 0 0, J 0, J 0, J 0, .bool false, J 0, J 0, J 0, J 0, .bool false]
  have BW : Hid (Below w.heap.size w ((w.alloc (.cells #[.slice (some ⟨b, o, none⟩) 512 cap, J p, .slice (some ⟨rb, ro, none⟩) 8 rc, .bool d, J mo, J ba, .slice va N vk, J op, J oh, J ot, .bool st, J fe, J fp, J fh, J ft, .bool lo] 33)).alloc (.cells #[.slice none 0 0, J 0, .slice none 0 0, .bool false, J 0, J 0, .slice none 0 0, J 0, J 0, J 0, .bool false, J 0, J 0, J 0, J 0, .bool false] 33))) := bel_alloc (bel_alloc (Below.refl w.heap.size w) _) _
  have hsz : ((w.alloc (.cells #[.slice (some ⟨b, o, none⟩) 512 cap, J p, .slice (some ⟨rb, ro, none⟩) 8 rc, .bool d, J mo, J ba, .slice va N vk, J op, J oh, J ot, .bool st, J fe, J fp, J fh, J ft, .bool lo] 33)).alloc (.cells #[.slice none 0 0, J 0, .slice none 0 0, .bool false, J 0, J 0, .slice none 0 0, J 0, J 0, J 0, .bool false, J 0, J 0, J 0, J 0, .bool false] 33)).heap.size = w.heap.size + 1 + 1 := by simp
  go_enter Tryz.func36, Tryz.ntmps36
  go_upto_region 1 with fail
  generalize ((w.alloc (.cells #[.slice (some ⟨b, o, none⟩) 512 cap, J p, .slice (some ⟨rb, ro, none⟩) 8 rc, .bool d, J mo, J ba, .slice va N vk, J op, J oh, J ot, .bool st, J fe, J fp, J fh, J ft, .bool lo] 33)).alloc (.cells #[.slice none 0 0, J 0, .slice none 0 0, .bool false, J 0, J 0, .slice none 0 0, J 0, J 0, J 0, .bool false, J 0, J 0, J 0, J 0, .bool false] 33)) = W at *
  have HSZ : Hid (W.heap.size = w.heap.size + 1 + 1) := hsz
  clear hsz
  obtain ⟨⟨q0, q1, q2, q3⟩, ⟨g0, g1, g2, g3, g4, g5, g6, g7, g8, g9, g10, g11⟩, s0⟩ := X0.sixteen
  have hm := make512
  have hm8 := make8
  go_cut [3, 4] from 6 to 15 (fun a b wx => CpyA W a b wx)
  case first =>
    go_region
    all_goals
      go_wp2
      go_meet
      first
        | exact ⟨_, _, rfl, rfl, Box.past (Box.newAt rfl _ _) _, Box.newAt (by simp) _ _, by omega, by omega, by omega, bel_alloc (bel_alloc (Below.drew (Below.refl _ _)) _) _⟩
        | exact ⟨_, _, rfl, rfl, Box.newAt (by simp) _ _, Box.past (Box.newAt rfl _ _) _, by omega, by omega, by omega, bel_alloc (bel_alloc (Below.drew (Below.refl _ _)) _) _⟩
  case rest =>
    obtain ⟨m1, m2, rfl, rfl, G1, G2, n12, l1, l2, hB⟩ := hcut
    clear q0 q1 q2 q3 g0 g1 g2 g3 g4 g5 g6 g7 g8 g9 g10 g11 s0
    have X0 := X0.keep hB
    have X1 := X1.keep hB
    have BC : Hid (Below w.heap.size w wc) := bel_trans BW.out hB
    have hW := HSZ.out
    have t1 : m1 < wc.heap.size := G1.lt
    have t2 : m2 < wc.heap.size := G2.lt
    clear hB BW hm hm8
    obtain ⟨cur, hmk, hcs⟩ := makeLines wc N hN6
    have HCS : Hid (cur.size = N * 5) := hcs
    clear hcs
    obtain ⟨⟨q0, q1, q2, q3⟩, ⟨g0, g1, g2, g3, g4, g5, g6, g7, g8, g9, g10, g11⟩, s0⟩ := X0.sixteen
    go_upto_region 3 with fail
    clear q0 q1 q2 q3 g0 g1 g2 g3 g4 g5 g6 g7 g8 g9 g10 g11 s0
    have X0 := X0.past (.cells cur 52)
    have X1 := X1.past (.cells cur 52)
    have G1 := G1.past (.cells cur 52)
    have G2 := G2.past (.cells cur 52)
    have G3 : Box (wc.alloc (.cells cur 52)) wc.heap.size 52 cur := Box.newAt rfl _ _
    have BD : Hid (Below w.heap.size w (wc.alloc (.cells cur 52))) := bel_alloc BC.out _
    clear hmk BC
    generalize (wc.alloc (.cells cur 52)) = wd at *
    generalize wc.heap.size = m3 at *
    obtain ⟨we, hcp, hg, ho, hz, hb⟩ := copy_full wd b o cap m1 zs zeroCells HN.out G1 (by simp [zeroCells, size_madeCells]) (fun i hi => by rw [BD.out.cell (p := ⟨b, o + i, none⟩) (by dsimp only; omega)]; exact HC.out i hi)
    obtain ⟨⟨q0, q1, q2, q3⟩, ⟨g0, g1, g2, g3, g4, g5, g6, g7, g8, g9, g10, g11⟩, s0⟩ := X0.sixteen
    go_upto_region 4 with fail
    clear q0 q1 q2 q3 g0 g1 g2 g3 g4 g5 g6 g7 g8 g9 g10 g11 s0
    have X0 : Box we w.heap.size _ _ := (ho _ (by omega)).trans X0
    have X1 : Box we (w.heap.size + 1) _ _ := (ho _ (by omega)).trans X1
    have G1 : Box we m1 3 (intCells zs) := hg
    have G2 : Box we m2 _ _ := (ho _ (by omega)).trans G2
    have G3 : Box we m3 _ _ := (ho _ (by omega)).trans G3
    have BE : Hid (Below w.heap.size w we) := BD.out.trans (hb.mono (by omega))
    clear hcp hg ho hz hb BD
    obtain ⟨wf, hcp, hg, ho, hz, hb⟩ := copyRegs we rb ro rc m2 r zeroRegs H8.out G2 (by simp [zeroRegs, size_madeCells]) (fun i hi => by rw [BE.out.cell (p := ⟨rb, ro + i, none⟩) (by dsimp only; omega)]; exact HRC.out i hi)
    obtain ⟨⟨q0, q1, q2, q3⟩, ⟨g0, g1, g2, g3, g4, g5, g6, g7, g8, g9, g10, g11⟩, s0⟩ := X0.sixteen
    go_upto_region 5 with fail
    clear q0 q1 q2 q3 g0 g1 g2 g3 g4 g5 g6 g7 g8 g9 g10 g11 s0
    have X0 : Box wf w.heap.size _ _ := (ho _ (by omega)).trans X0
    have X1 : Box wf (w.heap.size + 1) _ _ := (ho _ (by omega)).trans X1
    have G1 : Box wf m1 3 (intCells zs) := (ho _ (by omega)).trans G1
    have G2 : Box wf m2 3 (intCells r) := hg
    have G3 : Box wf m3 _ _ := (ho _ (by omega)).trans G3
    have BF : Hid (Below w.heap.size w wf) := BE.out.trans (hb.mono (by omega))
    clear hcp hg ho hz hb BE
    obtain ⟨wg, hcp, hg, ho, hz, hb⟩ := copyLines wf 3 (.slice va N vk) m3 l cur G3 (by rw [HCS.out, HK.out]) (HL.out.keep BF.out)
    rw [← HK.out] at hcp
    obtain ⟨⟨q0, q1, q2, q3⟩, ⟨g0, g1, g2, g3, g4, g5, g6, g7, g8, g9, g10, g11⟩, s0⟩ := X0.sixteen
    go_upto_region 6 with fail
    clear q0 q1 q2 q3 g0 g1 g2 g3 g4 g5 g6 g7 g8 g9 g10 g11 s0
    have X0 : Box wg w.heap.size _ _ := (ho _ (by omega)).trans X0
    have X1 : Box wg (w.heap.size + 1) _ _ := (ho _ (by omega)).trans X1
    have G1 : Box wg m1 3 (intCells zs) := (ho _ (by omega)).trans G1
    have G2 : Box wg m2 3 (intCells r) := (ho _ (by omega)).trans G2
    have G3 : Box wg m3 52 (l.flatMap cellsL).toArray := hg
    have BG : Hid (Below w.heap.size w wg) := BF.out.trans (hb.mono (by omega))
    clear hcp hg ho hz hb BF
    have mk := X0.marksOf
    obtain ⟨⟨q0, q1, q2, q3⟩, ⟨g0, g1, g2, g3, g4, g5, g6, g7, g8, g9, g10, g11⟩, s0⟩ := X0.sixteen
    go_upto_region 7 with fail
    clear mk
    clear q0 q1 q2 q3 g0 g1 g2 g3 g4 g5 g6 g7 g8 g9 g10 g11 s0
    have X0 : Box (((wg.setCell ⟨w.heap.size, 0, none⟩ (.slice (some ⟨m1, 0, none⟩) 512 512)).setCell ⟨w.heap.size, 2, none⟩ (.slice (some ⟨m2, 0, none⟩) 8 8)).setCell ⟨w.heap.size, 6, none⟩ (.slice (some ⟨m3, 0, none⟩) N N)) w.heap.size 33 #[.slice (some ⟨m1, 0, none⟩) 512 512, J p, .slice (some ⟨m2, 0, none⟩) 8 8, .bool d, J mo, J ba, .slice (some ⟨m3, 0, none⟩) N N, J op, J oh, J ot, .bool st, J fe, J fp, J fh, J ft, .bool lo] := ((X0.set 0 _).set 2 _).set 6 _
    have X1 := ((X1.other (p := ⟨w.heap.size, 0, none⟩) (by dsimp only; omega) (.slice (some ⟨m1, 0, none⟩) 512 512)).other (p := ⟨w.heap.size, 2, none⟩) (by dsimp only; omega) (.slice (some ⟨m2, 0, none⟩) 8 8)).other (p := ⟨w.heap.size, 6, none⟩) (by dsimp only; omega) (.slice (some ⟨m3, 0, none⟩) N N)
    have G1 := ((G1.other (p := ⟨w.heap.size, 0, none⟩) (by dsimp only; omega) (.slice (some ⟨m1, 0, none⟩) 512 512)).other (p := ⟨w.heap.size, 2, none⟩) (by dsimp only; omega) (.slice (some ⟨m2, 0, none⟩) 8 8)).other (p := ⟨w.heap.size, 6, none⟩) (by dsimp only; omega) (.slice (some ⟨m3, 0, none⟩) N N)
    have G2 := ((G2.other (p := ⟨w.heap.size, 0, none⟩) (by dsimp only; omega) (.slice (some ⟨m1, 0, none⟩) 512 512)).other (p := ⟨w.heap.size, 2, none⟩) (by dsimp only; omega) (.slice (some ⟨m2, 0, none⟩) 8 8)).other (p := ⟨w.heap.size, 6, none⟩) (by dsimp only; omega) (.slice (some ⟨m3, 0, none⟩) N N)
    have G3 := ((G3.other (p := ⟨w.heap.size, 0, none⟩) (by dsimp only; omega) (.slice (some ⟨m1, 0, none⟩) 512 512)).other (p := ⟨w.heap.size, 2, none⟩) (by dsimp only; omega) (.slice (some ⟨m2, 0, none⟩) 8 8)).other (p := ⟨w.heap.size, 6, none⟩) (by dsimp only; omega) (.slice (some ⟨m3, 0, none⟩) N N)
    have BH : Hid (Below w.heap.size w (((wg.setCell ⟨w.heap.size, 0, none⟩ (.slice (some ⟨m1, 0, none⟩) 512 512)).setCell ⟨w.heap.size, 2, none⟩ (.slice (some ⟨m2, 0, none⟩) 8 8)).setCell ⟨w.heap.size, 6, none⟩ (.slice (some ⟨m3, 0, none⟩) N N))) := bel_set (p := ⟨w.heap.size, 6, none⟩) (Nat.le_refl _) (bel_set (p := ⟨w.heap.size, 2, none⟩) (Nat.le_refl _) (bel_set (p := ⟨w.heap.size, 0, none⟩) (Nat.le_refl _) BG.out _) _) _
    clear BG
    generalize (((wg.setCell ⟨w.heap.size, 0, none⟩ (.slice (some ⟨m1, 0, none⟩) 512 512)).setCell ⟨w.heap.size, 2, none⟩ (.slice (some ⟨m2, 0, none⟩) 8 8)).setCell ⟨w.heap.size, 6, none⟩ (.slice (some ⟨m3, 0, none⟩) N N)) = wh at *
    have K : ∀ (n : Nat) (t : TypeId) (cs : Array Value) (_ : ¬ n = w.heap.size + 1) (_ : Box wh n t cs) (w' : World) (_ : KeptB (fun q => q = w.heap.size + 1) wh w'), Box w' n t cs := fun n t cs hn hx w' hk => hx.kept hk hn
    have P1 : Hid (∀ w', KeptB (fun q => q = w.heap.size + 1) wh w' → Box w' m1 3 (intCells zs)) := fun w' hk => K m1 _ _ (by omega) G1 w' hk
    have P2 : Hid (∀ w', KeptB (fun q => q = w.heap.size + 1) wh w' → Box w' m2 3 (intCells r)) := fun w' hk => K m2 _ _ (by omega) G2 w' hk
    have P3 : Hid (∀ w', KeptB (fun q => q = w.heap.size + 1) wh w' → Ls w' (.slice (some ⟨m3, 0, none⟩) N N) l) := fun w' hk => by
      have q := ls_block (K m3 _ _ (by omega) G3 w' hk) H6.out
      rw [← HK.out] at q
      exact q
    have L3 : Hid (w.heap.size ≤ m1 ∧ w.heap.size ≤ m2 ∧ w.heap.size ≤ m3) := ⟨by omega, by omega, by omega⟩
    have PL : Hid (∀ w', KeptB (fun q => q = w.heap.size + 1) wh w' → m1 < w'.heap.size ∧ m2 < w'.heap.size ∧ m3 < w'.heap.size) := fun w' hk => ⟨Nat.lt_of_lt_of_le G1.lt hk.size, Nat.lt_of_lt_of_le G2.lt hk.size, Nat.lt_of_lt_of_le G3.lt hk.size⟩
    clear K G1 G2 G3 n12 l1 l2 hW t1 t2
    have mk := X1.marksOf
    obtain ⟨⟨q0, q1, q2, q3⟩, ⟨g0, g1, g2, g3, g4, g5, g6, g7, g8, g9, g10, g11⟩, s0⟩ := X0.sixteen
    obtain ⟨⟨y0, y1, y2, y3⟩, ⟨j0, j1, j2, j3, j4, j5, j6, j7, j8, j9, j10, j11⟩, s1⟩ := X1.sixteen
    clear X0 X1
    go_wp2
    refine bodyPost_ret (v := .agg #[.slice (some ⟨m1, 0, none⟩) 512 512, J p, .slice (some ⟨m2, 0, none⟩) 8 8, .bool d, J mo, J ba, .slice (some ⟨m3, 0, none⟩) N N, J op, J oh, J ot, .bool st, J fe, J fp, J fh, J ft, .bool lo]) (by simp [results, Tryz.results36, go_sem, *]) rfl ⟨m1, m2, m3, rfl, sl_block (P1.out _ ?_) (intCells_list zs) HN.out.symm (by rw [HN.out]; decide), sl_block (P2.out _ ?_) (intCells_list r) H8.out.symm (by rw [H8.out]; decide), P3.out _ ?_, L3.out.1, L3.out.2.1, L3.out.2.2, PL.out _ ?_, bel_set16 (by omega) BH.out _ _ _ _ _ _ _ _ _ _ _ _ _ _ _ _⟩
    all_goals (repeat (first | with_reducible exact KeptB.refl _ _ | (with_reducible refine KeptB.setCell ?_ ?_ _; rotate_left; (focus (dsimp only; omega)))))
set_option maxRecDepth 10000 in
set_option maxHeartbeats 4000000 in
theorem mCheck_any (v : Value) (zs : List Int) (p : Int) (u : Value) (r : List Int) (d : Bool) (mo ba op oh ot fe fp fh ft : Int) (st lo : Bool) (vc : Value) (l : List Ln) (w : World) (hs : Sl w v zs) (hr : Sl w u r) (h : Ls w vc l) :
    Calls Tryz.prog 14 #[.agg #[v, J p, u, .bool d, J mo, J ba, vc, J op, J oh, J ot, .bool st, J fe, J fp, J fh, J ft, .bool lo]] w fun e w' => e = .returned (J (chkM ⟨zs, ⟨p, r, d⟩, ⟨mo, ba, l, op, oh, ot, st, fe, fp, fh, ft, lo⟩⟩)) ∧ Below w.heap.size w w' := by
  have HM : Hid (Sl w v zs) := hs
  have HR : Hid (Sl w u r) := hr
  have HL : Hid (Ls w vc l) := h
  obtain ⟨a1, n1, c1, rfl⟩ : ∃ a k c, v = .slice a k c := let ⟨a, c, e, _⟩ := hs; ⟨a, _, c, e⟩
  obtain ⟨a2, n2, c2, rfl⟩ : ∃ a k c, u = .slice a k c := let ⟨a, c, e, _⟩ := hr; ⟨a, _, c, e⟩
  obtain ⟨ca, cc, rfl, -⟩ := h.shape
  obtain ⟨ck, hck⟩ : ∃ ck, ck = l.length := ⟨_, rfl⟩
  rw [← hck] at HL ⊢
  clear hs hr h hck
  have HT : Hid (chkM ⟨zs, ⟨p, r, d⟩, ⟨mo, ba, l, op, oh, ot, st, fe, fp, fh, ft, lo⟩⟩ = if chk zs = 0 then (if chkH ⟨p, r, d⟩ = 0 then chkB ⟨mo, ba, l, op, oh, ot, st, fe, fp, fh, ft, lo⟩ else chkH ⟨p, r, d⟩) else chk zs) := rfl
  have X0 := Box.newAt (w := w) (n := w.heap.size) rfl 33 #[.slice a1 n1 c1, J p, .slice a2 n2 c2, .bool d, J mo, J ba, .slice ca ck cc, J op, J oh, J ot, .bool st, J fe, J fp, J fh, J ft, .bool lo]
  have BW : Hid (Below w.heap.size w _) := bel_alloc (Below.refl w.heap.size w) (.cells #[.slice a1 n1 c1, J p, .slice a2 n2 c2, .bool d, J mo, J ba, .slice ca ck cc, J op, J oh, J ot, .bool st, J fe, J fp, J fh, J ft, .bool lo] 33)
  go_enter Tryz.func14, Tryz.ntmps14
  go_upto_region 1 with fail
  generalize (w.alloc (.cells #[.slice a1 n1 c1, J p, .slice a2 n2 c2, .bool d, J mo, J ba, .slice ca ck cc, J op, J oh, J ot, .bool st, J fe, J fp, J fh, J ft, .bool lo] 33)) = W at *
  obtain ⟨⟨q0, q1, q2, q3⟩, ⟨g0, g1, g2, g3, g4, g5, g6, g7, g8, g9, g10, g11⟩, s0⟩ := X0.sixteen
  go_wp2_with fail
  refine (check_any _ zs _ (HM.out.keep BW.out)).mono ?_
  rintro e w1 ⟨rfl, k1⟩
  have X0 := X0.keep k1
  have B1 : Hid (Below w.heap.size w w1) := bel_trans BW.out k1
  clear k1 BW
  clear q0 q1 q2 q3 g0 g1 g2 g3 g4 g5 g6 g7 g8 g9 g10 g11 s0
  obtain ⟨⟨q0, q1, q2, q3⟩, ⟨g0, g1, g2, g3, g4, g5, g6, g7, g8, g9, g10, g11⟩, s0⟩ := X0.sixteen
  obtain ⟨z1, hz1⟩ : ∃ z1, chk zs = z1 := ⟨_, rfl⟩
  rw [hz1] at HT ⊢
  clear hz1
  by_cases e1 : z1 = 0
  rotate_left
  · have q : (z1 != 0) = true := by simpa using e1
    have HF : Hid (chkM ⟨zs, ⟨p, r, d⟩, ⟨mo, ba, l, op, oh, ot, st, fe, fp, fh, ft, lo⟩⟩ = z1) := by show _ = _; rw [HT.out, if_neg e1]
    clear e1 HT
    go_wp2_with fail
    go_ret
    exact ⟨ret_int HF.out.symm, B1.out⟩
  subst e1
  rw [if_pos rfl] at HT
  go_wp2_with fail
  refine (hCheck_any p _ r d _ (HR.out.keep B1.out)).mono ?_
  rintro e w2 ⟨rfl, k2⟩
  have X0 := X0.keep k2
  have B2 : Hid (Below w.heap.size w w2) := bel_trans B1.out k2
  clear k2 B1
  clear q0 q1 q2 q3 g0 g1 g2 g3 g4 g5 g6 g7 g8 g9 g10 g11 s0
  obtain ⟨⟨q0, q1, q2, q3⟩, ⟨g0, g1, g2, g3, g4, g5, g6, g7, g8, g9, g10, g11⟩, s0⟩ := X0.sixteen
  obtain ⟨z2, hz2⟩ : ∃ z2, chkH ⟨p, r, d⟩ = z2 := ⟨_, rfl⟩
  rw [hz2] at HT ⊢
  clear hz2
  by_cases e2 : z2 = 0
  rotate_left
  · have q : (z2 != 0) = true := by simpa using e2
    have HF : Hid (chkM ⟨zs, ⟨p, r, d⟩, ⟨mo, ba, l, op, oh, ot, st, fe, fp, fh, ft, lo⟩⟩ = z2) := by show _ = _; rw [HT.out, if_neg e2]
    clear e2 HT
    go_wp2_with fail
    go_ret
    exact ⟨ret_int HF.out.symm, B2.out⟩
  subst e2
  rw [if_pos rfl] at HT
  go_wp2_with fail
  refine (bCheck_any mo ba op oh ot fe fp fh ft st lo _ l _ (HL.out.keep B2.out)).mono ?_
  rintro e w3 ⟨rfl, k3⟩
  rw [← HT.out]
  go_wp2_with fail
  go_ret
  exact ⟨rfl, bel_trans B2.out k3⟩
theorem mCheck_row {m : Mc} {cs : Array Value} {w : World} (hm : IsM w m cs) : Calls Tryz.prog 14 #[.agg cs] w fun e w' => e = .returned (J (chkM m)) ∧ Below w.heap.size w w' := by
  obtain ⟨zs, ⟨p, r, d⟩, ⟨mo, ba, l, op, oh, ot, st, fe, fp, fh, ft, lo⟩⟩ := m
  obtain ⟨a1, n1, c1, a2, n2, c2, a3, n3, c3, rfl, h1, h2, h3⟩ := hm
  exact mCheck_any _ zs p _ r d mo ba op oh ot fe fp fh ft st lo _ l w h1 h2 h3
theorem mCopy_row {m : Mc} {cs : Array Value} {w : World} (hm : IsM w m cs) (hE : chkM m = 0) : Calls Tryz.prog 36 #[.agg cs] w fun e w' => ∃ cs1, e = .returned (.agg cs1) ∧ IsM w' m cs1 ∧ OffRow (fun q => q < w.heap.size ∨ w'.heap.size ≤ q) cs1 ∧ Below w.heap.size w w' := by
  obtain ⟨zs, ⟨p, r, d⟩, ⟨mo, ba, l, op, oh, ot, st, fe, fp, fh, ft, lo⟩⟩ := m
  obtain ⟨a1, n1, c1, a2, n2, c2, a3, n3, c3, rfl, h1, h2, h3⟩ := hm
  obtain ⟨q1, q2, q3⟩ := chkM_ok hE
  refine (mCopy_any _ zs p _ r d mo ba op oh ot fe fp fh ft st lo _ l w h1 h2 h3 (chk_ok q1).1 (chkH_ok q2).1 (chkC_zero.1 (chkB_ok q3).2.2.2.1).1).mono ?_
  rintro e w' ⟨g1, g2, g3, rfl, s1, s2, s3, l1, l2, l3, ⟨u1, u2, u3⟩, hb⟩
  exact ⟨_, rfl, ⟨_, _, _, _, _, _, _, _, _, rfl, s1, s2, s3⟩, offM (fun q hq hb => by simp [Value.ownBlock] at hq; omega) (fun q hq hb => by simp [Value.ownBlock] at hq; omega) (fun q hq hb => by simp [Value.ownBlock] at hq; omega), hb⟩
theorem HapRow.of {bad : Nat → Prop} {m : Mc} {x : Hp} {w : World} {cs1 cs2 : Array Value} (h : HapRow bad m x w cs1 cs2) (h0 : hpE m x = 0) : IsM w (hpR m x).1 cs1 ∧ IsT w (hpR m x).2 cs2 ∧ OffRow bad cs1 ∧ OffRow bad cs2 := h.2.2 h0
theorem hpE_bad {m : Mc} (x : Hp) (h : ¬ chkM m = 0) : hpE m x = chkM m := by rw [hpE, if_neg h]
theorem hpR_bad {m : Mc} {x : Hp} (h : ¬ hpE m x = 0) : hpR m x = (M0, T0) := by rw [hpR, if_neg h]
abbrev DoC (m : Mc) (x : Hp) (w : World) (e : Ending) (w' : World) : Prop :=
  ∃ cs1 cs2, e = .returned (.tuple #[.agg cs1, .agg cs2, J (hpE m x)]) ∧ IsM w' (hpR m x).1 cs1 ∧ IsT w' (hpR m x).2 cs2 ∧ OffRow (fun q => q < w.heap.size) cs1 ∧ OffRow (fun q => q < w.heap.size) cs2 ∧ Below w.heap.size w w'
def DoA (m : Mc) (x : Hp) (w1 : World) (s8 s9 s10 : Value) (wx : World) : Prop :=
  ∃ n8 n9 cs1 cs2, s8 = .pointer (some ⟨n8, 0, none⟩) ∧ s9 = .pointer (some ⟨n9, 0, none⟩) ∧ s10 = J (hpE m x) ∧ w1.heap.size ≤ n8 ∧ w1.heap.size ≤ n9 ∧
    Box wx n8 33 cs1 ∧ Box wx n9 40 cs2 ∧ HapRow (fun q => q < w1.heap.size) m x wx cs1 cs2 ∧ Below w1.heap.size w1 wx
end Go.Proofs.YthlhocneggcekaaGreat
