/-
  AuditOwn holds, with no condition: with nothing remembered what a device touched within a page is fair by the machine that it was.
  Laid together: Open0, OpenA, AuditOwn.
-/
import Derived.Test.YthlhocneggcekaaGreatB1
import Derived.Test.YthlhocneggcekaaGreatB2
import Derived.Test.YthlhocneggcekaaGreatB3
import Derived.Test.YthlhocneggcekaaGreatB4
import Derived.Test.YthlhocneggcekaaGreatB5
import Derived.Test.YthlhocneggcekaaGreatB6
import Derived.Test.YthlhocneggcekaaGreatB7
import Derived.Test.YthlhocneggcekaaGreatB8
import Derived.Test.YthlhocneggcekaaGreatB9
import Derived.Test.YthlhocneggcekaaGreatB10
import Derived.Test.YthlhocneggcekaaGreatB11
import Derived.Test.YthlhocneggcekaaGreatB12
import Derived.Test.YthlhocneggcekaaGreatB13
import Derived.Test.YthlhocneggcekaaGreatB14
import Derived.Test.YthlhocneggcekaaGreatB15
import Derived.Test.YthlhocneggcekaaGreatB16
import Derived.Test.YthlhocneggcekaaGreatB17
import Derived.Test.YthlhocneggcekaaGreatB18
import Derived.Test.YthlhocneggcekaaGreatB19
import Derived.Test.YthlhocneggcekaaGreatB20
import Derived.Test.YthlhocneggcekaaGreatB21
import Derived.Test.YthlhocneggcekaaGreatB22
import Derived.Test.YthlhocneggcekaaGreatB23
import Derived.Test.YthlhocneggcekaaGreatB24
import Derived.Test.YthlhocneggcekaaGreatB25
import Derived.Test.YthlhocneggcekaaGreatB26
import Derived.Test.YthlhocneggcekaaGreatB27
import Derived.Test.YthlhocneggcekaaGreatB28
import Derived.Test.YthlhocneggcekaaGreatB29
import Derived.Test.YthlhocneggcekaaGreatB30
import Derived.Test.YthlhocneggcekaaGreatB31
import Derived.Test.YthlhocneggcekaaGreatB32
import Derived.Test.YthlhocneggcekaaGreatB33
import Derived.Test.YthlhocneggcekaaGreatB34
import Derived.Test.YthlhocneggcekaaGreatB35
import Derived.Test.YthlhocneggcekaaGreatB36
import Derived.Test.YthlhocneggcekaaGreatB37
import Derived.Test.YthlhocneggcekaaGreatB38
import Derived.Test.YthlhocneggcekaaGreatB39
import Derived.Test.YthlhocneggcekaaGreatB40
import Derived.Test.YthlhocneggcekaaGreatB41
import Derived.Test.YthlhocneggcekaaGreatB42
import Derived.Test.YthlhocneggcekaaGreatB43
import Derived.Test.YthlhocneggcekaaGreatB44
import Derived.Test.YthlhocneggcekaaGreatO1
import Derived.Test.YthlhocneggcekaaGreatO2
import Derived.Test.YthlhocneggcekaaGreatO3
import Derived.ProofKit
import Derived.OpenShut
import Derived.ShutString
import Derived.ChangeOld
namespace Go.Proofs.YthlhocneggcekaaGreat
open Go.ChangeShapes Go.WideShapes Go.ChangeAt Go.RowKit
theorem law_own : ownKnob Tryz.prog.godebug = none := by kernel_rfl
theorem law_laidOut : laidOutB Tryz.prog = true := by kernel_rfl
section
variable {H : Type} {enc : TypeId × Value → H} {W : World}
end
end Go.Proofs.YthlhocneggcekaaGreat
namespace Go.Proofs.YthlhocneggcekaaGreat
open Go.ChangeShapes Go.WideShapes Go.ChangeAt Go.RowKit
theorem ints_cells : Tryz.prog.cellsOf 22 = 1 := by kernel_rfl
section
variable {H : Type} {enc : TypeId × Value → H} {W : World}
set_option maxRecDepth 100000 in
theorem open_asc {b0 : Nat} {v : Value} {d : DataW H} {p : List MemPlace} (hv : Value.okWide Tryz.prog W .any b0 35 v) (h : DataW.Trod enc Tryz.prog W 0 (fun _ => true) true 35 v d p) :
    ∃ a b c d u l, v = .agg #[J a, J b, J c, .bool d, u] ∧ Slc W u l := by
  obtain ⟨cs, rfl, _⟩ := okWide_struct Tryz.underlying35 hv
  obtain ⟨fuel, hf⟩ := h
  obtain ⟨xs, n, _, _, hl, hlen, hf⟩ := DataW.trod_struct Tryz.underlying35 hf
  rw [ask_cells] at hl
  obtain ⟨l⟩ := cs
  simp only [Value.cells] at hl hf
  obtain ⟨c0, c1, c2, c3, c4, rfl⟩ := array5 hl
  have some_at : ∀ i, i < 5 → ∃ y, xs[i]? = some y := fun i hi => by
    rw [List.getElem?_eq_getElem (by rw [hlen]; exact hi)]; simp
  have ne_at : ∀ i, i < 5 → xs[i]? ≠ none := fun i hi => by
    obtain ⟨y, hy⟩ := some_at i hi; rw [hy]; simp
  obtain ⟨a, rfl⟩ := cell_int (by simpa [int_cells, bool_cells, ints_cells] using hf 0 _ rfl) (ne_at 0 (by omega))
  obtain ⟨b, rfl⟩ := cell_int (by simpa [int_cells, bool_cells, ints_cells] using hf 1 _ rfl) (ne_at 1 (by omega))
  obtain ⟨c, rfl⟩ := cell_int (by simpa [int_cells, bool_cells, ints_cells] using hf 2 _ rfl) (ne_at 2 (by omega))
  obtain ⟨e, rfl⟩ := cell_bool (by simpa [int_cells, bool_cells, ints_cells] using hf 3 _ rfl) (ne_at 3 (by omega))
  obtain ⟨y4, hy4⟩ := some_at 4 (by omega)
  obtain ⟨l, hL⟩ := lst_row (c0 := c4) (x := y4) (by rw [← hy4]; simpa [int_cells, bool_cells, ints_cells] using hf 4 _ rfl)
  exact ⟨a, b, c, e, c4, l, rfl, hL⟩
end
end Go.Proofs.YthlhocneggcekaaGreat
namespace Go.Proofs.YthlhocneggcekaaGreat
open Go.ChangeShapes Go.WideShapes Go.ChangeAt Go.RowKit
set_option linter.unusedVariables false
set_option maxRecDepth 100000 in
theorem aown_lifted (os : Os) (started : os.Started) (H : Type) (enc : TypeId × Value → H) :
    ReturnsInHanded {} Tryz.checked os 9 .any (Rows.auditOwnSpec.pre6 enc Tryz.prog Tryz.f9 Rows.auditOwnRow.domain false) (Rows.auditOwnSpec.post enc Tryz.prog Tryz.f9 false true false false) := by
  refine returnsInHanded_of_change (C := Tryz.checked) law_own started (by kernel_rfl) Tryz.func9
    (ChangeSpec.witness6 (enc := enc) (C := Tryz.checked) false ⟨#[], #[.agg #[.slice none 0 0, J 0, .slice none 0 0, .bool false, J 0, J 0, .slice none 0 0, J 0, J 0, J 0, .bool false, J 0, J 0, J 0, J 0, .bool false], .agg #[J 0, J 0, J 0, .bool false, .slice none 0 0]], []⟩ 8 (by kernel_rfl) (by kernel_rfl) (by kernel_rfl) (by kernel_rfl)) ?_
  intro W base args ds gs before hval0 hW hcnd _
  have hval : ∀ (j : Nat) t v, Tryz.f9.params[j]? = some t → args[j]? = some v → Value.okWide Tryz.prog W .any base t v := hval0
  have hW' := hW
  obtain ⟨p, q, hA0, hV, rfl, hfz, hnd⟩ := hW
  have hA : DataW.TrodAll enc Tryz.prog W 0 (fun _ => true) true Tryz.f9.params.toList args.toList ds p := hA0
  rw [Tryz.params9] at hA hval
  obtain ⟨v0, vs0, d0, ds0, p0, q0, hargs, rfl, rfl, h0, r0⟩ := trodAll_cons hA
  obtain ⟨v1, vs1, d1, ds1, p1, q1, rfl, rfl, rfl, h1, r1⟩ := trodAll_cons r0
  obtain ⟨rfl, rfl, rfl⟩ := trodAll_nil r1
  obtain rfl : args = #[v0, v1] := by cases args; simp_all
  obtain ⟨rfl, rfl⟩ := trodVars_none hV
  have k0 := h0
  have lt0 : ∀ x ∈ p0, x.block < W.heap.size := by obtain ⟨m, hm⟩ := k0; exact DataW.trod_lt m _ _ _ hm
  have k1 := h1
  have lt1 : ∀ x ∈ p1, x.block < W.heap.size := by obtain ⟨m, hm⟩ := k1; exact DataW.trod_lt m _ _ _ hm
  obtain ⟨u0, zs0, x0, y0, g0, f0, mo0, ba0, op0, oh0, ot0, fe0, fp0, fh0, ft0, st0, lo0, vc0, l0, rfl, s0⟩ := open_mch (hval 0 33 v0 rfl rfl) h0
  obtain ⟨x1, y1, z1, f1, u1, l1, rfl, s1⟩ := open_asc (hval 1 35 v1 rfl rfl) h1
  clear hA0 hval0
  refine (aown_walk u0 zs0 x0 y0 g0 f0 mo0 ba0 op0 oh0 ot0 fe0 fp0 fh0 ft0 st0 lo0 vc0 l0 x1 y1 z1 f1 u1 l1 W s0 s1).mono fun e W' ⟨he, bel⟩ => ?_
  subst he
  exact ⟨_, rfl, _, _, _, [], _, [], hW', trodAll_mk1 (shut_bool Tryz.underlying4 _), (trodAll_cons_mk (Below.trod law_laidOut (by kernel_rfl) (of_decide_eq_true (by kernel_rfl)) k0 bel lt0) (trodAll_cons_mk (Below.trod law_laidOut (by kernel_rfl) (of_decide_eq_true (by kernel_rfl)) k1 bel lt1) trodAll_mk0)), rfl, bel.frame _, fun h => by cases h⟩
theorem aown_over : Rows.auditOwnRow.holds Tryz.pinned (OpenSpec.ofChange Rows.auditOwnSpec) :=
  OpenClaim.holds_of_wide 9 Tryz.f9 rfl rfl rfl rfl rfl rfl rfl ⟨rfl, rfl, rfl, rfl, rfl⟩ rfl rfl rfl rfl rfl (by kernel_rfl) Tryz.func9 (by kernel_rfl)
    (of_decide_eq_true (by kernel_rfl)) (by unfold Func.isWrapper; first | (rw [if_pos (by decide +kernel)]; kernel_rfl) | (rw [if_neg (by decide +kernel)]; exact ⟨rfl, rfl⟩))
    (fun os started H enc _ => aown_lifted os started H enc)
theorem aown_holds : Rows.AuditOwnSaid := aown_over
#print axioms aown_holds
end Go.Proofs.YthlhocneggcekaaGreat
