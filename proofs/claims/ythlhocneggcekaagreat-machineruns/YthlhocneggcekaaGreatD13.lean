/-
  Laid together: Upto.
-/
import Derived.Test.YthlhocneggcekaaGreatD1
import Derived.Deep.RegionHeld
namespace Go.Proofs.YthlhocneggcekaaGreat
open Go Go.RowKit
section
variable {P:Program} {ops:Array Oper} {Q:Exit→Act→World→Prop} {md:Region.Mode} {S:World→Prop} {z:Nat}
def wpUpto (P:Program)(md:Region.Mode)(ops:Array Oper)(Q:Exit→Act→World→Prop)(S:World→Prop)(z:Nat):Nat→Array Bool→Act→World→Prop
 | 0,listed,a,w=>Region.ready md ops listed=[]∧Q .normal a w
 | n+1,listed,a,w=>(Region.ready md ops listed=[]→Q .normal a w)∧
   ∀i∈Region.ready md ops listed,wpOp P ops Q i (fun a' w'=>(i≠z→S w')∧wpUpto P md ops Q S z n (listed.setIfInBounds i true) a' w') a w
theorem iB:∀(n:Nat) (listed:Array Bool)(a:Act)(w:World),wpUpto P md ops Q S z n listed a w→wpAny P md ops Q n listed a w
 | 0,_,_,_,h=>h
 | n+1,_,_,_,h=>⟨h.1,fun i hi=>wpOp_mono (fun a' w' h'=>iB n _ a' w' h'.2) (h.2 i hi)⟩
def waits (md:Region.Mode)(ops:Array Oper)(z i:Nat):Bool:=match ops[z]? with
 | some o=>o.after.any (fun e=>Region.binds md e&&e.on==i)
 | none=>true
theorem tN {i:Nat}(h:waits md ops z i=true){listed:Array Bool}(hz:z∈Region.ready md ops listed):listed.getD i false=true:=by
 obtain⟨_,o,ho,hall⟩:=mem_ready.1 hz
 unfold waits at h
 rw[ho] at h
 simp only[Array.any_eq_true] at h
 obtain⟨j,hj,he⟩:=h
 rw[Bool.and_eq_true,beq_iff_eq] at he
 have:=hall _ (Array.getElem_mem hj) he.1
 rw[he.2] at this
 exact this
theorem pL {i:Nat}{oi:Oper}{v:Value}(hi:ops[i]?=some oi)(hsel:∀(j:Nat) (o:Oper) cs b,ops[j]?=some o→o.op≠.select cs b)(hwt:waits md ops z i=true)
  (hQ:∀c a w,Q (.panic c) (a.put oi.dst v) w→Q (.panic c) a w):
  ∀(n:Nat) (listed:Array Bool) (a:Act) (w:World),
   (∀j oj,ops[j]?=some oj→j≠i→listed.getD j true=false→(∀e∈oj.after,Region.binds md e=true→e.on≠i)→oi.apart ops oj=true)→
   i∈Region.ready md ops listed→YieldsIf P ops S oi v a→S w→
   wpUpto P md ops Q S z n (listed.setIfInBounds i true) (a.put oi.dst v) w→wpUpto P md ops Q S z (n+1) listed a w:=by
 intro n
 induction n with
 | zero=>
  intro listed a w _ hr hy hS H
  refine⟨fun h=>(by rw[h] at hr;cases hr),fun j hj=>?_⟩
  by_cases e:j=i
  ·subst e;exact hy.wpOp hi hS ⟨fun _=>hS,H⟩
  ·have:=ready_mono hj e
   rw[H.1] at this
   cases this
 | succ n ih=>
  intro listed a w hfree hr hy hS H
  refine⟨fun h=>(by rw[h] at hr;cases hr),fun j hj=>?_⟩
  by_cases e:j=i
  ·subst e;exact hy.wpOp hi hS ⟨fun _=>hS,H⟩
  ·have hun:listed.getD i true=false:=(mem_ready.1 hr).1
   have hjz:j≠z:=by
    rintro rfl
    have h1:=tN hwt hj
    rcases Nat.lt_or_ge i listed.size with h'|h'
    ·simp[h'] at hun h1;rw[hun] at h1;cases h1
    ·simp[Array.getElem?_eq_none h'] at h1
   obtain⟨hjun,oj,hoj,hall⟩:=mem_ready.1 hj
   have hnot:∀e∈oj.after,Region.binds md e=true→e.on≠i:=fun e he hb heq=>by
    have h1:=hall e he hb
    rw[heq] at h1
    rcases Nat.lt_or_ge i listed.size with h'|h'
    ·simp[h'] at hun h1;rw[hun] at h1;cases h1
    ·simp[Array.getElem?_eq_none h'] at h1
   have h2:=wpOp_putIf hoj (hfree j oj hoj e hjun hnot) (fun cs b=>hsel i oi cs b hi) (fun cs b=>hsel j oj cs b hoj) hQ hy (H.2 j (ready_mono hj e))
   refine wpOp_mono (fun a' w' h3=>⟨fun _=>h3.2.1 hjz,ih (listed.setIfInBounds j true) a' w' (fun q oq hq hqi hqu hno=>?_) (ready_mono hr (Ne.symm e)) h3.1 (h3.2.1 hjz) ?_⟩) h2
   ·refine hfree q oq hq hqi ?_ hno
    by_cases hjq:j=q
    ·subst hjq;exact hjun
    ·rw[getD_set_ne true hjq] at hqu;exact hqu
   ·rw[Array.setIfInBounds_comm _ _ e]
    exact h3.2.2
theorem rG {i:Nat}{oi:Oper}{v:Value}{n:Nat}{listed:Array Bool}{a:Act}{w:World}(hi:ops[i]?=some oi)
  (hs:Region.noSelect ops=true) (hf:Region.free md ops listed i=true) (hr:(Region.ready md ops listed).contains i=true) (hwt:waits md ops z i=true)
  (hQ:∀c a w,Q (.panic c) (a.put oi.dst v) w→Q (.panic c) a w) (hy:YieldsIf P ops S oi v a) (hS:S w)
  (h:wpUpto P md ops Q S z n (listed.setIfInBounds i true) (a.put oi.dst v) w):wpUpto P md ops Q S z (n+1) listed a w:=
 pL hi (Region.noSelect_spec hs) hwt hQ n listed a w (Region.free_spec hi hf) (by simpa using hr) hy hS h
theorem tO {i:Nat}{o:Oper}{n:Nat}{listed:Array Bool}{a:Act}{w:World}(hr:Region.ready md ops listed=[i])(ho:ops[i]?=some o)
  (h:∀K':Act→World→Prop,Shut (∀a w,(i≠z→S w)→wpUpto P md ops Q S z n (listed.setIfInBounds i true) a w→K' a w)→if Region.wanted o (yielded ops a.tmps)=true then Oper.wp P o a w K' Q else K' (a.put o.dst undef) w):
  wpUpto P md ops Q S z (n+1) listed a w:=by
 refine⟨fun h0=>absurd (hr ▸ h0) (by simp),fun j hj=>?_⟩
 rw[hr,List.mem_singleton] at hj
 subst hj
 exact wpOp_step ho (fun K' hK=>h K' (fun a w h1 h2=>hK a w ⟨h1,h2⟩))
theorem kL {listed:Array Bool}{a:Act}{w:World}(hr:Region.ready md ops listed=[])(h:Q .normal a w):∀n,wpUpto P md ops Q S z n listed a w
 | 0=>⟨hr,h⟩
 | _+1=>⟨fun _=>h,fun i hi=>by rw[hr] at hi;cases hi⟩
theorem gI {id:Nat}{a:Act}{w:World}(hm:P.follows .mixedOrders=true)(z:Nat)(S:World→Prop)(hS:S w.drew)
  (h:S w.drew→wpUpto P .any ops Q S z ops.size (Array.replicate ops.size false) a w.drew):(Code.region id ops true).wp P Q a w:=
 wp_region_any hm (iB _ _ _ _ (h hS))
def opL:List Oper→Nat→Option Oper
 | [],_=>none
 | o::_,0=>some o
 | _::l,n+1=>opL l n
theorem aAg:∀(l:List Oper) (i:Nat),opL l i=l[i]?
 | [],_=>rfl
 | _::_,0=>rfl
 | _::l,n+1=>by rw[opL,aAg l n,List.getElem?_cons_succ]
theorem bY {i:Nat}{o:Oper}(h:opL ops.toList i=some o):ops[i]?=some o:=by rw[←Array.getElem?_toList,←aAg];exact h
theorem jE {i:Nat}{oi:Oper}{v:Value}{n:Nat}{listed:Array Bool}{a:Act}{w:World}(hi:opL ops.toList i=some oi)
  (hs:Region.noSelect ops=true) (hf:Region.free md ops listed i=true) (hr:(Region.ready md ops listed).contains i=true) (hwt:waits md ops z i=true)
  (hQ:∀c a w,Q (.panic c) (a.put oi.dst v) w→Q (.panic c) a w) (hy:YieldsIf P ops S oi v a) (hS:S w)
  (h:wpUpto P md ops Q S z n (listed.setIfInBounds i true) (a.put oi.dst v) w):wpUpto P md ops Q S z (n+1) listed a w:=rG (bY hi) hs hf hr hwt hQ hy hS h
theorem dT {i:Nat}{o:Oper}{n:Nat}{listed:Array Bool}{a:Act}{w:World}(hr:Region.ready md ops listed=[i])(ho:opL ops.toList i=some o)
  (h:∀K':Act→World→Prop,Shut (∀a w,(i≠z→S w)→wpUpto P md ops Q S z n (listed.setIfInBounds i true) a w→K' a w)→if Region.wanted o (yielded ops a.tmps)=true then Oper.wp P o a w K' Q else K' (a.put o.dst undef) w):
  wpUpto P md ops Q S z (n+1) listed a w:=tO hr (bY ho) h
theorem aO {i:Nat}{oi:Oper}{v:Value}{n:Nat}{listed:Array Bool}{a:Act}{w:World}(hi:opL ops.toList i=some oi)
  (hs:Region.noSelect ops=true) (hf:Region.free md ops listed i=true) (hr:(Region.ready md ops listed).contains i=true)
  (hQ:∀c a w,Q (.panic c) (a.put oi.dst v) w→Q (.panic c) a w) (hy:YieldsIf P ops S oi v a) (hS:S w)
  (h:wpAnyH P md ops Q S n (listed.setIfInBounds i true) (a.put oi.dst v) w):wpAnyH P md ops Q S (n+1) listed a w:=wpAnyH_take (bY hi) hs hf hr hQ hy hS h
theorem aE {i:Nat}{o:Oper}{n:Nat}{listed:Array Bool}{a:Act}{w:World}(hr:Region.ready md ops listed=[i])(ho:opL ops.toList i=some o)
  (h:∀K':Act→World→Prop,Shut (∀a w,S w→(S w→wpAnyH P md ops Q S n (listed.setIfInBounds i true) a w)→K' a w)→if Region.wanted o (yielded ops a.tmps)=true then Oper.wp P o a w K' Q else K' (a.put o.dst undef) w):
  wpAnyH P md ops Q S (n+1) listed a w:=wpAnyH_ready hr (by simp) (AllReadyH.cons (bY ho) h AllReadyH.nil)
theorem nmz:(∀(a:Act) (d:Tmp)(v:Value),a.put (some d) v=⟨a.tmps.setIfInBounds d v,a.defers⟩)∧(∀(a:Act) (v:Value),a.put none v=a)∧(∀(l:List Value) (i:Nat) (a:Value),l.toArray.setIfInBounds i a=(l.set i a).toArray)∧(∀(x:Value) (l:List Value) (a:Value),(x::l).set 0 a=a::l)∧(∀(x:Value) (l:List Value) (i:Nat) (a:Value),(x::l).set (i+1) a=x::l.set i a):=
 ⟨fun _ _ _=>rfl,fun _ _=>rfl,fun _ _ _=>List.setIfInBounds_toArray _ _ _,fun _ _ _=>rfl,fun _ _ _ _=>rfl⟩
def goB (md:Region.Mode)(ops:Array Oper)(listed:Array Bool)(i:Nat):Bool:=Region.noSelect ops&&Region.free md ops listed i&&(Region.ready md ops listed).contains i
theorem eqJ {x:Option Value}{a b:Int}(h:x=some (J a))(e:a=b):x=some (J b):=e ▸ h
structure Cl (S R:World→Prop):Prop where
 out:∀w,S w→R w
theorem tkH (i:Nat){oi:Oper}{v:Value}{n:Nat}{listed:Array Bool}{a b:Act}{w:World}(hi:opL ops.toList i=some oi)(h:wpAnyH P md ops Q S n (listed.setIfInBounds i true) b w)
  (hy:∀w,S w→(execOp a.eval oi).run P w=.ok (.value v) w:=by intro wz hSz;(try dsimp only at hSz);(try have hcl:=Cl.out (by assumption) _ hSz);go_simp;(try with_reducible rfl)) (hk:(goB md ops listed i&&Region.wanted oi (yielded ops a.tmps))=true:=by kernel_rfl) (hQ:∀c a w,Q (.panic c) (a.put oi.dst v) w→Q (.panic c) a w:=by exact fun _ _ _ h=>h) (hS:S w:=by assumption) (hb:a.put oi.dst v=b:=by simp only[nmz];rfl):wpAnyH P md ops Q S (n+1) listed a w:=by
 subst hb
 simp only[goB,Bool.and_eq_true] at hk
 exact aO hi hk.1.1.1 hk.1.1.2 hk.1.2 hQ (.inl ⟨hk.2,hy⟩) hS h
theorem tkN (i:Nat){oi:Oper}{n:Nat}{listed:Array Bool}{a b:Act}{w:World}(hi:opL ops.toList i=some oi)(h:wpAnyH P md ops Q S n (listed.setIfInBounds i true) b w)
  (hk:(goB md ops listed i&&!Region.wanted oi (yielded ops a.tmps))=true:=by kernel_rfl) (hQ:∀c a w,Q (.panic c) (a.put oi.dst undef) w→Q (.panic c) a w:=by exact fun _ _ _ h=>h) (hS:S w:=by assumption) (hb:a.put oi.dst undef=b:=by simp only[nmz];rfl):wpAnyH P md ops Q S (n+1) listed a w:=by
 subst hb
 simp only[goB,Bool.and_eq_true,Bool.not_eq_true'] at hk
 exact aO hi hk.1.1.1 hk.1.1.2 hk.1.2 hQ (.inr ⟨hk.2,rfl⟩) hS h
theorem tkU (i:Nat){oi:Oper}{v:Value}{n:Nat}{listed:Array Bool}{a b:Act}{w:World}(hi:opL ops.toList i=some oi)(h:wpUpto P md ops Q S z n (listed.setIfInBounds i true) b w)
  (hy:∀w,S w→(execOp a.eval oi).run P w=.ok (.value v) w:=by intro wz hSz;(try dsimp only at hSz);(try have hcl:=Cl.out (by assumption) _ hSz);go_simp;(try with_reducible rfl)) (hk:(goB md ops listed i&&waits md ops z i&&Region.wanted oi (yielded ops a.tmps))=true:=by kernel_rfl) (hQ:∀c a w,Q (.panic c) (a.put oi.dst v) w→Q (.panic c) a w:=by exact fun _ _ _ h=>h) (hS:S w:=by assumption) (hb:a.put oi.dst v=b:=by simp only[nmz];rfl):wpUpto P md ops Q S z (n+1) listed a w:=by
 subst hb
 simp only[goB,Bool.and_eq_true] at hk
 exact jE hi hk.1.1.1.1 hk.1.1.1.2 hk.1.1.2 hk.1.2 hQ (.inl ⟨hk.2,hy⟩) hS h
theorem tkM (i:Nat){oi:Oper}{n:Nat}{listed:Array Bool}{a b:Act}{w:World}(hi:opL ops.toList i=some oi)(h:wpUpto P md ops Q S z n (listed.setIfInBounds i true) b w)
  (hk:(goB md ops listed i&&waits md ops z i&&!Region.wanted oi (yielded ops a.tmps))=true:=by kernel_rfl) (hQ:∀c a w,Q (.panic c) (a.put oi.dst undef) w→Q (.panic c) a w:=by exact fun _ _ _ h=>h) (hS:S w:=by assumption) (hb:a.put oi.dst undef=b:=by simp only[nmz];rfl):wpUpto P md ops Q S z (n+1) listed a w:=by
 subst hb
 simp only[goB,Bool.and_eq_true,Bool.not_eq_true'] at hk
 exact jE hi hk.1.1.1.1 hk.1.1.1.2 hk.1.1.2 hk.1.2 hQ (.inr ⟨hk.2,rfl⟩) hS h
end
end Go.Proofs.YthlhocneggcekaaGreat
