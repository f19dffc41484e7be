/-
  Laid together: HRegs.
-/
import Derived.Test.YthlhocneggcekaaGreatD26
namespace Go.Proofs.YthlhocneggcekaaGreat
open Go Go.RowKit
def MapHas (D:DataW Value)(ks:List Int)(f:Int→Int):Prop:=
 Maps.IsMap D∧∀z,Maps.has D (.int .i64 z)=decide (z∈ks)∧(z∈ks→∀x,D.atKey (.int .i64 z) x=.held (.int .i64 (f z)))
theorem MapHas.none (f:Int→Int):MapHas (DataW.map []) [] f:=⟨Maps.isMap_empty,fun z=>⟨rfl,fun h=>by cases h⟩⟩
theorem MapHas.put {D:DataW Value}{ks:List Int}{f:Int→Int}(h:MapHas D ks f)(k:Int):MapHas (D.put (.int .i64 k) (.held (.int .i64 (f k)))) (k::ks) f:=by
 refine⟨h.1.put _ _,fun z=>?_⟩
 have hk:WideAt.IsKeyLit (.int .i64 k):=trivial
 by_cases e:z=k
 ·subst e
  exact⟨by rw[Maps.has_put_same h.1 hk];simp,fun _ x=>Maps.atKey_put_same h.1 hk _ _⟩
 ·have hne:Lit.int IntKind.i64 z≠Lit.int IntKind.i64 k:=by simpa using e
  refine⟨by rw[Maps.has_put_other hne,(h.2 z).1];simp[e],fun hz x=>?_⟩
  rw[Maps.atKey_put_other hne]
  exact (h.2 z).2 (by simpa [e] using hz) x
section
variable {P:Program} {ops:Array Oper} {Q:Exit→Act→World→Prop} {md:Region.Mode} {S:World→Prop}
theorem mL {I:Nat→Array Bool→Act→World→Prop}
  (hs:∀n listed a w i,I (n+1) listed a w→i∈Region.ready md ops listed→wpOp P ops Q i (fun a' w'=>S w'∧I n (listed.setIfInBounds i true) a' w') a w)
  (he:∀n listed a w,I n listed a w→Region.ready md ops listed=[]→Q .normal a w):
  ∀(n:Nat) (listed:Array Bool) (a:Act) (w:World),I n listed a w→listed.toList.count false≤n→wpAnyH P md ops Q S n listed a w
 | 0,listed,a,w,hI,hn=>by
  have hr:Region.ready md ops listed=[]:=by
   rw[List.eq_nil_iff_forall_not_mem]
   intro i hi
   have h1:=(mem_ready.1 hi).1
   have hz:listed.toList.count false=0:=by omega
   rw[List.count_eq_zero] at hz
   apply hz
   rcases Nat.lt_or_ge i listed.size with h'|h'
   ·simp[h'] at h1
    rw[←h1];simp
   ·simp[Array.getElem?_eq_none h'] at h1
  exact⟨hr,he 0 listed a w hI hr⟩
 | n+1,listed,a,w,hI,hn=>by
  refine⟨fun hr=>he _ listed a w hI hr,fun i hi=>wpOp_mono (fun a' w' h'=>⟨h'.1,mL hs he n _ a' w' h'.2 ?_⟩) (hs n listed a w i hI hi)⟩
  have h1:=(mem_ready.1 hi).1
  rcases Nat.lt_or_ge i listed.size with h2|h2
  ·simp[h2] at h1
   have hl:i<listed.toList.length:=by simpa using h2
   have h3:listed.toList[i]=false:=by simpa using h1
   have h4:0<listed.toList.count false:=List.count_pos_iff.2 (by rw[←h3];exact List.getElem_mem _)
   rw[Array.toList_setIfInBounds,List.count_set hl,h3]
   show List.count false listed.toList-1+0≤n
   omega
  ·simp[Array.getElem?_eq_none h2] at h1
end
theorem cU {l:List Nat}{i:Nat}(hr:l=[])(h:l.contains i=true):False:=by subst hr;cases h
theorem aA1 (w:World):(zeroValue 3).run Tryz.prog w=.ok (.int .i64 0) w:=by kernel_rfl
def RegM (w:World)(b:Nat)(f:Int→Int):Prop:=∃n D ks,w.ownsMap Tryz.prog 3 Rv b n D∧MapHas D ks f∧∀z,z∈ks↔0≤z∧z≤9
theorem cD {w:World}{ops:Array Oper}{i:Nat}{o:Oper}{a:Act}{Q:Exit→Act→World→Prop}{K:Act→World→Prop}(ho:opL ops.toList i=some o)(hg:o.guard=none)(hd:o.dst=none)(m x v:Operand)(hop:o.op=Op.insert 205 m x v)(b n:Nat)(D:DataW Value)
  (hm:a.eval m=.map (some b)) (hown:w.ownsMap Tryz.prog 3 Rv b n D) (z:Int) (val:Value) (hx:a.eval x=.int .i64 z) (hv:a.eval v=val) (h0:0≤z) (h1:z<1000) (hn:n<1000)
  (hK:∀w',w'.ownsMap Tryz.prog 3 Rv b (n+1) (D.put (.int .i64 z) (.held val))→w.grownBy w' (some b)→K a w'):wpOp Tryz.prog ops Q i K a w:=by
 refine wpOp_step (bY ho) (fun K' hK'=>?_)
 rw[if_pos (by simp[Region.wanted,hg])]
 obtain⟨w',hrun,r1,r2⟩:=hown.update fZ Tryz.underlying205 (by unfold maxLen;omega) (gT h0 h1) (val:=val) (d:=.held val) (ps:=[]) rfl
 unfold Oper.wp
 simp[execOp,hop,hm,hx,hv,hrun,Result.andThen]
 have hp:a.put o.dst undef=a:=by rw[hd];rfl
 have hk:=hK' _ _ (hK w' r1 r2)
 rw[←hp] at hk
 exact hk
def regAct (N:Nat)(mo ba op oh ot fe fp fh ft:Int)(st lo:Bool)(ca:Option Addr)(ck cc:Nat)(t2 t3 t29 t30:Value):Act:={tmps:=#[.agg #[.int .i64 mo,.int .i64 ba,.slice ca ck cc,.int .i64 op,.int .i64 oh,.int .i64 ot,.bool st,.int .i64 fe,.int .i64 fp,.int .i64 fh,.int .i64 ft,.bool lo],.pointer (some ⟨N,0,none⟩),t2,t3,.pointer (some ⟨N,0,none⟩),.int .i64 mo,.pointer (some ⟨N,1,none⟩),.int .i64 ba,.pointer (some ⟨N,3,none⟩),.pointer (some ⟨N,3,none⟩),.int .i64 op,.pointer (some ⟨N,3,none⟩),.pointer (some ⟨N,5,none⟩),.int .i64 ot,.pointer (some ⟨N,3,none⟩),.pointer (some ⟨N,4,none⟩),.int .i64 oh,.pointer (some ⟨N,8,none⟩),.pointer (some ⟨N,8,none⟩),.int .i64 fp,.pointer (some ⟨N,8,none⟩),.pointer (some ⟨N,9,none⟩),.int .i64 fh,.pointer (some ⟨N,8,none⟩),.pointer (some ⟨N,10,none⟩),.int .i64 ft,.pointer (some ⟨N,7,none⟩),.int .i64 fe,.agg #[.int .i64 mo,.int .i64 ba,.slice ca ck cc,.int .i64 op,.int .i64 oh,.int .i64 ot,.bool st,.int .i64 fe,.int .i64 fp,.int .i64 fh,.int .i64 ft,.bool lo],t29,t30],defers:=[]}
def RegI (N:Nat)(mo ba op oh ot fe fp fh ft:Int)(st lo:Bool)(ca:Option Addr)(ck cc:Nat)(l:List Ln)(W:World)(n:Nat)(listed:Array Bool)(a:Act)(w:World):Prop:=
 ∃c0 b0 b1 b2 b3 b4 b5 b6 b7 b8 b9 c m z t2 t3 t29 t30 ks,listed=#[c0,true,true,b0,true,true,b1,true,true,true,b2,true,true,true,b3,true,true,true,b4,true,true,true,b5,true,true,true,b6,true,true,true,b7,true,true,b8,true,c,b9,m,z]∧a=regAct N mo ba op oh ot fe fp fh ft st lo ca ck cc t2 t3 t29 t30∧Below W.heap.size W w∧n≤14∧
  (∀q:Int,q∈ks↔(q=0∧b0=true)∨(q=1∧b1=true)∨(q=2∧b2=true)∨(q=3∧b3=true)∨(q=4∧b4=true)∨(q=5∧b5=true)∨(q=6∧b6=true)∨(q=7∧b7=true)∨(q=8∧b8=true)∨(q=9∧b9=true))∧(c0=false→ks=[])∧
  (c0=true→∃b sz D,t3=.map (some b)∧W.heap.size≤b∧w.ownsMap Tryz.prog 3 Rv b sz D∧sz+n≤20∧MapHas D ks (regB ⟨mo,ba,l,op,oh,ot,st,fe,fp,fh,ft,lo⟩))∧
  (c=true→t29=.int .i64 (stB ⟨mo,ba,l,op,oh,ot,st,fe,fp,fh,ft,lo⟩))∧(m=true→(c0=true∧c=true∧b0=true∧b1=true∧b2=true∧b3=true∧b4=true∧b5=true∧b6=true∧b7=true∧b8=true∧b9=true)∧t30=t3)∧(z=true→m=true∧t2=t3)
set_option maxRecDepth 10000 in
set_option maxHeartbeats 4000000 in
theorem nK (mo ba op oh ot fe fp fh ft:Int)(st lo:Bool)(vc:Value)(l:List Ln)(w:World)(hc:∃a k c,vc=.slice a k c):
  Calls Tryz.prog 170 #[.agg #[.int .i64 mo,.int .i64 ba,vc,.int .i64 op,.int .i64 oh,.int .i64 ot,.bool st,.int .i64 fe,.int .i64 fp,.int .i64 fh,.int .i64 ft,.bool lo]] w fun e w'=>∃b,e=.returned (.map (some b))∧RegM w' b (regB ⟨mo,ba,l,op,oh,ot,st,fe,fp,fh,ft,lo⟩)∧Below w.heap.size w w':=by
 obtain⟨ca,ck,cc,rfl⟩:=hc
 go_enter Tryz.func170,Tryz.ntmps170
 go_upto_region 1 with fail
 have X0:=Box.newAt (w:=w) (n:=w.heap.size) rfl 31 #[.int .i64 mo,.int .i64 ba,.slice ca ck cc,.int .i64 op,.int .i64 oh,.int .i64 ot,.bool st,.int .i64 fe,.int .i64 fp,.int .i64 fh,.int .i64 ft,.bool lo]
 have B0:Hid (Below w.heap.size w _):=aA (Below.refl w.heap.size w) (.cells #[.int .i64 mo,.int .i64 ba,.slice ca ck cc,.int .i64 op,.int .i64 oh,.int .i64 ot,.bool st,.int .i64 fe,.int .i64 fp,.int .i64 fh,.int .i64 ft,.bool lo] 31)
 generalize (w.alloc (.cells #[.int .i64 mo,.int .i64 ba,.slice ca ck cc,.int .i64 op,.int .i64 oh,.int .i64 ot,.bool st,.int .i64 fe,.int .i64 fp,.int .i64 fh,.int .i64 ft,.bool lo] 31))=W at *
 refine wp_region_held_drew (S:=fun w'=>Below W.heap.size W w') (by kernel_rfl) (Below.drew (Below.refl _ _)) (fun hHeld=>?_)
 have CF:Cl (fun w'=>Below W.heap.size W w') _:=⟨fun wz hSz=>(X0.keep hSz).twelve⟩
 refine tkH 1 rfl ?_
 refine tkH 2 rfl ?_
 refine tkH 4 rfl ?_
 refine tkH 5 rfl ?_
 refine tkH 7 rfl ?_
 refine tkH 8 rfl ?_
 refine tkH 9 rfl ?_
 refine tkH 11 rfl ?_
 refine tkH 12 rfl ?_
 refine tkH 13 rfl ?_
 refine tkH 15 rfl ?_
 refine tkH 16 rfl ?_
 refine tkH 17 rfl ?_
 refine tkH 19 rfl ?_
 refine tkH 20 rfl ?_
 refine tkH 21 rfl ?_
 refine tkH 23 rfl ?_
 refine tkH 24 rfl ?_
 refine tkH 25 rfl ?_
 refine tkH 27 rfl ?_
 refine tkH 28 rfl ?_
 refine tkH 29 rfl ?_
 refine tkH 31 rfl ?_
 refine tkH 32 rfl ?_
 refine tkH 34 rfl ?_
 refine mL (I:=RegI w.heap.size mo ba op oh ot fe fp fh ft st lo ca ck cc l W) ?_ ?_ 14 _ _ _ ?_ ?_
 ·intro n listed a w1 i hI hi
  obtain⟨c0,b0,b1,b2,b3,b4,b5,b6,b7,b8,b9,c,m,z,t2,t3,t29,t30,ks,rfl,rfl,hB,h14,hK0,hN,hM,hC,hm,hz⟩:=hI
  obtain⟨h1,o,ho,hall⟩:=mem_ready.1 hi
  have hi39:i<39:=by
   rcases Nat.lt_or_ge i 39 with h|h
   ·exact h
   ·simp[Array.getElem?_eq_none (xs:=#[c0,true,true,b0,true,true,b1,true,true,true,b2,true,true,true,b3,true,true,true,b4,true,true,true,b5,true,true,true,b6,true,true,true,b7,true,true,b8,true,c,b9,m,z]) (i:=i) (by simpa using h)] at h1
  have hi2:i=0∨i=1∨i=2∨i=3∨i=4∨i=5∨i=6∨i=7∨i=8∨i=9∨i=10∨i=11∨i=12∨i=13∨i=14∨i=15∨i=16∨i=17∨i=18∨i=19∨i=20∨i=21∨i=22∨i=23∨i=24∨i=25∨i=26∨i=27∨i=28∨i=29∨i=30∨i=31∨i=32∨i=33∨i=34∨i=35∨i=36∨i=37∨i=38:=by omega
  clear hi39
  rcases hi2 with rfl|rfl|rfl|rfl|rfl|rfl|rfl|rfl|rfl|rfl|rfl|rfl|rfl|rfl|rfl|rfl|rfl|rfl|rfl|rfl|rfl|rfl|rfl|rfl|rfl|rfl|rfl|rfl|rfl|rfl|rfl|rfl|rfl|rfl|rfl|rfl|rfl|rfl|rfl
  ·obtain rfl:c0=false:=by simpa using h1
   obtain rfl:=hN rfl
   refine wpOp_step (bY rfl) (fun K hK=>?_)
   rw[if_pos (by rfl)]
   have hmm:=@run_makeMap Tryz.prog
   unfold regAct at hK ⊢
   go_simp
   refine hK _ _ ⟨aA hB _,true,b0,b1,b2,b3,b4,b5,b6,b7,b8,b9,c,m,z,t2,.map (some w1.heap.size),t29,t30,[],by simp,rfl,aA hB _,by omega,hK0,fun h=>(by cases h),fun _=>⟨_,0,_,rfl,hB.size,World.ownsMap_made _ _ _ _,by omega,MapHas.none _⟩,hC,fun h=>(by have:=(hm h).1.1;cases this),fun h=>(by have:=(hm (hz h).1).1.1;cases this)⟩
  ·simp at h1
  ·simp at h1
  ·obtain rfl:b0=false:=by simpa using h1
   obtain rfl:c0=true:=by
    simp only[List.getElem?_toArray,List.getElem?_cons_zero,List.getElem?_cons_succ,Option.some.injEq] at ho
    subst ho
    simpa using hall {on:=0,ground:=.data} (by simp) rfl
   obtain⟨b,sz,D,rfl,hb,hown,hsz,hD⟩:=hM rfl
   refine cD (i:=3) rfl rfl rfl _ _ _ rfl b sz D rfl hown 0 (.int .i64 (regB ⟨mo,ba,l,op,oh,ot,st,fe,fp,fh,ft,lo⟩ 0)) rfl rfl (by decide) (by decide) (by omega) (fun w2 hown2 hg=>⟨hB.grown hg (Nat.le_trans hB.size (Nat.le_refl _)) (fun j hj=>by cases hj;exact hb),true,true,b1,b2,b3,b4,b5,b6,b7,b8,b9,c,m,z,t2,_,_,t30,0::ks,by simp,rfl,?_,by omega,?_,fun h=>(by cases h),fun _=>⟨b,sz+1,_,rfl,hb,hown2,by omega,hD.put 0⟩,hC,fun h=>(by have:=(hm h).1;simp at this),fun h=>(by have:=(hm (hz h).1).1;simp at this)⟩)
   ·exact hB.grown hg (Nat.le_trans hB.size (Nat.le_refl _)) (fun j hj=>by cases hj;exact hb)
   ·intro q
    have:=hK0 q
    simp only[List.mem_cons,this]
    by_cases e:q=0
    ·simp[e]
    ·simp[e]
  ·simp at h1
  ·simp at h1
  ·obtain rfl:b1=false:=by simpa using h1
   obtain rfl:c0=true:=by
    simp only[List.getElem?_toArray,List.getElem?_cons_zero,List.getElem?_cons_succ,Option.some.injEq] at ho
    subst ho
    simpa using hall {on:=0,ground:=.data} (by simp) rfl
   obtain⟨b,sz,D,rfl,hb,hown,hsz,hD⟩:=hM rfl
   refine cD (i:=6) rfl rfl rfl _ _ _ rfl b sz D rfl hown 1 (.int .i64 (regB ⟨mo,ba,l,op,oh,ot,st,fe,fp,fh,ft,lo⟩ 1)) rfl rfl (by decide) (by decide) (by omega) (fun w2 hown2 hg=>⟨hB.grown hg (Nat.le_trans hB.size (Nat.le_refl _)) (fun j hj=>by cases hj;exact hb),true,b0,true,b2,b3,b4,b5,b6,b7,b8,b9,c,m,z,t2,_,_,t30,1::ks,by simp,rfl,?_,by omega,?_,fun h=>(by cases h),fun _=>⟨b,sz+1,_,rfl,hb,hown2,by omega,hD.put 1⟩,hC,fun h=>(by have:=(hm h).1;simp at this),fun h=>(by have:=(hm (hz h).1).1;simp at this)⟩)
   ·exact hB.grown hg (Nat.le_trans hB.size (Nat.le_refl _)) (fun j hj=>by cases hj;exact hb)
   ·intro q
    have:=hK0 q
    simp only[List.mem_cons,this]
    by_cases e:q=1
    ·simp[e]
    ·simp[e]
  ·simp at h1
  ·simp at h1
  ·simp at h1
  ·obtain rfl:b2=false:=by simpa using h1
   obtain rfl:c0=true:=by
    simp only[List.getElem?_toArray,List.getElem?_cons_zero,List.getElem?_cons_succ,Option.some.injEq] at ho
    subst ho
    simpa using hall {on:=0,ground:=.data} (by simp) rfl
   obtain⟨b,sz,D,rfl,hb,hown,hsz,hD⟩:=hM rfl
   refine cD (i:=10) rfl rfl rfl _ _ _ rfl b sz D rfl hown 2 (.int .i64 (regB ⟨mo,ba,l,op,oh,ot,st,fe,fp,fh,ft,lo⟩ 2)) rfl rfl (by decide) (by decide) (by omega) (fun w2 hown2 hg=>⟨hB.grown hg (Nat.le_trans hB.size (Nat.le_refl _)) (fun j hj=>by cases hj;exact hb),true,b0,b1,true,b3,b4,b5,b6,b7,b8,b9,c,m,z,t2,_,_,t30,2::ks,by simp,rfl,?_,by omega,?_,fun h=>(by cases h),fun _=>⟨b,sz+1,_,rfl,hb,hown2,by omega,hD.put 2⟩,hC,fun h=>(by have:=(hm h).1;simp at this),fun h=>(by have:=(hm (hz h).1).1;simp at this)⟩)
   ·exact hB.grown hg (Nat.le_trans hB.size (Nat.le_refl _)) (fun j hj=>by cases hj;exact hb)
   ·intro q
    have:=hK0 q
    simp only[List.mem_cons,this]
    by_cases e:q=2
    ·simp[e]
    ·simp[e]
  ·simp at h1
  ·simp at h1
  ·simp at h1
  ·obtain rfl:b3=false:=by simpa using h1
   obtain rfl:c0=true:=by
    simp only[List.getElem?_toArray,List.getElem?_cons_zero,List.getElem?_cons_succ,Option.some.injEq] at ho
    subst ho
    simpa using hall {on:=0,ground:=.data} (by simp) rfl
   obtain⟨b,sz,D,rfl,hb,hown,hsz,hD⟩:=hM rfl
   refine cD (i:=14) rfl rfl rfl _ _ _ rfl b sz D rfl hown 3 (.int .i64 (regB ⟨mo,ba,l,op,oh,ot,st,fe,fp,fh,ft,lo⟩ 3)) rfl rfl (by decide) (by decide) (by omega) (fun w2 hown2 hg=>⟨hB.grown hg (Nat.le_trans hB.size (Nat.le_refl _)) (fun j hj=>by cases hj;exact hb),true,b0,b1,b2,true,b4,b5,b6,b7,b8,b9,c,m,z,t2,_,_,t30,3::ks,by simp,rfl,?_,by omega,?_,fun h=>(by cases h),fun _=>⟨b,sz+1,_,rfl,hb,hown2,by omega,hD.put 3⟩,hC,fun h=>(by have:=(hm h).1;simp at this),fun h=>(by have:=(hm (hz h).1).1;simp at this)⟩)
   ·exact hB.grown hg (Nat.le_trans hB.size (Nat.le_refl _)) (fun j hj=>by cases hj;exact hb)
   ·intro q
    have:=hK0 q
    simp only[List.mem_cons,this]
    by_cases e:q=3
    ·simp[e]
    ·simp[e]
  ·simp at h1
  ·simp at h1
  ·simp at h1
  ·obtain rfl:b4=false:=by simpa using h1
   obtain rfl:c0=true:=by
    simp only[List.getElem?_toArray,List.getElem?_cons_zero,List.getElem?_cons_succ,Option.some.injEq] at ho
    subst ho
    simpa using hall {on:=0,ground:=.data} (by simp) rfl
   obtain⟨b,sz,D,rfl,hb,hown,hsz,hD⟩:=hM rfl
   refine cD (i:=18) rfl rfl rfl _ _ _ rfl b sz D rfl hown 4 (.int .i64 (regB ⟨mo,ba,l,op,oh,ot,st,fe,fp,fh,ft,lo⟩ 4)) rfl rfl (by decide) (by decide) (by omega) (fun w2 hown2 hg=>⟨hB.grown hg (Nat.le_trans hB.size (Nat.le_refl _)) (fun j hj=>by cases hj;exact hb),true,b0,b1,b2,b3,true,b5,b6,b7,b8,b9,c,m,z,t2,_,_,t30,4::ks,by simp,rfl,?_,by omega,?_,fun h=>(by cases h),fun _=>⟨b,sz+1,_,rfl,hb,hown2,by omega,hD.put 4⟩,hC,fun h=>(by have:=(hm h).1;simp at this),fun h=>(by have:=(hm (hz h).1).1;simp at this)⟩)
   ·exact hB.grown hg (Nat.le_trans hB.size (Nat.le_refl _)) (fun j hj=>by cases hj;exact hb)
   ·intro q
    have:=hK0 q
    simp only[List.mem_cons,this]
    by_cases e:q=4
    ·simp[e]
    ·simp[e]
  ·simp at h1
  ·simp at h1
  ·simp at h1
  ·obtain rfl:b5=false:=by simpa using h1
   obtain rfl:c0=true:=by
    simp only[List.getElem?_toArray,List.getElem?_cons_zero,List.getElem?_cons_succ,Option.some.injEq] at ho
    subst ho
    simpa using hall {on:=0,ground:=.data} (by simp) rfl
   obtain⟨b,sz,D,rfl,hb,hown,hsz,hD⟩:=hM rfl
   refine cD (i:=22) rfl rfl rfl _ _ _ rfl b sz D rfl hown 5 (.int .i64 (regB ⟨mo,ba,l,op,oh,ot,st,fe,fp,fh,ft,lo⟩ 5)) rfl rfl (by decide) (by decide) (by omega) (fun w2 hown2 hg=>⟨hB.grown hg (Nat.le_trans hB.size (Nat.le_refl _)) (fun j hj=>by cases hj;exact hb),true,b0,b1,b2,b3,b4,true,b6,b7,b8,b9,c,m,z,t2,_,_,t30,5::ks,by simp,rfl,?_,by omega,?_,fun h=>(by cases h),fun _=>⟨b,sz+1,_,rfl,hb,hown2,by omega,hD.put 5⟩,hC,fun h=>(by have:=(hm h).1;simp at this),fun h=>(by have:=(hm (hz h).1).1;simp at this)⟩)
   ·exact hB.grown hg (Nat.le_trans hB.size (Nat.le_refl _)) (fun j hj=>by cases hj;exact hb)
   ·intro q
    have:=hK0 q
    simp only[List.mem_cons,this]
    by_cases e:q=5
    ·simp[e]
    ·simp[e]
  ·simp at h1
  ·simp at h1
  ·simp at h1
  ·obtain rfl:b6=false:=by simpa using h1
   obtain rfl:c0=true:=by
    simp only[List.getElem?_toArray,List.getElem?_cons_zero,List.getElem?_cons_succ,Option.some.injEq] at ho
    subst ho
    simpa using hall {on:=0,ground:=.data} (by simp) rfl
   obtain⟨b,sz,D,rfl,hb,hown,hsz,hD⟩:=hM rfl
   refine cD (i:=26) rfl rfl rfl _ _ _ rfl b sz D rfl hown 6 (.int .i64 (regB ⟨mo,ba,l,op,oh,ot,st,fe,fp,fh,ft,lo⟩ 6)) rfl rfl (by decide) (by decide) (by omega) (fun w2 hown2 hg=>⟨hB.grown hg (Nat.le_trans hB.size (Nat.le_refl _)) (fun j hj=>by cases hj;exact hb),true,b0,b1,b2,b3,b4,b5,true,b7,b8,b9,c,m,z,t2,_,_,t30,6::ks,by simp,rfl,?_,by omega,?_,fun h=>(by cases h),fun _=>⟨b,sz+1,_,rfl,hb,hown2,by omega,hD.put 6⟩,hC,fun h=>(by have:=(hm h).1;simp at this),fun h=>(by have:=(hm (hz h).1).1;simp at this)⟩)
   ·exact hB.grown hg (Nat.le_trans hB.size (Nat.le_refl _)) (fun j hj=>by cases hj;exact hb)
   ·intro q
    have:=hK0 q
    simp only[List.mem_cons,this]
    by_cases e:q=6
    ·simp[e]
    ·simp[e]
  ·simp at h1
  ·simp at h1
  ·simp at h1
  ·obtain rfl:b7=false:=by simpa using h1
   obtain rfl:c0=true:=by
    simp only[List.getElem?_toArray,List.getElem?_cons_zero,List.getElem?_cons_succ,Option.some.injEq] at ho
    subst ho
    simpa using hall {on:=0,ground:=.data} (by simp) rfl
   obtain⟨b,sz,D,rfl,hb,hown,hsz,hD⟩:=hM rfl
   refine cD (i:=30) rfl rfl rfl _ _ _ rfl b sz D rfl hown 7 (.int .i64 (regB ⟨mo,ba,l,op,oh,ot,st,fe,fp,fh,ft,lo⟩ 7)) rfl rfl (by decide) (by decide) (by omega) (fun w2 hown2 hg=>⟨hB.grown hg (Nat.le_trans hB.size (Nat.le_refl _)) (fun j hj=>by cases hj;exact hb),true,b0,b1,b2,b3,b4,b5,b6,true,b8,b9,c,m,z,t2,_,_,t30,7::ks,by simp,rfl,?_,by omega,?_,fun h=>(by cases h),fun _=>⟨b,sz+1,_,rfl,hb,hown2,by omega,hD.put 7⟩,hC,fun h=>(by have:=(hm h).1;simp at this),fun h=>(by have:=(hm (hz h).1).1;simp at this)⟩)
   ·exact hB.grown hg (Nat.le_trans hB.size (Nat.le_refl _)) (fun j hj=>by cases hj;exact hb)
   ·intro q
    have:=hK0 q
    simp only[List.mem_cons,this]
    by_cases e:q=7
    ·simp[e]
    ·simp[e]
  ·simp at h1
  ·simp at h1
  ·obtain rfl:b8=false:=by simpa using h1
   obtain rfl:c0=true:=by
    simp only[List.getElem?_toArray,List.getElem?_cons_zero,List.getElem?_cons_succ,Option.some.injEq] at ho
    subst ho
    simpa using hall {on:=0,ground:=.data} (by simp) rfl
   obtain⟨b,sz,D,rfl,hb,hown,hsz,hD⟩:=hM rfl
   refine cD (i:=33) rfl rfl rfl _ _ _ rfl b sz D rfl hown 8 (.int .i64 (regB ⟨mo,ba,l,op,oh,ot,st,fe,fp,fh,ft,lo⟩ 8)) rfl rfl (by decide) (by decide) (by omega) (fun w2 hown2 hg=>⟨hB.grown hg (Nat.le_trans hB.size (Nat.le_refl _)) (fun j hj=>by cases hj;exact hb),true,b0,b1,b2,b3,b4,b5,b6,b7,true,b9,c,m,z,t2,_,_,t30,8::ks,by simp,rfl,?_,by omega,?_,fun h=>(by cases h),fun _=>⟨b,sz+1,_,rfl,hb,hown2,by omega,hD.put 8⟩,hC,fun h=>(by have:=(hm h).1;simp at this),fun h=>(by have:=(hm (hz h).1).1;simp at this)⟩)
   ·exact hB.grown hg (Nat.le_trans hB.size (Nat.le_refl _)) (fun j hj=>by cases hj;exact hb)
   ·intro q
    have:=hK0 q
    simp only[List.mem_cons,this]
    by_cases e:q=8
    ·simp[e]
    ·simp[e]
  ·simp at h1
  ·obtain rfl:c=false:=by simpa using h1
   refine wpOp_step (bY rfl) (fun K hK=>?_)
   rw[if_pos (by rfl)]
   have HK:Hid _:=hK
   clear hK
   unfold regAct
   go_simp
   refine (rY mo ba op oh ot fe fp fh ft st lo (.slice ca ck cc) l w1 ⟨_,_,_,rfl⟩).mono ?_
   rintro e w2 ⟨rfl,ob,rfl⟩
   go_simp
   refine HK.out _ _ ⟨aA hB _,c0,b0,b1,b2,b3,b4,b5,b6,b7,b8,b9,true,m,z,t2,t3,_,t30,ks,by simp,rfl,aA hB _,by omega,hK0,hN,fun h=>?_,fun _=>rfl,fun h=>(by have:=(hm h).1.2.1;cases this),fun h=>(by have:=(hm (hz h).1).1.2.1;cases this)⟩
   obtain⟨b,sz,D,e1,e2,e3,e4,e5⟩:=hM h
   exact⟨b,sz,D,e1,e2,e3.alloc _,by omega,e5⟩
  ·obtain rfl:b9=false:=by simpa using h1
   obtain rfl:c0=true:=by
    simp only[List.getElem?_toArray,List.getElem?_cons_zero,List.getElem?_cons_succ,Option.some.injEq] at ho
    subst ho
    simpa using hall {on:=0,ground:=.data} (by simp) rfl
   obtain⟨b,sz,D,rfl,hb,hown,hsz,hD⟩:=hM rfl
   obtain rfl:c=true:=by
    simp only[List.getElem?_toArray,List.getElem?_cons_zero,List.getElem?_cons_succ,Option.some.injEq] at ho
    subst ho
    simpa using hall {on:=35,ground:=.data} (by simp) rfl
   obtain rfl:=hC rfl
   refine cD (i:=36) rfl rfl rfl _ _ _ rfl b sz D rfl hown 9 (.int .i64 (regB ⟨mo,ba,l,op,oh,ot,st,fe,fp,fh,ft,lo⟩ 9)) rfl rfl (by decide) (by decide) (by omega) (fun w2 hown2 hg=>⟨hB.grown hg (Nat.le_trans hB.size (Nat.le_refl _)) (fun j hj=>by cases hj;exact hb),true,b0,b1,b2,b3,b4,b5,b6,b7,b8,true,true,m,z,t2,_,_,t30,9::ks,by simp,rfl,?_,by omega,?_,fun h=>(by cases h),fun _=>⟨b,sz+1,_,rfl,hb,hown2,by omega,hD.put 9⟩,hC,fun h=>(by have:=(hm h).1;simp at this),fun h=>(by have:=(hm (hz h).1).1;simp at this)⟩)
   ·exact hB.grown hg (Nat.le_trans hB.size (Nat.le_refl _)) (fun j hj=>by cases hj;exact hb)
   ·intro q
    have:=hK0 q
    simp only[List.mem_cons,this]
    by_cases e:q=9
    ·simp[e]
    ·simp[e]
  ·obtain rfl:m=false:=by simpa using h1
   have hall2:c0=true∧c=true∧b0=true∧b1=true∧b2=true∧b3=true∧b4=true∧b5=true∧b6=true∧b7=true∧b8=true∧b9=true:=by
    simp only[List.getElem?_toArray,List.getElem?_cons_zero,List.getElem?_cons_succ,Option.some.injEq] at ho
    subst ho
    refine⟨?_,?_,?_,?_,?_,?_,?_,?_,?_,?_,?_,?_⟩
    ·simpa using hall {on:=0,ground:=.data} (by simp) rfl
    ·simpa using hall {on:=35,ground:=.data} (by simp) rfl
    ·simpa using hall {on:=3,ground:=.data} (by simp) rfl
    ·simpa using hall {on:=6,ground:=.data} (by simp) rfl
    ·simpa using hall {on:=10,ground:=.data} (by simp) rfl
    ·simpa using hall {on:=14,ground:=.data} (by simp) rfl
    ·simpa using hall {on:=18,ground:=.data} (by simp) rfl
    ·simpa using hall {on:=22,ground:=.data} (by simp) rfl
    ·simpa using hall {on:=26,ground:=.data} (by simp) rfl
    ·simpa using hall {on:=30,ground:=.data} (by simp) rfl
    ·simpa using hall {on:=33,ground:=.data} (by simp) rfl
    ·simpa using hall {on:=36,ground:=.data} (by simp) rfl
   refine wpOp_step (bY rfl) (fun K hK=>?_)
   rw[if_pos (by rfl)]
   have HK:Hid _:=hK
   clear hK
   unfold regAct
   go_simp
   refine HK.out _ _ ⟨hB,c0,b0,b1,b2,b3,b4,b5,b6,b7,b8,b9,c,true,z,t2,t3,_,t3,ks,by simp,rfl,hB,by omega,hK0,hN,fun h=>?_,fun _=>rfl,fun _=>⟨hall2,rfl⟩,fun h=>(by have:=(hz h).1;cases this)⟩
   obtain⟨b,sz,D,e1,e2,e3,e4,e5⟩:=hM h
   exact⟨b,sz,D,e1,e2,e3,by omega,e5⟩
  ·obtain rfl:z=false:=by simpa using h1
   obtain rfl:m=true:=by
    simp only[List.getElem?_toArray,List.getElem?_cons_zero,List.getElem?_cons_succ,Option.some.injEq] at ho
    subst ho
    simpa using hall {on:=37,ground:=.data} (by simp) rfl
   obtain⟨hm1,rfl⟩:=hm rfl
   refine wpOp_step (bY rfl) (fun K hK=>?_)
   rw[if_pos (by rfl)]
   have HK:Hid _:=hK
   clear hK
   unfold regAct
   go_simp
   refine HK.out _ _ ⟨hB,c0,b0,b1,b2,b3,b4,b5,b6,b7,b8,b9,c,true,true,t30,t30,_,t30,ks,by simp,rfl,hB,by omega,hK0,hN,fun h=>?_,fun _=>rfl,fun _=>⟨hm1,rfl⟩,fun _=>⟨rfl,rfl⟩⟩
   obtain⟨b,sz,D,e1,e2,e3,e4,e5⟩:=hM h
   exact⟨b,sz,D,e1,e2,e3,by omega,e5⟩
 ·intro n listed a w1 hI hr
  obtain⟨c0,b0,b1,b2,b3,b4,b5,b6,b7,b8,b9,c,m,z,t2,t3,t29,t30,ks,rfl,rfl,hB,h14,hK0,hN,hM,hC,hm,hz⟩:=hI
  cases c0
  ·exact (cU (i:=0) hr (by kernel_rfl)).elim
  cases b0
  ·exact (cU (i:=3) hr (by kernel_rfl)).elim
  cases b1
  ·exact (cU (i:=6) hr (by kernel_rfl)).elim
  cases b2
  ·exact (cU (i:=10) hr (by kernel_rfl)).elim
  cases b3
  ·exact (cU (i:=14) hr (by kernel_rfl)).elim
  cases b4
  ·exact (cU (i:=18) hr (by kernel_rfl)).elim
  cases b5
  ·exact (cU (i:=22) hr (by kernel_rfl)).elim
  cases b6
  ·exact (cU (i:=26) hr (by kernel_rfl)).elim
  cases b7
  ·exact (cU (i:=30) hr (by kernel_rfl)).elim
  cases b8
  ·exact (cU (i:=33) hr (by kernel_rfl)).elim
  cases c
  ·exact (cU (i:=35) hr (by kernel_rfl)).elim
  cases b9
  ·exact (cU (i:=36) hr (by kernel_rfl)).elim
  cases m
  ·exact (cU (i:=37) hr (by kernel_rfl)).elim
  cases z
  ·exact (cU (i:=38) hr (by kernel_rfl)).elim
  obtain⟨-,rfl⟩:=hz rfl
  obtain⟨-,rfl⟩:=hm rfl
  obtain⟨b,sz,D,rfl,hb,hown,hsz,hD⟩:=hM rfl
  have HR:Hid (RegM w1 b (regB ⟨mo,ba,l,op,oh,ot,st,fe,fp,fh,ft,lo⟩)):=⟨sz,D,ks,hown,hD,fun q=>by rw[hK0 q];simp;omega⟩
  have HB:Hid (Below w.heap.size w w1):=aB B0.out hB
  clear hr hC hm hz hM hN hK0 hown hD hB
  unfold regAct
  go_wp2
  go_ret
  exact⟨b,rfl,HR.out,HB.out⟩
 ·refine⟨false,false,false,false,false,false,false,false,false,false,false,false,false,false,.map none,undef,undef,undef,[],by kernel_rfl,rfl,hHeld,Nat.le_refl _,fun q=>by simp,fun _=>rfl,fun h=>(by cases h),fun h=>(by cases h),fun h=>(by cases h),fun h=>(by cases h)⟩
 ·exact Nat.le_of_eq (by kernel_rfl)
end Go.Proofs.YthlhocneggcekaaGreat
