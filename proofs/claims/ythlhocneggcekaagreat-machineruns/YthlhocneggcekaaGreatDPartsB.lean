/-
  Laid together: PartsB, MRunAt, AppendEr.
-/
import Derived.Test.YthlhocneggcekaaGreatDMRunB
namespace Go.Proofs.YthlhocneggcekaaGreat
open Go.RowKit
theorem Qs.kept {may:Nat→Prop}{a w:World}{v:Value}{l:List Tq}(hs:Qs a v l)(h:KeptB may a w)(hm:∀q,v.ownBlock=some q→¬may q):Qs w v l:=by
 obtain⟨ad,cap,rfl,hl,hc,hs⟩:=hs
 refine⟨ad,cap,rfl,hl,hc,?_⟩
 rcases hs with hs|⟨b,o,rfl,hlt,hc⟩
 ·exact .inl hs
 ·have hbl:=h.block b hlt (hm b (by simp[Value.ownBlock]))
  have hcell:∀j,w.cell? ⟨b,j,none⟩=a.cell? ⟨b,j,none⟩:=fun j=>World.cell?_of_block (a:=⟨b,j,none⟩) hbl
  refine .inr ⟨b,o,rfl,Nat.lt_of_lt_of_le hlt h.size,fun i hi=>?_⟩
  unfold AtQ
  rw[hcell,hcell,hcell,hcell]
  exact hc i hi
theorem Tos.kept {may:Nat→Prop}{a w:World}{base:Nat}{v:Value}{ts:List To}(hs:Tos a base v ts)(h:KeptB may a w)(hf:Fresh base v)(hm:∀q,may q→q<base):Tos w base v ts:=by
 obtain⟨qs,h1,h2⟩:=hs
 exact⟨qs,h1.kept h (fun q hq hb=>by have:=hf q hq;have:=hm q hb;omega),h2.1,fun i hi=>(h2.2 i hi).kept h hm⟩
theorem Tos.keep {a w:World}{base:Nat}{v:Value}{ts:List To}(hs:Tos a base v ts)(h:Below a.heap.size a w):Tos w base v ts:=by
 obtain⟨qs,h1,h2⟩:=hs
 exact⟨qs,h1.keep h,h2.keep h⟩
set_option maxHeartbeats 2000000 in
theorem equalFuncQ {v1 v2:Value}{x y:List Tq}{t:List To}{c1 c2:Nat}{w:World}(h1:Qs w v1 x)(h2:Qs w v2 y)(m1:Means w c1 x t)(m2:Means w c2 y t):
  Calls Tryz.prog 25 #[v1,v2,.func (.func 17) #[] #[]] w fun e w'=>e=.returned (.bool true)∧Below w.heap.size w w':=by
 have hl:x.length=y.length:=m1.1.trans m2.1.symm
 have M1:Hid (Means w c1 x t):=m1
 have M2:Hid (Means w c2 y t):=m2
 clear m1 m2
 obtain⟨a1,k1,rfl,n1,l1,h1⟩:=h1
 obtain⟨a2,k2,rfl,n2,l2,h2⟩:=h2
 unfold maxLen at l1 l2
 have hne:((x.length:Int) !=(y.length:Int))=false:=by simp[hl]
 rcases h1 with rfl|⟨b1,o1,rfl,hb1,hc1⟩
 ·obtain rfl:y=[]:=List.eq_nil_of_length_eq_zero hl.symm
  go_enter Tryz.func25,Tryz.ntmps25
  go_wp2
  go_loopw [7,8,9,17] (fun _ _ _ i w'=>i=J 0∧w'=w) (fun _ _ _ i _=>0)
  case atStart=>exact⟨rfl,rfl⟩
  case round=>
   obtain⟨rfl,rfl⟩:=hrel
   go_wp2
   go_ret
   exact⟨rfl,Below.refl _ _⟩
 ·rcases h2 with rfl|⟨b2,o2,rfl,hb2,hc2⟩
  ·obtain rfl:x=[]:=List.eq_nil_of_length_eq_zero hl
   go_enter Tryz.func25,Tryz.ntmps25
   go_wp2
   go_loopw [7,8,9,17] (fun _ _ _ i w'=>i=J 0∧w'=w) (fun _ _ _ i _=>0)
   case atStart=>exact⟨rfl,rfl⟩
   case round=>
    obtain⟨rfl,rfl⟩:=hrel
    go_wp2
    go_ret
    exact⟨rfl,Below.refl _ _⟩
  have Hl:Hid (x.length=y.length):=hl
  have HC1:Hid _:=hc1
  have HC2:Hid _:=hc2
  clear hl hc1 hc2
  go_enter Tryz.func25,Tryz.ntmps25
  go_wp2
  go_loopw [7,8,9,17] (fun _ _ _ i w'=>∃k:Nat,k≤x.length∧i=J k∧Below w.heap.size w w') (fun _ _ _ i _=>x.length-(intOf i).toNat)
  case atStart=>exact⟨0,Nat.zero_le _,rfl,Below.refl _ _⟩
  case round=>
   obtain⟨k,hk,rfl,hB⟩:=hrel
   have HB:Hid (Below w.heap.size w wr):=hB
   by_cases hlt:k<x.length
   ·have hlt1:(k:Int)<x.length:=by omega
    have hlt2:(k:Int)<y.length:=by have:=Hl.out;omega
    obtain⟨g0,g1,g2,g3⟩:=(HC1.out k hlt).keep hB hb1
    obtain⟨f0,f1,f2,f3⟩:=(HC2.out k (by have:=Hl.out;omega)).keep hB hb2
    have e1:=(M1.out.2 k hlt).keep hB
    have e2:=(M2.out.2 k (by have:=Hl.out;omega)).keep hB
    have s1:b1<wr.heap.size:=Nat.lt_of_lt_of_le hb1 hB.size
    have s2:b2<wr.heap.size:=Nat.lt_of_lt_of_le hb2 hB.size
    obtain⟨p,hp⟩:∃p,p=qth x k:=⟨_,rfl⟩
    obtain⟨q,hq⟩:∃q,q=qth y k:=⟨_,rfl⟩
    obtain⟨T,hT⟩:∃T,T=toth t k:=⟨_,rfl⟩
    rw[←hp] at g0 g1 g2 g3 e1
    rw[←hq] at f0 f1 f2 f3 e2
    rw[←hT] at e1 e2
    clear hp hq hT hB
    rw[e1.done] at g0
    rw[e2.done] at f0
    rw[e1.f] at g2
    rw[e2.f] at f2
    obtain⟨d1,a1,n1',c1',f1',b1',m1',r1'⟩:=p
    obtain⟨d2,a2,n2',c2',f2',b2',m2',r2'⟩:=q
    have E1:Hid (Mean wr c1 _ T):=e1
    have E2:Hid (Mean wr c2 _ T):=e2
    clear e1 e2
    dsimp only at g0 g1 g2 g3 f0 f1 f2 f3
    obtain⟨dn,dat,tf,tch⟩:=T
    dsimp only at g0 g1 g2 g3 f0 f1 f2 f3
    go_wp2_with fail
    refine (sK dn _ _ dat tf _ _ tch _ ?_ ?_ ?_ ?_).mono ?_
    ·exact Sl.keep E1.out.dat (aA (aA (Below.refl _ _) _) _)
    ·exact Sl.keep E2.out.dat (aA (aA (Below.refl _ _) _) _)
    ·exact Ts.keep E1.out.tch (aA (aA (Below.refl _ _) _) _)
    ·exact Ts.keep E2.out.tch (aA (aA (Below.refl _ _) _) _)
    rintro e w1 ⟨rfl,b1⟩
    have B1:Hid (Below w.heap.size w w1):=aB (aA (aA HB.out _) _) b1
    clear b1 g0 g1 g2 g3 f0 f1 f2 f3
    go_wp2
    exact⟨⟨k+1,by omega,by go_num,B1.out⟩,by simp[intOf];omega⟩
   ·go_wp2
    go_ret
    exact⟨rfl,HB.out⟩
theorem aDp {m:Mc}{l:List Hp}{Y:Mc}{ts:List To}{es:List Int}{cs:Array Value}{v:Value}{w:World}(hm:IsM w m cs)(hl:Hps w v l)(h0:rnE m l=0)(hR:rnM m l=(Y,ts,es)):
  Calls Tryz.prog 23 #[.agg cs,v] w fun e w'=>∃cs1 a1 c1 a2 c2,e=.returned (.tuple #[.agg cs1,.slice a1 ts.length c1,.slice a2 es.length c2,J 0])∧IsM w' Y cs1∧Tos w' w.heap.size (.slice a1 ts.length c1) ts∧Sl w' (.slice a2 es.length c2) es∧
   OffRow (fun q=>q<w.heap.size) cs1∧Fresh w.heap.size (.slice a1 ts.length c1)∧Fresh w.heap.size (.slice a2 es.length c2)∧Below w.heap.size w w':=by
 refine (aBf hm hl).mono ?_
 rintro e w' ⟨cs1,a1,c1,a2,c2,rfl,h1,h2,h3,h4,h5,h6,h7⟩
 rw[aBc h0,hR] at *
 rw[h0]
 exact⟨cs1,a1,c1,a2,c2,rfl,h1,h2,h3,h4,h5,h6,h7⟩
theorem aDn {m:Mc}{l:List Hp}(h:rnE m l=0):chkM m=0∧l.length≤120:=by
 unfold rnE at h
 split at h
 ·split at h
  ·exact⟨by assumption,by assumption⟩
  ·simp at h
 ·contradiction
def OwnE (w:World)(base:Nat)(v:Value)(l:List Int):Prop:=w.ownsRow base 41 1 v l.length (l.map (fun z=>J z))
theorem OwnE.nothing (w:World)(base:Nat):OwnE w base (.slice none 0 0) []:=World.ownsRow_nil w base _ _
theorem OwnE.base {w:World}{base:Nat}{v:Value}{l:List Int}(h:OwnE w base v l):∀k,v.ownBlock=some k→base≤k:=fun k hk=>(World.ownsRow.lt h k hk).1
theorem OwnE.lt {w:World}{base:Nat}{v:Value}{l:List Int}(h:OwnE w base v l):∀k,v.ownBlock=some k→k<w.heap.size:=fun k hk=>(World.ownsRow.lt h k hk).2
theorem OwnE.sl {w:World}{base:Nat}{v:Value}{l:List Int}(h:OwnE w base v l)(hm:l.length≤maxLen):Sl w v l:=by
 have h':=h
 rcases h.2 with ⟨rfl,h0⟩|⟨g,cap,cur,rfl,hb,hg,hnc,hcm,hcs,htake⟩
 ·obtain rfl:l=[]:=List.eq_nil_of_length_eq_zero h0
  exact Sl.nil w _ _
 ·refine⟨_,cap,rfl,hm,.inr ⟨g,0,rfl,(World.ownsRow.lt h' g rfl).2,fun i hi=>?_⟩⟩
  rw[Nat.zero_add,World.ownsRow.cellAt h' i (by omega),List.getElem?_map,List.getElem?_eq_getElem hi]
  simp[nth,hi]
theorem OwnE.keep {w w':World}{base:Nat}{v:Value}{l:List Int}(h:OwnE w base v l)(hb:∀k,v.ownBlock=some k→w'.heap[k]?=w.heap[k]?):OwnE w' base v l:=by
 obtain⟨h1,h2⟩:=h
 refine⟨h1,?_⟩
 rcases h2 with h2|⟨g,cap,cur,rfl,hb0,hg,r⟩
 ·exact .inl h2
 ·exact .inr ⟨g,cap,cur,rfl,hb0,by rw[hb g (by simp[Value.ownBlock])];exact hg,r⟩
theorem nO (w:World)(ty:TypeId)(base:Nat)(v x:Value)(l1 l2:List Int)(hown:OwnE w base v l1)(hx:Sl w x l2)(hn:l1.length+l2.length≤1000)(hbase:base≤w.heap.size)(hne:(∃c m n,v=.slice (some c) m n)∨l2≠[]):
  ∃g cap w',(Builtin.append_ #[58,58] ty #[v,x]).run Tryz.prog w=.ok (.slice (some ⟨g,0,none⟩) (l1++l2).length cap) w'∧OwnE w' base (.slice (some ⟨g,0,none⟩) (l1++l2).length cap) (l1++l2)∧w.grownBy w' v.ownBlock∧(v.ownBlock=some g∨g=w.heap.size):=by
 obtain⟨i,hi,hz,hsz,hby⟩:=infoErrno
 obtain⟨a,cap,rfl,hl,h⟩:=hx
 by_cases h0:l2=[]
 ·subst h0
  rcases hown.2 with ⟨rfl,h0⟩|⟨g,c,cur,rfl,hbg,hg,hnc,hcm,hcs,htake⟩
  ·rcases hne with ⟨_,_,_,hne⟩|hne
   ·simp at hne
   ·exact absurd rfl hne
  ·refine⟨g,c,w,?_,?_,⟨rfl,rfl,rfl,Nat.le_refl _,fun _ _ _=>rfl⟩,.inl rfl⟩
   ·cases a <;>
    simp[Builtin.append_,run_underlying Tryz.underlying58,sizeOf,typeInfo,hi,Builtin.lenOf,Builtin.firstCells,loadCells,loadCellsFrom,hnc,storeCells]
   ·simpa using hown
 ·have hne:=h0
  rcases h with rfl|⟨b,o,rfl,hb,hc⟩
  ·exact absurd rfl hne
  ·have hpos:0<l2.length:=List.length_pos_iff.2 hne
   obtain⟨g,c,w',hr,ho,hgr,hat,_⟩:=run_append_lies (P:=Tryz.prog) w 58 ty base 41 i _ 1 8 Tryz.underlying58 hi hz hsz hby rfl (by omega) v l1.length (l1.map (fun z=>J z)) hown ⟨b,o,none⟩ l2.length cap (l2.map (fun z=>J z)) (by simp)
    (fun j u hu=>by
     rw[List.getElem?_map] at hu
     by_cases hj:j<l2.length
     ·rw[List.getElem?_eq_getElem hj] at hu
      simp only[Option.map_some,Option.some.injEq] at hu
      have ha:Addr.add ⟨b,o,none⟩ j=⟨b,o+j,none⟩:=by unfold Addr.add;split <;> simp_all
      rw[ha,hc j hj,←hu]
      simp[nth,hj]
     ·rw[List.getElem?_eq_none (by omega)] at hu
      simp at hu)
    (fun u hu=>by
     obtain⟨z,_,rfl⟩:=List.mem_map.1 hu
     rfl) hpos (by unfold maxLen;omega) (by omega) hbase w.heap.size rfl
   refine⟨g,c,w',?_,?_,hgr,hat⟩
   ·rw[List.length_append];exact hr
   ·unfold OwnE;rw[List.length_append,List.map_append];exact ho
theorem pY {w:World}{o:Oper}{a:Act}{K:Act→World→Prop}{Q:Exit→Act→World→Prop}(s x:Operand)
  (ho:o.op=.call {callee:=.builtin .append,args:=#[s,x],argTypes:=#[58,58]})
  (base:Nat) (v u:Value) (l1 l2:List Int) (hs:a.eval s=v) (hu:a.eval x=u) (hown:OwnE w base v l1) (hx:Sl w u l2) (hn:l1.length+l2.length≤1000) (hbase:base≤w.heap.size) (hne:(∃c m n,v=.slice (some c) m n)∨l2≠[])
  (h:∀g cap w',OwnE w' base (.slice (some ⟨g,0,none⟩) (l1++l2).length cap) (l1++l2)→w.grownBy w' v.ownBlock→Below base w w'→(v.ownBlock=some g∨g=w.heap.size)→K (a.put o.dst (.slice (some ⟨g,0,none⟩) (l1++l2).length cap)) w'):o.wp Tryz.prog a w K Q:=by
 obtain⟨g,cap,w',hr,h2,h3,h4⟩:=nO w o.type base v u l1 l2 hown hx hn hbase hne
 unfold Oper.wp execOp
 simp only[ho,resolve,invoke,builtin,Sem.run_bind,Sem.run_pure,Result.andThen_ok,List.map_toArray,List.map_cons,List.map_nil,hs,hu,hr]
 exact h g cap w' h2 h3 ((Below.refl base w).grown h3 hbase hown.base) h4
theorem yD {w:World}{ops:Array Oper}{rest:List Oper}{o:Oper}{a:Act}{Q:Exit→Act→World→Prop}(hgd:o.guard=none)(s x:Operand)
  (ho:o.op=.call {callee:=.builtin .append,args:=#[s,x],argTypes:=#[58,58]})
  (base:Nat) (v u:Value) (l1 l2:List Int) (hs:a.eval s=v) (hu:a.eval x=u) (hown:OwnE w base v l1) (hx:Sl w u l2) (hn:l1.length+l2.length≤1000) (hbase:base≤w.heap.size) (hne:(∃c m n,v=.slice (some c) m n)∨l2≠[])
  (h:∀g cap w',OwnE w' base (.slice (some ⟨g,0,none⟩) (l1++l2).length cap) (l1++l2)→w.grownBy w' v.ownBlock→Below base w w'→(v.ownBlock=some g∨g=w.heap.size)→wpList Tryz.prog ops Q rest (a.put o.dst (.slice (some ⟨g,0,none⟩) (l1++l2).length cap)) w'):
  wpList Tryz.prog ops Q (o::rest) a w:=
 wpList_plain hgd fun _ hK=>pY s x ho base v u l1 l2 hs hu hown hx hn hbase hne fun g cap w' h2 h3 hb h4=>hK _ _ (h g cap w' h2 h3 hb h4)
end Go.Proofs.YthlhocneggcekaaGreat
