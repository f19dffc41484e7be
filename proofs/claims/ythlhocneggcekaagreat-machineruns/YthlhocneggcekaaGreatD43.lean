/-
  Laid together: ToldL, ToldS, Hps, Tables, DrivenMath, EqualE, Open0, Open, OpenH, OpenL, OpenR, OpenB, OpenMc.
-/
import Derived.Test.YthlhocneggcekaaGreatD12
import Derived.ProofKit
import Derived.OpenShut
import Derived.ShutString
import Derived.ChangeOld
import Derived.Deep.Slices
namespace Go.Proofs.YthlhocneggcekaaGreat
open Go.RowKit
structure Tq where
 done:Bool
 da:Option Addr
 dn:Nat
 dc:Nat
 f:Int
 ta:Option Addr
 tn:Nat
 tc:Nat
def qth (l:List Tq)(i:Nat):Tq:=(l[i]?).getD ⟨false,none,0,0,0,none,0,0⟩
def cellsQ (x:Tq):List Value:=[.bool x.done,.slice x.da x.dn x.dc,J x.f,.slice x.ta x.tn x.tc]
def AtQ (w:World)(b o:Nat)(x:Tq):Prop:=
 w.cell? ⟨b,o,none⟩=some (.bool x.done)∧w.cell? ⟨b,o+1,none⟩=some (.slice x.da x.dn x.dc)∧w.cell? ⟨b,o+2,none⟩=some (J x.f)∧w.cell? ⟨b,o+3,none⟩=some (.slice x.ta x.tn x.tc)
def Qs (w:World)(v:Value)(l:List Tq):Prop:=
 ∃a cap,v=.slice a l.length cap∧l.length≤cap∧cap≤maxLen∧
  (l=[]∨∃b o,a=some ⟨b,o,none⟩∧b<w.heap.size∧∀i,i<l.length→AtQ w b (o+i*4) (qth l i))
theorem AtQ.keep {w w':World}{b o:Nat}{x:Tq}(h:AtQ w b o x)(hb:Below w.heap.size w w')(hl:b<w.heap.size):AtQ w' b o x:=by
 obtain⟨c,_⟩:=bcell hb
 unfold AtQ
 rw[c _ _ hl,c _ _ hl,c _ _ hl,c _ _ hl]
 exact h
theorem Qs.keep {w w':World}{v:Value}{l:List Tq}(h:Qs w v l)(hb:Below w.heap.size w w'):Qs w' v l:=by
 obtain⟨a,cap,rfl,hl,hm,h⟩:=h
 refine⟨a,cap,rfl,hl,hm,?_⟩
 rcases h with h|⟨b,o,rfl,hlt,hc⟩
 ·exact .inl h
 ·exact .inr ⟨b,o,rfl,Nat.lt_of_lt_of_le hlt hb.size,fun i hi=>(hc i hi).keep hb hlt⟩
theorem Qs.nil (w:World)(a:Option Addr)(cap:Nat)(h:cap≤maxLen):Qs w (.slice a 0 cap) []:=⟨a,cap,rfl,Nat.zero_le _,h,.inl rfl⟩
theorem Qs.nothing (w:World):Qs w (.slice none 0 0) []:=Qs.nil w _ _ (Nat.zero_le _)
theorem infoTold:∃i,Tryz.prog.info? 40=some i∧i.zero=some (.agg zT)∧i.size=4∧i.bytes=64:=by
 have h:(Tryz.prog.info? 40).map (fun i=>(i.zero,i.size,i.bytes))=some (some (.agg zT),4,64):=by kernel_rfl
 cases hi:Tryz.prog.info? 40 with
 | none=>rw[hi] at h;simp at h
 | some i=>rw[hi] at h;simp at h;exact⟨i,rfl,h.1,h.2.1,h.2.2⟩
theorem gD (x:Tq):(cellsQ x).length=4:=rfl
theorem kC (l:List Tq):(l.flatMap cellsQ).length=l.length*4:=by
 induction l with
 | nil=>rfl
 | cons x t ih=>rw[List.flatMap_cons,List.length_append,ih,gD,List.length_cons];omega
theorem aA6 (x:Tq)(t:List Tq)(i:Nat):qth (x::t) (i+1)=qth t i:=by simp[qth]
theorem jR (l:List Tq):∀(i r:Nat),i<l.length→r<4→(l.flatMap cellsQ)[i*4+r]?=(cellsQ (qth l i))[r]?:=by
 induction l with
 | nil=>intro i r hi _;exact absurd hi (Nat.not_lt_zero _)
 | cons x t ih=>
  intro i r hi hr
  rw[List.flatMap_cons]
  cases i with
  | zero=>
   rw[Nat.zero_mul,Nat.zero_add,List.getElem?_append_left (by rw[gD];exact hr)]
   rfl
  | succ i=>
   rw[List.getElem?_append_right (by rw[gD];omega),gD,aA6,←ih i r (by simpa using hi) hr]
   congr 1;omega
theorem aA7 {l:List Tq}{j:Nat}{u:Value}(h:(l.flatMap cellsQ)[j]?=some u):∃i r,i<l.length∧r<4∧j=i*4+r∧(cellsQ (qth l i))[r]?=some u:=by
 have hj:j<l.length*4:=by
  rw[←kC]
  rcases Nat.lt_or_ge j (l.flatMap cellsQ).length with k|k
  ·exact k
  ·rw[List.getElem?_eq_none k] at h;cases h
 refine⟨j/4,j%4,by omega,by omega,by omega,?_⟩
 rw[←jR l (j/4) (j%4) (by omega) (by omega),←h]
 congr 1;omega
theorem xW (l:List Tq):∀u∈l.flatMap cellsQ,u.oneCell'=true:=by
 intro u hu
 obtain⟨x,_,hx⟩:=List.mem_flatMap.1 hu
 simp only[cellsQ,List.mem_cons,List.not_mem_nil,or_false] at hx
 rcases hx with rfl|rfl|rfl|rfl <;> rfl
theorem aA8 {w:World}{b o:Nat}{x:Tq}(h:AtQ w b o x){r:Nat}{u:Value}(hr:r<4)(hu:(cellsQ x)[r]?=some u):w.cell? ⟨b,o+r,none⟩=some u:=by
 obtain⟨h0,h1,h2,h3⟩:=h
 match r,hr with
 | 0,_=>simp[cellsQ] at hu;subst hu;exact h0
 | 1,_=>simp[cellsQ] at hu;subst hu;exact h1
 | 2,_=>simp[cellsQ] at hu;subst hu;exact h2
 | 3,_=>simp[cellsQ] at hu;subst hu;exact h3
def OwnQ (w:World)(base:Nat)(v:Value)(l:List Tq):Prop:=w.ownsRow base 40 4 v l.length (l.flatMap cellsQ)
theorem OwnQ.nothing (w:World)(base:Nat):OwnQ w base (.slice none 0 0) []:=World.ownsRow_nil w base _ _
theorem OwnQ.ls {w:World}{base:Nat}{v:Value}{l:List Tq}(h:OwnQ w base v l):Qs w v l:=by
 have h':=h
 rcases h.2 with ⟨rfl,h0⟩|⟨g,cap,cur,rfl,hb,hg,hnc,hcm,hcs,htake⟩
 ·obtain rfl:l=[]:=List.eq_nil_of_length_eq_zero h0
  exact Qs.nothing w
 ·refine⟨_,cap,rfl,hnc,hcm,.inr ⟨g,0,rfl,?_,fun i hi=>?_⟩⟩
  ·exact (h.lt g rfl).2
  ·have hc:∀r,r<4→w.cell? ⟨g,0+i*4+r,none⟩=(cellsQ (qth l i))[r]?:=fun r hr=>by
    rw[Nat.zero_add]
    have:=h.cellAt (i*4+r) (by omega)
    rw[this,jR l i r hi hr]
   exact⟨hc 0 (by omega),hc 1 (by omega),hc 2 (by omega),hc 3 (by omega)⟩
theorem OwnQ.base {w:World}{base:Nat}{v:Value}{l:List Tq}(h:OwnQ w base v l):∀k,v.ownBlock=some k→base≤k:=fun k hk=>(World.ownsRow.lt h k hk).1
theorem pW (w:World)(ty:TypeId)(base:Nat)(v x:Value)(l1 l2:List Tq)(hown:OwnQ w base v l1)(hx:Qs w x l2)(hn:l1.length+l2.length≤1000)(hbase:base≤w.heap.size)(hne:(∃c m n,v=.slice (some c) m n)∨l2≠[]):
  ∃g cap w',(Builtin.append_ #[57,57] ty #[v,x]).run Tryz.prog w=.ok (.slice (some ⟨g,0,none⟩) (l1++l2).length cap) w'∧OwnQ w' base (.slice (some ⟨g,0,none⟩) (l1++l2).length cap) (l1++l2)∧w.grownBy w' v.ownBlock∧(v.ownBlock=some g∨g=w.heap.size):=by
 obtain⟨i,hi,hz,hsz,hby⟩:=infoTold
 obtain⟨a,cap,rfl,hl,hm,h⟩:=hx
 rcases h with rfl|⟨b,o,rfl,hb,hc⟩
 ·rcases hown.2 with ⟨rfl,h0⟩|⟨g,c,cur,rfl,hbg,hg,hnc,hcm,hcs,htake⟩
  ·rcases hne with ⟨_,_,_,hne⟩|hne
   ·simp at hne
   ·exact absurd rfl hne
  ·refine⟨g,c,w,?_,?_,⟨rfl,rfl,rfl,Nat.le_refl _,fun _ _ _=>rfl⟩,.inl rfl⟩
   ·cases a <;>
    simp[Builtin.append_,run_underlying Tryz.underlying57,sizeOf,typeInfo,hi,Builtin.lenOf,Builtin.firstCells,loadCells,loadCellsFrom,hnc,storeCells]
   ·simpa using hown
 ·by_cases h0:l2=[]
  ·subst h0
   rcases hown.2 with ⟨rfl,h0⟩|⟨g,c,cur,rfl,hbg,hg,hnc,hcm,hcs,htake⟩
   ·rcases hne with ⟨_,_,_,hne⟩|hne
    ·simp at hne
    ·exact absurd rfl hne
   ·refine⟨g,c,w,?_,?_,⟨rfl,rfl,rfl,Nat.le_refl _,fun _ _ _=>rfl⟩,.inl rfl⟩
    ·simp[Builtin.append_,run_underlying Tryz.underlying57,sizeOf,typeInfo,hi,Builtin.lenOf,Builtin.firstCells,loadCells,loadCellsFrom,hnc,storeCells]
    ·simpa using hown
  ·have hpos:0<l2.length:=List.length_pos_iff.2 h0
   obtain⟨g,c,w',hr,ho,hgr,hat,_⟩:=run_append_lies (P:=Tryz.prog) w 57 ty base 40 i _ 4 64 Tryz.underlying57 hi hz hsz hby rfl (by omega) v l1.length (l1.flatMap cellsQ) hown ⟨b,o,none⟩ l2.length cap (l2.flatMap cellsQ) (kC l2)
    (fun j u hu=>by
     obtain⟨i',r,h1,h2,rfl,h4⟩:=aA7 hu
     rw[kW,←Nat.add_assoc]
     exact aA8 (hc i' h1) h2 h4)
    (xW l2) hpos (by unfold maxLen;omega) (by omega) hbase w.heap.size rfl
   refine⟨g,c,w',?_,?_,hgr,hat⟩
   ·rw[List.length_append];exact hr
   ·unfold OwnQ;rw[List.length_append,List.flatMap_append];exact ho
theorem sQ {w:World}{o:Oper}{a:Act}{K:Act→World→Prop}{Q:Exit→Act→World→Prop}(s x:Operand)
  (ho:o.op=.call {callee:=.builtin .append,args:=#[s,x],argTypes:=#[57,57]})
  (base:Nat) (v u:Value) (l1 l2:List Tq) (hs:a.eval s=v) (hu:a.eval x=u) (hown:OwnQ w base v l1) (hx:Qs w u l2) (hn:l1.length+l2.length≤1000) (hbase:base≤w.heap.size) (hne:(∃c m n,v=.slice (some c) m n)∨l2≠[])
  (h:∀g cap w',OwnQ w' base (.slice (some ⟨g,0,none⟩) (l1++l2).length cap) (l1++l2)→w.grownBy w' v.ownBlock→Below base w w'→(v.ownBlock=some g∨g=w.heap.size)→K (a.put o.dst (.slice (some ⟨g,0,none⟩) (l1++l2).length cap)) w'):o.wp Tryz.prog a w K Q:=by
 obtain⟨g,cap,w',hr,h2,h3,h4⟩:=pW w o.type base v u l1 l2 hown hx hn hbase hne
 unfold Oper.wp execOp
 simp only[ho,resolve,invoke,builtin,Sem.run_bind,Sem.run_pure,Result.andThen_ok,List.map_toArray,List.map_cons,List.map_nil,hs,hu,hr]
 exact h g cap w' h2 h3 ((Below.refl base w).grown h3 hbase hown.base) h4
theorem yF {w:World}{ops:Array Oper}{rest:List Oper}{o:Oper}{a:Act}{Q:Exit→Act→World→Prop}(hgd:o.guard=none)(s x:Operand)
  (ho:o.op=.call {callee:=.builtin .append,args:=#[s,x],argTypes:=#[57,57]})
  (base:Nat) (v u:Value) (l1 l2:List Tq) (hs:a.eval s=v) (hu:a.eval x=u) (hown:OwnQ w base v l1) (hx:Qs w u l2) (hn:l1.length+l2.length≤1000) (hbase:base≤w.heap.size) (hne:(∃c m n,v=.slice (some c) m n)∨l2≠[])
  (h:∀g cap w',OwnQ w' base (.slice (some ⟨g,0,none⟩) (l1++l2).length cap) (l1++l2)→w.grownBy w' v.ownBlock→Below base w w'→(v.ownBlock=some g∨g=w.heap.size)→wpList Tryz.prog ops Q rest (a.put o.dst (.slice (some ⟨g,0,none⟩) (l1++l2).length cap)) w'):
  wpList Tryz.prog ops Q (o::rest) a w:=
 wpList_plain hgd fun _ hK=>sQ s x ho base v u l1 l2 hs hu hown hx hn hbase hne fun g cap w' h2 h3 hb h4=>hK _ _ (h g cap w' h2 h3 hb h4)
theorem qs_oneAt {w:World}{n:Nat}(h:n=w.heap.size)(x:Tq)(fr:Nat × Nat):Qs (w.alloc (.cells #[.bool x.done,.slice x.da x.dn x.dc,J x.f,.slice x.ta x.tn x.tc] 40 fr)) (.slice (some ⟨n,0,none⟩) 1 1) [x]:=by
 subst h
 have k:=Blk.new w #[.bool x.done,.slice x.da x.dn x.dc,J x.f,.slice x.ta x.tn x.tc] 40 fr
 refine⟨_,1,rfl,Nat.le_refl _,by simp[maxLen],.inr ⟨w.heap.size,0,rfl,by simp,fun i hi=>?_⟩⟩
 obtain rfl:i=0:=by simpa using hi
 exact⟨k.cell 0,k.cell 1,k.cell 2,k.cell 3⟩
theorem OwnQ.lt {w:World}{base:Nat}{v:Value}{l:List Tq}(h:OwnQ w base v l):∀k,v.ownBlock=some k→k<w.heap.size:=fun k hk=>(World.ownsRow.lt h k hk).2
theorem OwnQ.keep {w w':World}{base:Nat}{v:Value}{l:List Tq}(h:OwnQ w base v l)(hb:∀k,v.ownBlock=some k→w'.heap[k]?=w.heap[k]?):OwnQ w' base v l:=by
 obtain⟨h1,h2⟩:=h
 refine⟨h1,?_⟩
 rcases h2 with h2|⟨g,cap,cur,rfl,hb0,hg,r⟩
 ·exact .inl h2
 ·exact .inr ⟨g,cap,cur,rfl,hb0,by rw[hb g (by simp[Value.ownBlock])];exact hg,r⟩
theorem OwnQ.below {w w':World}{base:Nat}{v:Value}{l:List Tq}(h:OwnQ w base v l)(hb:Below w.heap.size w w'):OwnQ w' base v l:=h.keep fun k hk=>hb.block k (h.lt k hk)
structure Mean (w:World)(base:Nat)(x:Tq)(t:To):Prop where
 done:x.done=t.done
 f:x.f=t.f
 dat:Sl w (.slice x.da x.dn x.dc) t.dat
 tch:Ts w (.slice x.ta x.tn x.tc) t.tch
 fd:Fresh base (.slice x.da x.dn x.dc)
 ft:Fresh base (.slice x.ta x.tn x.tc)
theorem Mean.keep {w w':World}{base:Nat}{x:Tq}{t:To}(h:Mean w base x t)(hb:Below w.heap.size w w'):Mean w' base x t:=⟨h.done,h.f,h.dat.keep hb,h.tch.keep hb,h.fd,h.ft⟩
theorem Mean.mono {w:World}{a b:Nat}{x:Tq}{t:To}(h:Mean w b x t)(k:a≤b):Mean w a x t:=⟨h.done,h.f,h.dat,h.tch,h.fd.mono k,h.ft.mono k⟩
def toth (l:List To)(i:Nat):To:=(l[i]?).getD ⟨false,[],0,[]⟩
def Means (w:World)(base:Nat)(qs:List Tq)(ts:List To):Prop:=qs.length=ts.length∧∀i,i<qs.length→Mean w base (qth qs i) (toth ts i)
theorem Means.keep {w w':World}{base:Nat}{x:List Tq}{t:List To}(h:Means w base x t)(hb:Below w.heap.size w w'):Means w' base x t:=⟨h.1,fun i hi=>(h.2 i hi).keep hb⟩
theorem Means.nil (w:World)(base:Nat):Means w base [] []:=⟨rfl,fun _ hi=>absurd hi (Nat.not_lt_zero _)⟩
theorem Means.append {w:World}{base:Nat}{x y:List Tq}{t u:List To}(h:Means w base x t)(k:Means w base y u):Means w base (x++y) (t++u):=by
 refine⟨by rw[List.length_append,List.length_append,h.1,k.1],fun i hi=>?_⟩
 rw[List.length_append] at hi
 by_cases hl:i<x.length
 ·have e1:qth (x++y) i=qth x i:=by unfold qth;rw[List.getElem?_append_left hl]
  have e2:toth (t++u) i=toth t i:=by unfold toth;rw[List.getElem?_append_left (by rw[←h.1];exact hl)]
  rw[e1,e2];exact h.2 i hl
 ·have e1:qth (x++y) i=qth y (i-x.length):=by unfold qth;rw[List.getElem?_append_right (by omega)]
  have e2:toth (t++u) i=toth u (i-x.length):=by unfold toth;rw[List.getElem?_append_right (by rw[←h.1];omega),h.1]
  rw[e1,e2];exact k.2 _ (by omega)
theorem Means.one {w:World}{base:Nat}{x:Tq}{t:To}(h:Mean w base x t):Means w base [x] [t]:=⟨rfl,fun i hi=>by
 obtain rfl:i=0:=by simpa using hi
 exact h⟩
theorem oJ (x:Tq):∀(qs:List Tq) (k:Nat),k<qs.length→((((qs.flatMap cellsQ).set (k*4) (.bool x.done)).set (k*4+1) (.slice x.da x.dn x.dc)).set (k*4+2) (J x.f)).set (k*4+3) (.slice x.ta x.tn x.tc)=(qs.set k x).flatMap cellsQ
 | [],k,h=>absurd h (Nat.not_lt_zero _)
 | q::t,0,_=>by simp[cellsQ]
 | q::t,k+1,h=>by
  have ih:=oJ x t k (by simpa using h)
  rw[List.set_cons_succ,List.flatMap_cons,List.flatMap_cons,←ih]
  have e0:(k+1)*4=k*4+1+1+1+1:=by omega
  rw[e0]
  simp[cellsQ]
def told4 (qs:List Tq):Array Value:=(qs.flatMap cellsQ).toArray
theorem Box.setQ {w:World}{n:Nat}{t:TypeId}{qs:List Tq}(h:Box w n t (told4 qs)){k:Nat}(hk:k<qs.length)(x:Tq):
  Box ((((w.setCell ⟨n,k*4,none⟩ (.bool x.done)).setCell ⟨n,k*4+1,none⟩ (.slice x.da x.dn x.dc)).setCell ⟨n,k*4+2,none⟩ (J x.f)).setCell ⟨n,k*4+3,none⟩ (.slice x.ta x.tn x.tc)) n t (told4 (qs.set k x)):=by
 have h4:=(((h.set (k*4) (.bool x.done)).set (k*4+1) (.slice x.da x.dn x.dc)).set (k*4+2) (J x.f)).set (k*4+3) (.slice x.ta x.tn x.tc)
 have e:((((told4 qs).setIfInBounds (k*4) (.bool x.done)).setIfInBounds (k*4+1) (.slice x.da x.dn x.dc)).setIfInBounds (k*4+2) (J x.f)).setIfInBounds (k*4+3) (.slice x.ta x.tn x.tc)=told4 (qs.set k x):=by
  unfold told4
  rw[←oJ x qs k hk]
  simp only[List.setIfInBounds_toArray]
 rw[e] at h4
 exact h4
theorem Box.qs {w:World}{n:Nat}{t:TypeId}{qs:List Tq}(h:Box w n t (told4 qs))(hm:qs.length≤maxLen):Qs w (.slice (some ⟨n,0,none⟩) qs.length qs.length) qs:=by
 refine⟨_,qs.length,rfl,Nat.le_refl _,hm,.inr ⟨n,0,rfl,h.lt,fun i hi=>?_⟩⟩
 have hc:∀r,r<4→w.cell? ⟨n,0+i*4+r,none⟩=(cellsQ (qth qs i))[r]?:=fun r hr=>by
  rw[Nat.zero_add,h.cell,told4,List.getElem?_toArray,jR qs i r hi hr]
 exact⟨hc 0 (by omega),hc 1 (by omega),hc 2 (by omega),hc 3 (by omega)⟩
theorem Box.atQ {w:World}{n:Nat}{t:TypeId}{qs:List Tq}(h:Box w n t (told4 qs)){i:Nat}(hi:i<qs.length):AtQ w n (i*4) (qth qs i):=by
 have hc:∀r,r<4→w.cell? ⟨n,i*4+r,none⟩=(cellsQ (qth qs i))[r]?:=fun r hr=>by
  rw[h.cell,told4,List.getElem?_toArray,jR qs i r hi hr]
 exact⟨hc 0 (by omega),hc 1 (by omega),hc 2 (by omega),hc 3 (by omega)⟩
def said1 (zs:List Int):Array Value:=(zs.map (fun z=>J z)).toArray
theorem Box.setE {w:World}{n:Nat}{t:TypeId}{zs:List Int}(h:Box w n t (said1 zs))(k:Nat)(z:Int):Box (w.setCell ⟨n,k,none⟩ (J z)) n t (said1 (zs.set k z)):=by
 have h1:=h.set k (J z)
 have e:(said1 zs).setIfInBounds k (J z)=said1 (zs.set k z):=by
  unfold said1
  rw[List.map_set,List.setIfInBounds_toArray]
 rw[e] at h1
 exact h1
theorem Box.sl {w:World}{n:Nat}{t:TypeId}{zs:List Int}(h:Box w n t (said1 zs))(hm:zs.length≤maxLen):Sl w (.slice (some ⟨n,0,none⟩) zs.length zs.length) zs:=
 bG h (by simp[said1]) rfl hm
theorem Box.atE {w:World}{n:Nat}{t:TypeId}{zs:List Int}(h:Box w n t (said1 zs)){i:Nat}(hi:i<zs.length):w.cell? ⟨n,i,none⟩=some (J (nth zs i)):=by
 rw[h.cell,said1,List.getElem?_toArray,List.getElem?_map,getElem?_nth hi];rfl
def q0:Tq:=⟨false,none,0,0,0,none,0,0⟩
theorem uK (n:Nat):madeCells (zT:Array Value) (n*4)=told4 (List.replicate n q0):=by
 apply Array.ext_getElem?
 intro i
 by_cases hi:i<n*4
 ·have h:=jR (List.replicate n q0) (i/4) (i%4) (by simp;omega) (by omega)
  have e:i/4*4+i%4=i:=by omega
  have e2:qth (List.replicate n q0) (i/4)=q0:=by unfold qth;rw[List.getElem?_replicate,if_pos (by omega)];rfl
  rw[e,e2] at h
  unfold told4 madeCells
  rw[Array.getElem?_map,Array.getElem?_range,if_pos hi,List.getElem?_toArray,h]
  have h4:i%4=0∨i%4=1∨i%4=2∨i%4=3:=by omega
  rcases h4 with h4|h4|h4|h4 <;> simp[h4,cellsQ,q0]
 ·rw[Array.getElem?_eq_none (by rw[size_madeCells];omega),Array.getElem?_eq_none (by simp only[told4,List.size_toArray,kC,List.length_replicate];omega)]
theorem uL (n:Nat):madeCells (#[J 0]:Array Value) (n*1)=said1 (List.replicate n 0):=by
 apply Array.ext_getElem?
 intro i
 by_cases hi:i<n*1
 ·unfold said1 madeCells
  rw[Array.getElem?_map,Array.getElem?_range,if_pos hi,List.getElem?_toArray,List.getElem?_map,List.getElem?_replicate,if_pos (by omega)]
  have h4:i%1=0:=by omega
  simp[h4]
 ·rw[Array.getElem?_eq_none (by rw[size_madeCells];omega),Array.getElem?_eq_none (by simp[said1];omega)]
def hpth (l:List Hp)(i:Nat):Hp:=(l[i]?).getD ⟨0,0,0,0,0,false,[]⟩
def AtHp (w:World)(b o:Nat)(x:Hp):Prop:=
 ∃u,w.cell? ⟨b,o,none⟩=some (J x.kind)∧w.cell? ⟨b,o+1,none⟩=some (J x.num)∧w.cell? ⟨b,o+2,none⟩=some (J x.d)∧w.cell? ⟨b,o+3,none⟩=some (J x.a)∧w.cell? ⟨b,o+4,none⟩=some (J x.n)∧w.cell? ⟨b,o+5,none⟩=some (.bool x.wr)∧w.cell? ⟨b,o+6,none⟩=some u∧Slc w u x.ds
def Hps (w:World)(v:Value)(l:List Hp):Prop:=
 ∃a cap,v=.slice a l.length cap∧l.length≤cap∧cap≤maxLen∧
  (l=[]∨∃b o,a=some ⟨b,o,none⟩∧b<w.heap.size∧∀i,i<l.length→AtHp w b (o+i*7) (hpth l i))
theorem Hps.nil (w:World)(a:Option Addr)(cap:Nat)(h:cap≤maxLen):Hps w (.slice a 0 cap) []:=⟨a,cap,rfl,Nat.zero_le _,h,.inl rfl⟩
theorem AtHp.keep {w w':World}{b o:Nat}{x:Hp}(h:AtHp w b o x)(hb:Below w.heap.size w w')(hl:b<w.heap.size):AtHp w' b o x:=by
 obtain⟨c,_⟩:=bcell hb
 obtain⟨u,h0,h1,h2,h3,h4,h5,h6,h7⟩:=h
 exact⟨u,(c b _ hl).trans h0,(c b _ hl).trans h1,(c b _ hl).trans h2,(c b _ hl).trans h3,(c b _ hl).trans h4,(c b _ hl).trans h5,(c b _ hl).trans h6,⟨h7.1.keep hb,h7.2⟩⟩
theorem Hps.keep {w w':World}{v:Value}{l:List Hp}(h:Hps w v l)(hb:Below w.heap.size w w'):Hps w' v l:=by
 obtain⟨a,cap,rfl,hl,hm,h⟩:=h
 refine⟨a,cap,rfl,hl,hm,h.imp id ?_⟩
 rintro⟨b,o,rfl,hbl,hc⟩
 exact⟨b,o,rfl,Nat.lt_of_lt_of_le hbl hb.size,fun i hi=>(hc i hi).keep hb hbl⟩
theorem Hps.shape {w:World}{v:Value}{l:List Hp}(h:Hps w v l):∃a cap,v=.slice a l.length cap:=by
 obtain⟨a,cap,h,_⟩:=h;exact⟨a,cap,h⟩
def tab:List Int:=wth [9,33,10,3,16,49,24,159,25,139] 5
theorem kZ:tab.length=512:=iT _ _
set_option maxHeartbeats 4000000 in
theorem uM (w:World):Calls Tryz.prog 40 #[] w fun e w'=>
  ∃g,e=.returned (.tuple #[.agg #[.slice (some ⟨g,0,none⟩) 512 512],.agg (rB 2 1 (.slice none 0 0) 40 0 0 false 0 41 0 0 false)])∧w'.heap[g]?=some (.cells (intCells tab) 3 (0,0))∧w.heap.size≤g∧Below w.heap.size w w':=by
 go_enter Tryz.func40,Tryz.ntmps40
 go_wp2_with fail
 refine (yM _ 0 10 [9,33,10,3,16,49,24,159,25,139] 5 _ ?_ rfl (by decide) (by decide)).mono ?_
 ·exact bG (aY (by simp)) rfl rfl (by simp[maxLen])
 rintro e w1 ⟨g,rfl,hS,b1,hg,cs,hgc,hcs⟩
 have X0:=(((Box.newAt (n:=w.heap.size) rfl 24 #[.slice none 0 0]).past _).past _).keep b1
 have X1:=((Box.newAt (n:=w.heap.size+1) (by simp) 31 zB).past _).keep b1
 have B1:Hid (Below w.heap.size w w1):=aB (aA (aA (aA (Below.refl _ _) _) _) _) b1
 have hg':w.heap.size+1+1+1≤g:=by simpa using hg
 have hcc:cs=intCells tab:=by
  apply Array.ext'
  rw[hcs,bX];rfl
 have HG:Hid (w1.heap[g]?=some (.cells (intCells tab) 3 (0,0))):=by show _=_;rw[hgc,hcc]
 clear b1 hS hg hgc hcs hcc
 obtain⟨r0,r1,s0⟩:=X0.one
 obtain⟨⟨u0,u1,u2,u3,u4,u5,u6,u7,u8,u9,u10,u11⟩,s1⟩:=X1.twelve
 obtain⟨y0,y1,y2,y3,y4,y5,y6,y7,y8,y9,y10,y11⟩:=X1.marks
 go_wp2
 refine bodyPost_ret (v:=.tuple #[.agg #[.slice (some ⟨g,0,none⟩) 512 512],.agg (rB 2 1 (.slice none 0 0) 40 0 0 false 0 41 0 0 false)]) (by simp[results,Tryz.results40,go_sem, *]) rfl ⟨g,rfl,?_,by omega,?_⟩
 ·exact (Box.other (p:=⟨w.heap.size,0,none⟩) HG.out (by dsimp only;omega) _).other12 (by omega) _ _ _ _ _ _ _ _ _ _ _ _
 ·exact aJ (by omega) (aI (p:=⟨w.heap.size,0,none⟩) (Nat.le_refl _) B1.out _) _ _ _ _ _ _ _ _ _ _ _ _
theorem sl_tab {w:World}{g:Nat}{zs:List Int}(h:w.heap[g]?=some (.cells (intCells zs) 3 (0,0)))(hl:zs.length=512):Sl w (.slice (some ⟨g,0,none⟩) 512 512) zs:=
 bG h (bX _) hl.symm (by rw[hl];simp[maxLen])
def dvn:List Int:=((((wth [9,33,10,3,16,49,24,159,25,139] 5).set 100 4096).set 101 4632).set 102 20544).set 320 1
def dv0:Mc:=⟨dvn,⟨100,[0,0,0,0,0,0,0,0],false⟩,⟨2,1,[],40,0,1,false,0,41,0,0,false⟩⟩
def dvA:Hp:=⟨3,0,1,1,1,false,[]⟩
def dvS:Hp:=⟨1,0,0,0,0,false,[]⟩
def dvO:Hp:=⟨2,0,0,0,0,false,[]⟩
def dvL:List Hp:=[dvA,dvS,dvS,dvS,dvA,dvO,dvA,dvO]
theorem dv_len:dvn.length=512:=by simp only[dvn,List.length_set];exact iT _ _
theorem vM:chkM dv0=0:=by decide +kernel
theorem aCl:(rnM dv0 dvL).2.2=[0,0,0,0,0,0,0,6]:=by decide +kernel
theorem aCm:((rnM dv0 dvL).2.1.map (fun t=>(t.done,t.f)))=[(true,0),(false,0),(false,0),(false,0),(true,0),(false,0),(false,3),(false,0)]:=by decide +kernel
theorem aCn:nth (rnM dv0 dvL).1.zs 328=11:=by decide +kernel
theorem aCo:(rnM dv0 dvL).1.b.cache=[]:=by decide +kernel
theorem uN (v1 v2:Value)(xs ys:List Int)(w:World)(h1:Sl w v1 xs)(h2:Sl w v2 ys):
  Calls Tryz.prog 24 #[v1,v2] w fun e w'=>e=.returned (.bool (decide (xs=ys)))∧∃n,w'=w.drewN n:=by
 obtain⟨a1,c1,rfl,l1,h1⟩:=h1
 obtain⟨a2,c2,rfl,l2,h2⟩:=h2
 unfold maxLen at l1 l2
 by_cases hl:xs.length=ys.length
 ·have hne:((xs.length:Int) !=(ys.length:Int))=false:=by simp[hl]
  rcases h1 with rfl|⟨b1,o1,rfl,hb1,hc1⟩
  ·obtain rfl:ys=[]:=List.eq_nil_of_length_eq_zero hl.symm
   go_enter Tryz.func24,Tryz.ntmps24
   go_wp2
   go_loopw [5,13] (fun _ i w'=>i=J 0∧w'=w) (fun _ i _=>0)
   case atStart=>exact⟨rfl,rfl⟩
   case round=>
    obtain⟨rfl,rfl⟩:=hrel
    go_wp2
    go_ret
    exact⟨rfl,0,rfl⟩
  ·rcases h2 with rfl|⟨b2,o2,rfl,hb2,hc2⟩
   ·obtain rfl:xs=[]:=List.eq_nil_of_length_eq_zero hl
    go_enter Tryz.func24,Tryz.ntmps24
    go_wp2
    go_loopw [5,13] (fun _ i w'=>i=J 0∧w'=w) (fun _ i _=>0)
    case atStart=>exact⟨rfl,rfl⟩
    case round=>
     obtain⟨rfl,rfl⟩:=hrel
     go_wp2
     go_ret
     exact⟨rfl,0,rfl⟩
   have Hl:Hid (xs.length=ys.length):=hl
   have hle:(xs.length:Int)≤ys.length:=by omega
   have H1:=hc1
   have H2:=hc2
   clear hl hc1 hc2
   have HC1:Hid _:=H1
   have HC2:Hid _:=H2
   clear H1 H2
   go_enter Tryz.func24,Tryz.ntmps24
   go_wp2
   go_loopw [5,13] (fun _ i w'=>∃k:Nat,k≤xs.length∧i=J k∧(∀j,j<k→nth xs j=nth ys j)∧∃n,w'=w.drewN n) (fun _ i _=>xs.length-(intOf i).toNat)
   case atStart=>exact⟨0,Nat.zero_le _,rfl,fun j hj=>absurd hj (Nat.not_lt_zero _),0,rfl⟩
   case round=>
    obtain⟨k,hk,rfl,hpre,n,rfl⟩:=hrel
    have HP:Hid (∀j,j<k→nth xs j=nth ys j):=hpre
    clear hpre
    by_cases hlt:k<xs.length
    ·have g1:=HC1.out k hlt
     have g2:=HC2.out k (by have:=Hl.out;omega)
     have hlt1:(k:Int)<xs.length:=by omega
     have hlt2:(k:Int)<ys.length:=by omega
     by_cases hq:nth xs k=nth ys k
     ·have hb:(nth xs k !=nth ys k)=false:=by simp[hq]
      have HQ:Hid (nth xs k=nth ys k):=hq
      clear hq
      go_wp2
      go_quiet (fail)
      go_wp2
      refine⟨⟨k+1,by omega,by go_num,fun j hj=>?_,_,rfl⟩,by simp[intOf];omega⟩
      by_cases e:j=k
      ·rw[e];exact HQ.out
      ·exact HP.out j (by omega)
     ·have hb:(nth xs k !=nth ys k)=true:=by simp[hq]
      have HN:Hid (decide (xs=ys)=false):=by simpa [Hid] using lA hq
      clear hq
      go_wp2
      go_quiet (fail)
      go_wp2
      go_ret
      exact⟨aL HN.out.symm,n+nq,World.drewN_drewN _ _ _⟩
    ·have HD:Hid (decide (xs=ys)=true):=lB Hl.out hlt HP.out
     go_wp2
     go_ret
     exact⟨aL HD.out.symm,_,rfl⟩
 ·have hne:((xs.length:Int) !=(ys.length:Int))=true:=by simp;omega
  have hd:decide (xs=ys)=false:=by simp;intro e;exact hl (by rw[e])
  rw[hd]
  go_enter Tryz.func24,Tryz.ntmps24
  go_wp2
  go_ret
  exact⟨rfl,0,rfl⟩
end Go.Proofs.YthlhocneggcekaaGreat
namespace Go.Proofs.YthlhocneggcekaaGreat
open Go.ChangeShapes Go.WideShapes Go.ChangeAt Go.RowKit
theorem law_own:ownKnob Tryz.prog.godebug=none:=by kernel_rfl
theorem law_laidOut:laidOutB Tryz.prog=true:=by kernel_rfl
theorem aQ:Tryz.prog.cellsOf 3=1:=by kernel_rfl
theorem aU:Tryz.prog.cellsOf 4=1:=by kernel_rfl
theorem array5 {cs:List Value}(h:cs.length=5):∃c0 c1 c2 c3 c4,cs=[c0,c1,c2,c3,c4]:=by
 match cs,h with
 | [c0,c1,c2,c3,c4],_=>exact⟨c0,c1,c2,c3,c4,rfl⟩
theorem array3 {cs:List Value}(h:cs.length=3):∃c0 c1 c2,cs=[c0,c1,c2]:=by
 match cs,h with
 | [c0,c1,c2],_=>exact⟨c0,c1,c2,rfl⟩
section
variable {H:Type} {enc:TypeId × Value→H} {W:World}
theorem cJ {n:Nat}{c:Value}{y:Option (DataW H × List MemPlace)}(h:DataW.trod enc Tryz.prog W 0 (fun _=>true) true n 3 [c]=y)(hy:y≠none):∃a,c=.int .i64 a:=by
 cases y with
 | none=>exact absurd rfl hy
 | some y=>
  obtain⟨a,e,_⟩:=DataW.trod_int Tryz.underlying3 h
  exact⟨a,by simpa using e⟩
theorem eP {n:Nat}{c:Value}{y:Option (DataW H × List MemPlace)}(h:DataW.trod enc Tryz.prog W 0 (fun _=>true) true n 4 [c]=y)(hy:y≠none):∃a,c=.bool a:=by
 cases y with
 | none=>exact absurd rfl hy
 | some y=>
  obtain⟨a,e,_⟩:=DataW.trod_bool Tryz.underlying4 h
  exact⟨a,by simpa using e⟩
end
end Go.Proofs.YthlhocneggcekaaGreat
namespace Go.Proofs.YthlhocneggcekaaGreat
open Go.ChangeShapes Go.WideShapes Go.ChangeAt Go.RowKit
theorem bD:Tryz.prog.cellsOf 24=1:=by kernel_rfl
theorem aR:Tryz.prog.cellsOf 22=1:=by kernel_rfl
theorem sS {H:Type}{enc:TypeId × Value→H}{W:World}{fuel:Nat}{c0:Value}{x:DataW H × List MemPlace}
  (h:DataW.trod enc Tryz.prog W 0 (fun _=>true) true fuel 22 [c0]=some x):∃zs,Sl W c0 zs:=by
 rcases open_ints Tryz.underlying22 Tryz.underlying3 aQ h with ⟨hcs,_⟩|⟨a,len,cap,zs,hcs,_,hl,hm,hz,_,hcell,_⟩
 ·simp only[List.cons.injEq,and_true] at hcs
  subst hcs
  exact⟨[],Sl.nil _ _ _⟩
 ·simp only[List.cons.injEq,and_true] at hcs
  subst hcs
  simp only[if_true] at hz
  by_cases h0:len=0
  ·subst h0
   exact⟨[],Sl.nil _ _ _⟩
  ·obtain⟨b,off,spot⟩:=a
   have hc:=hcell 0 (by omega)
   have hspot:spot=none:=by simpa [Addr.add] using World.cell?_spot hc
   subst hspot
   have hlen:(zs.take len).length=len:=by simp;omega
   refine⟨zs.take len,_,cap,by rw[hlen],by omega,.inr ⟨b,off,rfl,?_,fun i hi=>?_⟩⟩
   ·have:=World.block_lt_of_cell? W _ hc
    simpa [Addr.add] using this
   ·have ha:Addr.add ⟨b,off,none⟩ i=⟨b,off+i,none⟩:=by unfold Addr.add;split <;> simp_all
    have:=hcell i (by omega)
    rw[ha] at this
    rw[this]
    have hi':i<len:=by omega
    simp[nth,hi']
end Go.Proofs.YthlhocneggcekaaGreat
namespace Go.Proofs.YthlhocneggcekaaGreat
open Go.ChangeShapes Go.WideShapes Go.ChangeAt Go.RowKit
theorem bA:Tryz.prog.cellsOf 26=3:=by kernel_rfl
section
variable {H:Type} {enc:TypeId × Value→H} {W:World}
end
end Go.Proofs.YthlhocneggcekaaGreat
namespace Go.Proofs.YthlhocneggcekaaGreat
open Go.ChangeShapes Go.WideShapes Go.ChangeAt Go.RowKit
theorem mO:Tryz.prog.cellsOf 52=5:=by kernel_rfl
section
variable {H:Type} {enc:TypeId × Value→H} {W:World}
set_option maxRecDepth 100000 in
theorem yA {fuel:Nat}{cs:List Value}{x:DataW H × List MemPlace}(h:DataW.trod enc Tryz.prog W 0 (fun _=>true) true fuel 52 cs=some x):
  ∃y:Ln,cs=[J y.1,J y.2.1,J y.2.2.1,.bool y.2.2.2.1,.bool y.2.2.2.2]:=by
 obtain⟨xs,n,_,_,hl,hlen,hf⟩:=DataW.trod_struct Tryz.underlying52 h
 rw[mO] at hl
 obtain⟨c0,c1,c2,c3,c4,rfl⟩:=array5 hl
 have some_at:∀i,i<5→xs[i]?≠none:=fun i hi=>by
  rw[List.getElem?_eq_getElem (by rw[hlen];exact hi)];simp
 obtain⟨a,rfl⟩:=cJ (by simpa [aQ] using hf 0 _ rfl) (some_at 0 (by omega))
 obtain⟨b,rfl⟩:=cJ (by simpa [aQ] using hf 1 _ rfl) (some_at 1 (by omega))
 obtain⟨c,rfl⟩:=cJ (by simpa [aQ] using hf 2 _ rfl) (some_at 2 (by omega))
 obtain⟨d,rfl⟩:=eP (by simpa [aU] using hf 3 _ rfl) (some_at 3 (by omega))
 obtain⟨p,rfl⟩:=eP (by simpa [aU] using hf 4 _ rfl) (some_at 4 (by omega))
 exact⟨(a,b,c,d,p),rfl⟩
theorem mP {P:Nat→Ln→Prop}:∀n,(∀i,i<n→∃y,P i y)→∃l:List Ln,l.length=n∧∀i,i<n→P i (lth l i)
 | 0,_=>⟨[],rfl,fun i hi=>absurd hi (Nat.not_lt_zero _)⟩
 | n+1,h=>by
  obtain⟨l,hl,hp⟩:=mP n fun i hi=>h i (by omega)
  obtain⟨y,hy⟩:=h n (by omega)
  refine⟨l++[y],by simp[hl],fun i hi=>?_⟩
  by_cases e:i=n
  ·subst e
   have:lth (l++[y]) i=y:=by simp[lth,←hl]
   rw[this];exact hy
  ·have:lth (l++[y]) i=lth l i:=by
    have hi':i<l.length:=by omega
    simp[lth,List.getElem?_append_left hi']
   rw[this];exact hp i (by omega)
set_option maxRecDepth 100000 in
theorem yB {fuel:Nat}{c0:Value}{x:DataW H × List MemPlace}(h:DataW.trod enc Tryz.prog W 0 (fun _=>true) true fuel 27 [c0]=some x):∃l,Ls W c0 l:=by
 rcases Deep.open_slice Tryz.underlying27 h with ⟨hcs,_⟩|⟨a,len,cap,m,n,D,Pl,hcs,hb,hl,hm,hmm,_,hx⟩
 ·simp only[List.cons.injEq,and_true] at hcs
  subst hcs
  exact⟨[],Ls.nothing _⟩
 ·simp only[List.cons.injEq,and_true] at hcs
  subst hcs
  simp only[if_true] at hmm
  rw[mO] at hx
  by_cases h0:len=0
  ·subst h0
   exact⟨[],Ls.nil _ _ _ hm⟩
  ·obtain⟨b,off,spot⟩:=a
   have each:∀i,i<len→∃y:Ln,∀j u,(j<5∧[J y.1,J y.2.1,J y.2.2.1,.bool y.2.2.2.1,.bool y.2.2.2.2][j]?=some u)→W.cell? ((⟨b,off,spot⟩:Addr).add (i*5+j))=some u:=by
    intro i hi
    obtain⟨cs',h1,h2⟩:=hx i (by omega)
    obtain⟨y,rfl⟩:=yA h2
    obtain⟨_,_,hcell⟩:=World.cells?_some h1
    refine⟨y,fun j u ⟨hj,hu⟩=>?_⟩
    have:=hcell j (by omega)
    rw[Deep.add_add,hu] at this
    exact this
   obtain⟨l,hlen,hp⟩:=mP (P:=fun i y=>∀j u,(j<5∧[J y.1,J y.2.1,J y.2.2.1,.bool y.2.2.2.1,.bool y.2.2.2.2][j]?=some u)→W.cell? ((⟨b,off,spot⟩:Addr).add (i*5+j))=some u) len each
   have hc:=hp 0 (by omega) 0 _ ⟨by omega,rfl⟩
   have hspot:spot=none:=by simpa [Addr.add] using World.cell?_spot hc
   subst hspot
   have ha:∀i,Addr.add ⟨b,off,none⟩ i=⟨b,off+i,none⟩:=fun i=>by unfold Addr.add;split <;> simp_all
   refine⟨l,_,cap,by rw[hlen],by omega,hm,.inr ⟨b,off,rfl,?_,fun i hi=>?_⟩⟩
   ·have:=World.block_lt_of_cell? W _ hc
    simpa [Addr.add] using this
   ·rw[hlen] at hi
    have hq:=hp i hi
    refine⟨?_,?_,?_,?_,?_⟩
    ·have:=hq 0 _ ⟨by omega,rfl⟩;rw[ha] at this;exact this
    ·have:=hq 1 _ ⟨by omega,rfl⟩;rw[ha,←Nat.add_assoc] at this;exact this
    ·have:=hq 2 _ ⟨by omega,rfl⟩;rw[ha,←Nat.add_assoc] at this;exact this
    ·have:=hq 3 _ ⟨by omega,rfl⟩;rw[ha,←Nat.add_assoc] at this;exact this
    ·have:=hq 4 _ ⟨by omega,rfl⟩;rw[ha,←Nat.add_assoc] at this;exact this
end
end Go.Proofs.YthlhocneggcekaaGreat
namespace Go.Proofs.YthlhocneggcekaaGreat
open Go.ChangeShapes Go.WideShapes Go.ChangeAt Go.RowKit
theorem bB:Tryz.prog.cellsOf 29=3:=by kernel_rfl
section
variable {H:Type} {enc:TypeId × Value→H} {W:World}
set_option maxRecDepth 100000 in
theorem oK {fuel:Nat}{cs:List Value}{x:DataW H × List MemPlace}(h:DataW.trod enc Tryz.prog W 0 (fun _=>true) true fuel 29 cs=some x):
  ∃a b p,cs=[J a,J b,J p]:=by
 obtain⟨xs,n,_,_,hl,hlen,hf⟩:=DataW.trod_struct Tryz.underlying29 h
 rw[bB] at hl
 obtain⟨c0,c1,c2,rfl⟩:=array3 hl
 have some_at:∀i,i<3→xs[i]?≠none:=fun i hi=>by
  rw[List.getElem?_eq_getElem (by rw[hlen];exact hi)];simp
 obtain⟨a,rfl⟩:=cJ (by simpa [aQ] using hf 0 _ rfl) (some_at 0 (by omega))
 obtain⟨b,rfl⟩:=cJ (by simpa [aQ] using hf 1 _ rfl) (some_at 1 (by omega))
 obtain⟨p,rfl⟩:=cJ (by simpa [aQ] using hf 2 _ rfl) (some_at 2 (by omega))
 exact⟨a,b,p,rfl⟩
end
end Go.Proofs.YthlhocneggcekaaGreat
namespace Go.Proofs.YthlhocneggcekaaGreat
open Go.ChangeShapes Go.WideShapes Go.ChangeAt Go.RowKit
theorem bE:Tryz.prog.cellsOf 31=12:=by kernel_rfl
theorem aT:Tryz.prog.cellsOf 27=1:=by kernel_rfl
theorem array12 {cs:List Value}(h:cs.length=12):∃c0 c1 c2 c3 c4 c5 c6 c7 c8 c9 c10 c11,cs=[c0,c1,c2,c3,c4,c5,c6,c7,c8,c9,c10,c11]:=by
 match cs,h with
 | [c0,c1,c2,c3,c4,c5,c6,c7,c8,c9,c10,c11],_=>exact⟨c0,c1,c2,c3,c4,c5,c6,c7,c8,c9,c10,c11,rfl⟩
section
variable {H:Type} {enc:TypeId × Value→H} {W:World}
end
end Go.Proofs.YthlhocneggcekaaGreat
namespace Go.Proofs.YthlhocneggcekaaGreat
open Go.ChangeShapes Go.WideShapes Go.ChangeAt Go.RowKit
theorem nN:Tryz.prog.cellsOf 33=16:=by kernel_rfl
theorem array16 {cs:List Value}(h:cs.length=16):∃c0 c1 c2 c3 c4 c5 c6 c7 c8 c9 c10 c11 c12 c13 c14 c15,cs=[c0,c1,c2,c3,c4,c5,c6,c7,c8,c9,c10,c11,c12,c13,c14,c15]:=by
 match cs,h with
 | [c0,c1,c2,c3,c4,c5,c6,c7,c8,c9,c10,c11,c12,c13,c14,c15],_=>exact⟨c0,c1,c2,c3,c4,c5,c6,c7,c8,c9,c10,c11,c12,c13,c14,c15,rfl⟩
section
variable {H:Type} {enc:TypeId × Value→H} {W:World}
set_option maxRecDepth 100000 in
theorem aBh {fuel:Nat}{cs:List Value}{x:DataW H × List MemPlace}(h:DataW.trod enc Tryz.prog W 0 (fun _=>true) true fuel 24 cs=some x):∃u zs,cs=[u]∧Sl W u zs:=by
 obtain⟨xs,n,_,_,hl,hlen,hf⟩:=DataW.trod_struct Tryz.underlying24 h
 rw[bD] at hl
 match cs,hl with
 | [c0],_=>
  obtain⟨y0,hy0⟩:∃y,xs[0]?=some y:=by
   rw[List.getElem?_eq_getElem (by rw[hlen];decide)];simp
  obtain⟨zs,hs⟩:=sS (c0:=c0) (x:=y0) (by rw[←hy0];simpa [aR] using hf 0 _ rfl)
  exact⟨c0,zs,rfl,hs⟩
set_option maxRecDepth 100000 in
theorem yC {fuel:Nat}{cs:List Value}{x:DataW H × List MemPlace}(h:DataW.trod enc Tryz.prog W 0 (fun _=>true) true fuel 26 cs=some x):∃a u l b,cs=[J a,u,.bool b]∧Sl W u l:=by
 obtain⟨xs,n,_,_,hl,hlen,hf⟩:=DataW.trod_struct Tryz.underlying26 h
 rw[bA] at hl
 obtain⟨c0,c1,c2,rfl⟩:=array3 hl
 have some_at:∀i,i<3→∃y,xs[i]?=some y:=fun i hi=>by
  rw[List.getElem?_eq_getElem (by rw[hlen];exact hi)];simp
 have ne_at:∀i,i<3→xs[i]?≠none:=fun i hi=>by
  obtain⟨y,hy⟩:=some_at i hi;rw[hy];simp
 obtain⟨a,rfl⟩:=cJ (by simpa [aQ,aU,aR,aT,bB,bD,bA,bE] using hf 0 _ rfl) (ne_at 0 (by omega))
 obtain⟨y1,hy1⟩:=some_at 1 (by omega)
 obtain⟨l,hL⟩:=sS (c0:=c1) (x:=y1) (by rw[←hy1];simpa [aQ,aU,aR,aT,bB,bD,bA,bE] using hf 1 _ rfl)
 obtain⟨b,rfl⟩:=eP (by simpa [aQ,aU,aR,aT,bB,bD,bA,bE] using hf 2 _ rfl) (ne_at 2 (by omega))
 exact⟨a,c1,l,b,rfl,hL⟩
set_option maxRecDepth 100000 in
theorem aBi {fuel:Nat}{cs:List Value}{x:DataW H × List MemPlace}(h:DataW.trod enc Tryz.prog W 0 (fun _=>true) true fuel 31 cs=some x):∃mo ba op oh ot fe fp fh ft st lo vc l,cs=[J mo,J ba,vc,J op,J oh,J ot,.bool st,J fe,J fp,J fh,J ft,.bool lo]∧Ls W vc l:=by
 obtain⟨xs,n,_,_,hl,hlen,hf⟩:=DataW.trod_struct Tryz.underlying31 h
 rw[bE] at hl
 obtain⟨c0,c1,c2,c3,c4,c5,c6,c7,c8,c9,c10,c11,rfl⟩:=array12 hl
 have some_at:∀i,i<8→∃y,xs[i]?=some y:=fun i hi=>by
  rw[List.getElem?_eq_getElem (by rw[hlen];exact hi)];simp
 have ne_at:∀i,i<8→xs[i]?≠none:=fun i hi=>by
  obtain⟨y,hy⟩:=some_at i hi;rw[hy];simp
 obtain⟨mo,rfl⟩:=cJ (by simpa [aQ,aU,aR,aT,bB,bD,bA,bE] using hf 0 _ rfl) (ne_at 0 (by omega))
 obtain⟨ba,rfl⟩:=cJ (by simpa [aQ,aU,aR,aT,bB,bD,bA,bE] using hf 1 _ rfl) (ne_at 1 (by omega))
 obtain⟨y2,hy2⟩:=some_at 2 (by omega)
 obtain⟨l,hL⟩:=yB (c0:=c2) (x:=y2) (by rw[←hy2];simpa [aQ,aU,aR,aT,bB,bD,bA,bE] using hf 2 _ rfl)
 obtain⟨y3,hy3⟩:=some_at 3 (by omega)
 obtain⟨op,oh,ot,e3⟩:=oK (cs:=[c3,c4,c5]) (x:=y3) (by rw[←hy3];simpa [aQ,aU,aR,aT,bB,bD,bA,bE] using hf 3 _ rfl)
 obtain⟨st,rfl⟩:=eP (by simpa [aQ,aU,aR,aT,bB,bD,bA,bE] using hf 4 _ rfl) (ne_at 4 (by omega))
 obtain⟨fe,rfl⟩:=cJ (by simpa [aQ,aU,aR,aT,bB,bD,bA,bE] using hf 5 _ rfl) (ne_at 5 (by omega))
 obtain⟨y6,hy6⟩:=some_at 6 (by omega)
 obtain⟨fp,fh,ft,e6⟩:=oK (cs:=[c8,c9,c10]) (x:=y6) (by rw[←hy6];simpa [aQ,aU,aR,aT,bB,bD,bA,bE] using hf 6 _ rfl)
 obtain⟨lo,rfl⟩:=eP (by simpa [aQ,aU,aR,aT,bB,bD,bA,bE] using hf 7 _ rfl) (ne_at 7 (by omega))
 simp only[List.cons.injEq,and_true] at e3 e6
 obtain⟨rfl,rfl,rfl⟩:=e3
 obtain⟨rfl,rfl,rfl⟩:=e6
 exact⟨mo,ba,op,oh,ot,fe,fp,fh,ft,st,lo,c2,l,rfl,hL⟩
set_option maxRecDepth 100000 in
theorem aBj {fuel:Nat}{cs:List Value}{x:DataW H × List MemPlace}(h:DataW.trod enc Tryz.prog W 0 (fun _=>true) true fuel 33 cs=some x):
  ∃v zs p u r d mo ba op oh ot fe fp fh ft st lo vc l,cs=[v,J p,u,.bool d,J mo,J ba,vc,J op,J oh,J ot,.bool st,J fe,J fp,J fh,J ft,.bool lo]∧Sl W v zs∧Sl W u r∧Ls W vc l:=by
 obtain⟨xs,n,_,_,hl,hlen,hf⟩:=DataW.trod_struct Tryz.underlying33 h
 rw[nN] at hl
 obtain⟨c0,c1,c2,c3,c4,c5,c6,c7,c8,c9,c10,c11,c12,c13,c14,c15,rfl⟩:=array16 hl
 have some_at:∀i,i<3→∃y,xs[i]?=some y:=fun i hi=>by
  rw[List.getElem?_eq_getElem (by rw[hlen];exact hi)];simp
 have ne_at:∀i,i<3→xs[i]?≠none:=fun i hi=>by
  obtain⟨y,hy⟩:=some_at i hi;rw[hy];simp
 obtain⟨y0,hy0⟩:=some_at 0 (by omega)
 obtain⟨v,zs,e0,hM⟩:=aBh (cs:=[c0]) (x:=y0) (by rw[←hy0];simpa [aQ,aU,aR,aT,bB,bD,bA,bE] using hf 0 _ rfl)
 obtain⟨y1,hy1⟩:=some_at 1 (by omega)
 obtain⟨p,u,r,d,e1,hR⟩:=yC (cs:=[c1,c2,c3]) (x:=y1) (by rw[←hy1];simpa [aQ,aU,aR,aT,bB,bD,bA,bE] using hf 1 _ rfl)
 obtain⟨y2,hy2⟩:=some_at 2 (by omega)
 obtain⟨mo,ba,op,oh,ot,fe,fp,fh,ft,st,lo,vc,l,e2,hL⟩:=aBi (cs:=[c4,c5,c6,c7,c8,c9,c10,c11,c12,c13,c14,c15]) (x:=y2) (by rw[←hy2];simpa [aQ,aU,aR,aT,bB,bD,bA,bE] using hf 2 _ rfl)
 simp only[List.cons.injEq,and_true] at e0 e1 e2
 obtain rfl:=e0
 obtain⟨rfl,rfl,rfl⟩:=e1
 obtain⟨rfl,rfl,rfl,rfl,rfl,rfl,rfl,rfl,rfl,rfl,rfl,rfl⟩:=e2
 exact⟨c0,zs,p,c2,r,d,mo,ba,op,oh,ot,fe,fp,fh,ft,st,lo,c6,l,rfl,hM,hR,hL⟩
set_option maxRecDepth 100000 in
theorem open_mch {b0:Nat}{v:Value}{d:DataW H}{p:List MemPlace}(hv:Value.okWide Tryz.prog W .any b0 33 v)(h:DataW.Trod enc Tryz.prog W 0 (fun _=>true) true 33 v d p):
  ∃v0 zs p u r d mo ba op oh ot fe fp fh ft st lo vc l,v=.agg (rM v0 p u d mo ba vc op oh ot st fe fp fh ft lo)∧(Sl W v0 zs∧Sl W u r∧Ls W vc l):=by
 obtain⟨cs,rfl,_⟩:=okWide_struct Tryz.underlying33 hv
 obtain⟨fuel,hf⟩:=h
 obtain⟨v0,zs,p,u,r,d,mo,ba,op,oh,ot,fe,fp,fh,ft,st,lo,vc,l,hc,hM,hR,hL⟩:=aBj hf
 obtain⟨y⟩:=cs
 simp only[Value.cells] at hc
 exact⟨v0,zs,p,u,r,d,mo,ba,op,oh,ot,fe,fp,fh,ft,st,lo,vc,l,by rw[hc],hM,hR,hL⟩
end
end Go.Proofs.YthlhocneggcekaaGreat
