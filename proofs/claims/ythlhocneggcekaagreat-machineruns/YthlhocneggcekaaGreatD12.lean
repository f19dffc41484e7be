/-
  Laid together: TouchL, AppendI, Cross, Apart, KeptB.
-/
import Derived.Test.YthlhocneggcekaaGreatD11
namespace Go.Proofs.YthlhocneggcekaaGreat
open Go.RowKit
def cellsT (x:Tc):List Value:=[J x.1,J x.2.1,J x.2.2.1,.bool x.2.2.2.1,J x.2.2.2.2]
def AtT (w:World)(b o:Nat)(x:Tc):Prop:=
 w.cell? ⟨b,o,none⟩=some (J x.1)∧w.cell? ⟨b,o+1,none⟩=some (J x.2.1)∧w.cell? ⟨b,o+2,none⟩=some (J x.2.2.1)∧w.cell? ⟨b,o+3,none⟩=some (.bool x.2.2.2.1)∧w.cell? ⟨b,o+4,none⟩=some (J x.2.2.2.2)
def Ts (w:World)(v:Value)(l:List Tc):Prop:=
 ∃a cap,v=.slice a l.length cap∧l.length≤cap∧cap≤maxLen∧
  (l=[]∨∃b o,a=some ⟨b,o,none⟩∧b<w.heap.size∧∀i,i<l.length→AtT w b (o+i*5) (tth l i))
theorem AtT.keep {w w':World}{b o:Nat}{x:Tc}(h:AtT w b o x)(hb:Below w.heap.size w w')(hl:b<w.heap.size):AtT w' b o x:=by
 obtain⟨c,_⟩:=bcell hb
 unfold AtT
 rw[c _ _ hl,c _ _ hl,c _ _ hl,c _ _ hl,c _ _ hl]
 exact h
theorem Ts.keep {w w':World}{v:Value}{l:List Tc}(h:Ts w v l)(hb:Below w.heap.size w w'):Ts w' v l:=by
 obtain⟨a,cap,rfl,hl,hm,h⟩:=h
 refine⟨a,cap,rfl,hl,hm,?_⟩
 rcases h with h|⟨b,o,rfl,hlt,hc⟩
 ·exact .inl h
 ·exact .inr ⟨b,o,rfl,Nat.lt_of_lt_of_le hlt hb.size,fun i hi=>(hc i hi).keep hb hlt⟩
theorem Ts.nil (w:World)(a:Option Addr)(cap:Nat)(h:cap≤maxLen):Ts w (.slice a 0 cap) []:=⟨a,cap,rfl,Nat.zero_le _,h,.inl rfl⟩
theorem Ts.nothing (w:World):Ts w (.slice none 0 0) []:=Ts.nil w _ _ (Nat.zero_le _)
theorem infoTouch:∃i,Tryz.prog.info? 72=some i∧i.zero=some (.agg #[J 0,J 0,J 0,.bool false,J 0])∧i.size=5∧i.bytes=40:=by
 have h:(Tryz.prog.info? 72).map (fun i=>(i.zero,i.size,i.bytes))=some (some (.agg #[J 0,J 0,J 0,.bool false,J 0]),5,40):=by kernel_rfl
 cases hi:Tryz.prog.info? 72 with
 | none=>rw[hi] at h;simp at h
 | some i=>rw[hi] at h;simp at h;exact⟨i,rfl,h.1,h.2.1,h.2.2⟩
theorem gA (x:Tc):(cellsT x).length=5:=rfl
theorem oB (l:List Tc):(l.flatMap cellsT).length=l.length*5:=by
 induction l with
 | nil=>rfl
 | cons x t ih=>rw[List.flatMap_cons,List.length_append,ih,gA,List.length_cons];omega
theorem aAc (x:Tc)(t:List Tc)(i:Nat):tth (x::t) (i+1)=tth t i:=by simp[tth]
theorem rD (l:List Tc):∀(i r:Nat),i<l.length→r<5→(l.flatMap cellsT)[i*5+r]?=(cellsT (tth l i))[r]?:=by
 induction l with
 | nil=>intro i r hi _;exact absurd hi (Nat.not_lt_zero _)
 | cons x t ih=>
  intro i r hi hr
  rw[List.flatMap_cons]
  cases i with
  | zero=>
   rw[Nat.zero_mul,Nat.zero_add,List.getElem?_append_left (by rw[gA];exact hr)]
   rfl
  | succ i=>
   rw[List.getElem?_append_right (by rw[gA];omega),gA,aAc,←ih i r (by simpa using hi) hr]
   congr 1;omega
theorem aAd {l:List Tc}{j:Nat}{u:Value}(h:(l.flatMap cellsT)[j]?=some u):∃i r,i<l.length∧r<5∧j=i*5+r∧(cellsT (tth l i))[r]?=some u:=by
 have hj:j<l.length*5:=by
  rw[←oB]
  rcases Nat.lt_or_ge j (l.flatMap cellsT).length with k|k
  ·exact k
  ·rw[List.getElem?_eq_none k] at h;cases h
 refine⟨j/5,j%5,by omega,by omega,by omega,?_⟩
 rw[←rD l (j/5) (j%5) (by omega) (by omega),←h]
 congr 1;omega
theorem wJ (l:List Tc):∀u∈l.flatMap cellsT,u.oneCell'=true:=by
 intro u hu
 obtain⟨x,_,hx⟩:=List.mem_flatMap.1 hu
 simp only[cellsT,List.mem_cons,List.not_mem_nil,or_false] at hx
 rcases hx with rfl|rfl|rfl|rfl|rfl <;> rfl
theorem aAe {w:World}{b o:Nat}{x:Tc}(h:AtT w b o x){r:Nat}{u:Value}(hr:r<5)(hu:(cellsT x)[r]?=some u):w.cell? ⟨b,o+r,none⟩=some u:=by
 obtain⟨h0,h1,h2,h3,h4⟩:=h
 match r,hr with
 | 0,_=>simp[cellsT] at hu;subst hu;exact h0
 | 1,_=>simp[cellsT] at hu;subst hu;exact h1
 | 2,_=>simp[cellsT] at hu;subst hu;exact h2
 | 3,_=>simp[cellsT] at hu;subst hu;exact h3
 | 4,_=>simp[cellsT] at hu;subst hu;exact h4
def OwnT (w:World)(base:Nat)(v:Value)(l:List Tc):Prop:=w.ownsRow base 72 5 v l.length (l.flatMap cellsT)
theorem OwnT.nothing (w:World)(base:Nat):OwnT w base (.slice none 0 0) []:=World.ownsRow_nil w base _ _
theorem OwnT.alloc {w:World}{base:Nat}{v:Value}{l:List Tc}(h:OwnT w base v l)(o:Obj):OwnT (w.alloc o) base v l:=World.ownsRow.alloc h o
theorem OwnT.drew {w:World}{base:Nat}{v:Value}{l:List Tc}(h:OwnT w base v l):OwnT w.drew base v l:=h
theorem OwnT.ls {w:World}{base:Nat}{v:Value}{l:List Tc}(h:OwnT w base v l):Ts w v l:=by
 have h':=h
 rcases h.2 with ⟨rfl,h0⟩|⟨g,cap,cur,rfl,hb,hg,hnc,hcm,hcs,htake⟩
 ·obtain rfl:l=[]:=List.eq_nil_of_length_eq_zero h0
  exact Ts.nothing w
 ·refine⟨_,cap,rfl,hnc,hcm,.inr ⟨g,0,rfl,?_,fun i hi=>?_⟩⟩
  ·exact (h.lt g rfl).2
  ·have hc:∀r,r<5→w.cell? ⟨g,0+i*5+r,none⟩=(cellsT (tth l i))[r]?:=fun r hr=>by
    rw[Nat.zero_add]
    have:=h.cellAt (i*5+r) (by omega)
    rw[this,rD l i r hi hr]
   exact⟨hc 0 (by omega),hc 1 (by omega),hc 2 (by omega),hc 3 (by omega),hc 4 (by omega)⟩
theorem OwnT.base {w:World}{base:Nat}{v:Value}{l:List Tc}(h:OwnT w base v l):∀k,v.ownBlock=some k→base≤k:=fun k hk=>(World.ownsRow.lt h k hk).1
theorem pJ (w:World)(ty:TypeId)(base:Nat)(v x:Value)(l1 l2:List Tc)(hown:OwnT w base v l1)(hx:Ts w x l2)(hn:l1.length+l2.length≤1000)(hbase:base≤w.heap.size)(hne:(∃c m n,v=.slice (some c) m n)∨l2≠[]):
  ∃g cap w',(Builtin.append_ #[38,38] ty #[v,x]).run Tryz.prog w=.ok (.slice (some ⟨g,0,none⟩) (l1++l2).length cap) w'∧OwnT w' base (.slice (some ⟨g,0,none⟩) (l1++l2).length cap) (l1++l2)∧w.grownBy w' v.ownBlock∧(v.ownBlock=some g∨g=w.heap.size):=by
 obtain⟨i,hi,hz,hsz,hby⟩:=infoTouch
 obtain⟨a,cap,rfl,hl,hm,h⟩:=hx
 rcases h with rfl|⟨b,o,rfl,hb,hc⟩
 ·rcases hown.2 with ⟨rfl,h0⟩|⟨g,c,cur,rfl,hbg,hg,hnc,hcm,hcs,htake⟩
  ·rcases hne with ⟨_,_,_,hne⟩|hne
   ·simp at hne
   ·exact absurd rfl hne
  ·refine⟨g,c,w,?_,?_,⟨rfl,rfl,rfl,Nat.le_refl _,fun _ _ _=>rfl⟩,.inl rfl⟩
   ·cases a <;>
    simp[Builtin.append_,run_underlying Tryz.underlying38,sizeOf,typeInfo,hi,Builtin.lenOf,Builtin.firstCells,loadCells,loadCellsFrom,hnc,storeCells]
   ·simpa using hown
 ·by_cases h0:l2=[]
  ·subst h0
   rcases hown.2 with ⟨rfl,h0⟩|⟨g,c,cur,rfl,hbg,hg,hnc,hcm,hcs,htake⟩
   ·rcases hne with ⟨_,_,_,hne⟩|hne
    ·simp at hne
    ·exact absurd rfl hne
   ·refine⟨g,c,w,?_,?_,⟨rfl,rfl,rfl,Nat.le_refl _,fun _ _ _=>rfl⟩,.inl rfl⟩
    ·simp[Builtin.append_,run_underlying Tryz.underlying38,sizeOf,typeInfo,hi,Builtin.lenOf,Builtin.firstCells,loadCells,loadCellsFrom,hnc,storeCells]
    ·simpa using hown
  ·have hpos:0<l2.length:=List.length_pos_iff.2 h0
   obtain⟨g,c,w',hr,ho,hgr,hat,_⟩:=run_append_lies (P:=Tryz.prog) w 38 ty base 72 i _ 5 40 Tryz.underlying38 hi hz hsz hby rfl (by omega) v l1.length (l1.flatMap cellsT) hown ⟨b,o,none⟩ l2.length cap (l2.flatMap cellsT) (oB l2)
    (fun j u hu=>by
     obtain⟨i',r,h1,h2,rfl,h4⟩:=aAd hu
     rw[kW,←Nat.add_assoc]
     exact aAe (hc i' h1) h2 h4)
    (wJ l2) hpos (by unfold maxLen;omega) (by omega) hbase w.heap.size rfl
   refine⟨g,c,w',?_,?_,hgr,hat⟩
   ·rw[List.length_append];exact hr
   ·unfold OwnT;rw[List.length_append,List.flatMap_append];exact ho
theorem kJ {w:World}{o:Oper}{a:Act}{K:Act→World→Prop}{Q:Exit→Act→World→Prop}(s x:Operand)
  (ho:o.op=.call {callee:=.builtin .append,args:=#[s,x],argTypes:=#[38,38]})
  (base:Nat) (v u:Value) (l1 l2:List Tc) (hs:a.eval s=v) (hu:a.eval x=u) (hown:OwnT w base v l1) (hx:Ts w u l2) (hn:l1.length+l2.length≤1000) (hbase:base≤w.heap.size) (hne:(∃c m n,v=.slice (some c) m n)∨l2≠[])
  (h:∀g cap w',OwnT w' base (.slice (some ⟨g,0,none⟩) (l1++l2).length cap) (l1++l2)→w.grownBy w' v.ownBlock→Below base w w'→(v.ownBlock=some g∨g=w.heap.size)→K (a.put o.dst (.slice (some ⟨g,0,none⟩) (l1++l2).length cap)) w'):o.wp Tryz.prog a w K Q:=by
 obtain⟨g,cap,w',hr,h2,h3,h4⟩:=pJ w o.type base v u l1 l2 hown hx hn hbase hne
 unfold Oper.wp execOp
 simp only[ho,resolve,invoke,builtin,Sem.run_bind,Sem.run_pure,Result.andThen_ok,List.map_toArray,List.map_cons,List.map_nil,hs,hu,hr]
 exact h g cap w' h2 h3 ((Below.refl base w).grown h3 hbase hown.base) h4
theorem gF {w:World}{ops:Array Oper}{rest:List Oper}{o:Oper}{a:Act}{Q:Exit→Act→World→Prop}(hgd:o.guard=none)(s x:Operand)
  (ho:o.op=.call {callee:=.builtin .append,args:=#[s,x],argTypes:=#[38,38]})
  (base:Nat) (v u:Value) (l1 l2:List Tc) (hs:a.eval s=v) (hu:a.eval x=u) (hown:OwnT w base v l1) (hx:Ts w u l2) (hn:l1.length+l2.length≤1000) (hbase:base≤w.heap.size) (hne:(∃c m n,v=.slice (some c) m n)∨l2≠[])
  (h:∀g cap w',OwnT w' base (.slice (some ⟨g,0,none⟩) (l1++l2).length cap) (l1++l2)→w.grownBy w' v.ownBlock→Below base w w'→(v.ownBlock=some g∨g=w.heap.size)→wpList Tryz.prog ops Q rest (a.put o.dst (.slice (some ⟨g,0,none⟩) (l1++l2).length cap)) w'):
  wpList Tryz.prog ops Q (o::rest) a w:=
 wpList_plain hgd fun _ hK=>kJ s x ho base v u l1 l2 hs hu hown hx hn hbase hne fun g cap w' h2 h3 hb h4=>hK _ _ (h g cap w' h2 h3 hb h4)
theorem mT {w:World}{ops:Array Oper}{o:Oper}{a:Act}{K:Act→World→Prop}{Q:Exit→Act→World→Prop}{E:Prop}(hgd:o.guard=none)(s x:Operand)
  (ho:o.op=.call {callee:=.builtin .append,args:=#[s,x],argTypes:=#[38,38]})
  (base:Nat) (v u:Value) (l1 l2:List Tc) (hs:a.eval s=v) (hu:a.eval x=u) (hown:OwnT w base v l1) (hx:Ts w u l2) (hn:l1.length+l2.length≤1000) (hbase:base≤w.heap.size) (hne:(∃c m n,v=.slice (some c) m n)∨l2≠[])
  (h:∀g cap w',OwnT w' base (.slice (some ⟨g,0,none⟩) (l1++l2).length cap) (l1++l2)→w.grownBy w' v.ownBlock→Below base w w'→(v.ownBlock=some g∨g=w.heap.size)→K (a.put o.dst (.slice (some ⟨g,0,none⟩) (l1++l2).length cap)) w'):
  if Region.wanted o (yielded ops a.tmps)=true then Oper.wp Tryz.prog o a w K Q else E:=by
 have hw:Region.wanted o (yielded ops a.tmps)=true:=by simp[Region.wanted,hgd]
 rw[if_pos hw]
 exact kJ s x ho base v u l1 l2 hs hu hown hx hn hbase hne h
theorem mD {w:World}{n:Nat}(h:n=w.heap.size)(d p a:Int)(r:Bool)(z:Int)(fr:Nat × Nat):Ts (w.alloc (.cells #[J d,J p,J a,.bool r,J z] 72 fr)) (.slice (some ⟨n,0,none⟩) 1 1) [(d,p,a,r,z)]:=by
 subst h
 have k:=Blk.new w #[J d,J p,J a,.bool r,J z] 72 fr
 refine⟨_,1,rfl,Nat.le_refl _,by simp[maxLen],.inr ⟨w.heap.size,0,rfl,by simp,fun i hi=>?_⟩⟩
 obtain rfl:i=0:=by simpa using hi
 exact⟨k.cell 0,k.cell 1,k.cell 2,k.cell 3,k.cell 4⟩
theorem OwnT.lt {w:World}{base:Nat}{v:Value}{l:List Tc}(h:OwnT w base v l):∀k,v.ownBlock=some k→k<w.heap.size:=fun k hk=>(World.ownsRow.lt h k hk).2
theorem OwnT.keep {w w':World}{base:Nat}{v:Value}{l:List Tc}(h:OwnT w base v l)(hb:∀k,v.ownBlock=some k→w'.heap[k]?=w.heap[k]?):OwnT w' base v l:=by
 obtain⟨h1,h2⟩:=h
 refine⟨h1,?_⟩
 rcases h2 with h2|⟨g,cap,cur,rfl,hb0,hg,r⟩
 ·exact .inl h2
 ·exact .inr ⟨g,cap,cur,rfl,hb0,by rw[hb g (by simp[Value.ownBlock])];exact hg,r⟩
theorem OwnT.shape {w:World}{base:Nat}{v:Value}{l:List Tc}(h:OwnT w base v l):∃a c,v=.slice a l.length c:=by
 rcases h.2 with ⟨rfl,h0⟩|⟨g,cap,cur,rfl,hb,hg,hnc,hcm,hcs,htake⟩
 ·obtain rfl:l=[]:=List.eq_nil_of_length_eq_zero h0
  exact⟨_,_,rfl⟩
 ·exact⟨_,_,rfl⟩
def Slc (w:World)(v:Value)(l:List Int):Prop:=Sl w v l∧∃a c,v=.slice a l.length c∧l.length≤c∧c≤maxLen
def OwnI (w:World)(base:Nat)(v:Value)(l:List Int):Prop:=w.ownsRow base 3 1 v l.length (l.map (fun z=>J z))
theorem OwnI.nothing (w:World)(base:Nat):OwnI w base (.slice none 0 0) []:=World.ownsRow_nil w base _ _
theorem OwnI.alloc {w:World}{base:Nat}{v:Value}{l:List Int}(h:OwnI w base v l)(o:Obj):OwnI (w.alloc o) base v l:=World.ownsRow.alloc h o
theorem OwnI.drew {w:World}{base:Nat}{v:Value}{l:List Int}(h:OwnI w base v l):OwnI w.drew base v l:=h
theorem OwnI.base {w:World}{base:Nat}{v:Value}{l:List Int}(h:OwnI w base v l):∀k,v.ownBlock=some k→base≤k:=fun k hk=>(World.ownsRow.lt h k hk).1
theorem OwnI.lt {w:World}{base:Nat}{v:Value}{l:List Int}(h:OwnI w base v l):∀k,v.ownBlock=some k→k<w.heap.size:=fun k hk=>(World.ownsRow.lt h k hk).2
theorem OwnI.sl {w:World}{base:Nat}{v:Value}{l:List Int}(h:OwnI w base v l)(hm:l.length≤maxLen):Sl w v l:=by
 have h':=h
 rcases h.2 with ⟨rfl,h0⟩|⟨g,cap,cur,rfl,hb,hg,hnc,hcm,hcs,htake⟩
 ·obtain rfl:l=[]:=List.eq_nil_of_length_eq_zero h0
  exact Sl.nil w _ _
 ·exact qD h' hm
theorem OwnI.shape {w:World}{base:Nat}{v:Value}{l:List Int}(h:OwnI w base v l):∃a c,v=.slice a l.length c:=by
 rcases h.2 with ⟨rfl,h0⟩|⟨g,cap,cur,rfl,hb,hg,hnc,hcm,hcs,htake⟩
 ·obtain rfl:l=[]:=List.eq_nil_of_length_eq_zero h0
  exact⟨_,_,rfl⟩
 ·exact⟨_,_,rfl⟩
theorem OwnI.keep {w w':World}{base:Nat}{v:Value}{l:List Int}(h:OwnI w base v l)(hb:∀k,v.ownBlock=some k→w'.heap[k]?=w.heap[k]?):OwnI w' base v l:=by
 obtain⟨h1,h2⟩:=h
 refine⟨h1,?_⟩
 rcases h2 with h2|⟨g,cap,cur,rfl,hb0,hg,r⟩
 ·exact .inl h2
 ·exact .inr ⟨g,cap,cur,rfl,hb0,by rw[hb g (by simp[Value.ownBlock])];exact hg,r⟩
theorem pK (w:World)(ty:TypeId)(base:Nat)(v x:Value)(l1 l2:List Int)(hown:OwnI w base v l1)(hx:Sl w x l2)(hn:l1.length+l2.length≤1000)(hbase:base≤w.heap.size)(hne:l2≠[]):
  ∃g cap w',(Builtin.append_ #[22,22] ty #[v,x]).run Tryz.prog w=.ok (.slice (some ⟨g,0,none⟩) (l1++l2).length cap) w'∧OwnI w' base (.slice (some ⟨g,0,none⟩) (l1++l2).length cap) (l1++l2)∧w.grownBy w' v.ownBlock∧(v.ownBlock=some g∨g=w.heap.size):=by
 obtain⟨i,hi,hz,hsz,hby⟩:=infoInt
 obtain⟨a,cap,rfl,hl,h⟩:=hx
 rcases h with rfl|⟨b,o,rfl,hb,hc⟩
 ·exact absurd rfl hne
 ·have hpos:0<l2.length:=List.length_pos_iff.2 hne
  obtain⟨g,c,w',hr,ho,hgr,hat,_⟩:=run_append_lies (P:=Tryz.prog) w 22 ty base 3 i _ 1 8 Tryz.underlying22 hi hz hsz hby rfl (by omega) v l1.length (l1.map (fun z=>J z)) hown ⟨b,o,none⟩ l2.length cap (l2.map (fun z=>J z)) (by simp)
   (fun j u hu=>by
    rw[List.getElem?_map] at hu
    by_cases hj:j<l2.length
    ·rw[List.getElem?_eq_getElem hj] at hu
     simp only[Option.map_some,Option.some.injEq] at hu
     have ha:Addr.add ⟨b,o,none⟩ j=⟨b,o+j,none⟩:=by unfold Addr.add;split <;> simp_all
     rw[ha,hc j hj,←hu]
     simp[nth,hj]
    ·rw[List.getElem?_eq_none (by omega)] at hu
     simp at hu)
   (fun u hu=>by
    obtain⟨z,_,rfl⟩:=List.mem_map.1 hu
    rfl) hpos (by unfold maxLen;omega) (by omega) hbase w.heap.size rfl
  refine⟨g,c,w',?_,?_,hgr,hat⟩
  ·rw[List.length_append];exact hr
  ·unfold OwnI;rw[List.length_append,List.map_append];exact ho
theorem kK {w:World}{o:Oper}{a:Act}{K:Act→World→Prop}{Q:Exit→Act→World→Prop}(s x:Operand)
  (ho:o.op=.call {callee:=.builtin .append,args:=#[s,x],argTypes:=#[22,22]})
  (base:Nat) (v u:Value) (l1 l2:List Int) (hs:a.eval s=v) (hu:a.eval x=u) (hown:OwnI w base v l1) (hx:Sl w u l2) (hn:l1.length+l2.length≤1000) (hbase:base≤w.heap.size) (hne:l2≠[])
  (h:∀g cap w',OwnI w' base (.slice (some ⟨g,0,none⟩) (l1++l2).length cap) (l1++l2)→w.grownBy w' v.ownBlock→Below base w w'→(v.ownBlock=some g∨g=w.heap.size)→K (a.put o.dst (.slice (some ⟨g,0,none⟩) (l1++l2).length cap)) w'):o.wp Tryz.prog a w K Q:=by
 obtain⟨g,cap,w',hr,h2,h3,h4⟩:=pK w o.type base v u l1 l2 hown hx hn hbase hne
 unfold Oper.wp execOp
 simp only[ho,resolve,invoke,builtin,Sem.run_bind,Sem.run_pure,Result.andThen_ok,List.map_toArray,List.map_cons,List.map_nil,hs,hu,hr]
 exact h g cap w' h2 h3 ((Below.refl base w).grown h3 hbase hown.base) h4
theorem gG {w:World}{ops:Array Oper}{rest:List Oper}{o:Oper}{a:Act}{Q:Exit→Act→World→Prop}(hgd:o.guard=none)(s x:Operand)
  (ho:o.op=.call {callee:=.builtin .append,args:=#[s,x],argTypes:=#[22,22]})
  (base:Nat) (v u:Value) (l1 l2:List Int) (hs:a.eval s=v) (hu:a.eval x=u) (hown:OwnI w base v l1) (hx:Sl w u l2) (hn:l1.length+l2.length≤1000) (hbase:base≤w.heap.size) (hne:l2≠[])
  (h:∀g cap w',OwnI w' base (.slice (some ⟨g,0,none⟩) (l1++l2).length cap) (l1++l2)→w.grownBy w' v.ownBlock→Below base w w'→(v.ownBlock=some g∨g=w.heap.size)→wpList Tryz.prog ops Q rest (a.put o.dst (.slice (some ⟨g,0,none⟩) (l1++l2).length cap)) w'):
  wpList Tryz.prog ops Q (o::rest) a w:=
 wpList_plain hgd fun _ hK=>kK s x ho base v u l1 l2 hs hu hown hx hn hbase hne fun g cap w' h2 h3 hb h4=>hK _ _ (h g cap w' h2 h3 hb h4)
theorem dB {w:World}{ops:Array Oper}{o:Oper}{a:Act}{K:Act→World→Prop}{Q:Exit→Act→World→Prop}{E:Prop}(hgd:o.guard=none)(s x:Operand)
  (ho:o.op=.call {callee:=.builtin .append,args:=#[s,x],argTypes:=#[22,22]})
  (base:Nat) (v u:Value) (l1 l2:List Int) (hs:a.eval s=v) (hu:a.eval x=u) (hown:OwnI w base v l1) (hx:Sl w u l2) (hn:l1.length+l2.length≤1000) (hbase:base≤w.heap.size) (hne:l2≠[])
  (h:∀g cap w',OwnI w' base (.slice (some ⟨g,0,none⟩) (l1++l2).length cap) (l1++l2)→w.grownBy w' v.ownBlock→Below base w w'→(v.ownBlock=some g∨g=w.heap.size)→K (a.put o.dst (.slice (some ⟨g,0,none⟩) (l1++l2).length cap)) w'):
  if Region.wanted o (yielded ops a.tmps)=true then Oper.wp Tryz.prog o a w K Q else E:=by
 have hw:Region.wanted o (yielded ops a.tmps)=true:=by simp[Region.wanted,hgd]
 rw[if_pos hw]
 exact kK s x ho base v u l1 l2 hs hu hown hx hn hbase hne h
theorem rF {w:World}{n:Nat}(h:n=w.heap.size)(z:Int)(fr:Nat × Nat):Sl (w.alloc (.cells #[J z] 3 fr)) (.slice (some ⟨n,0,none⟩) 1 1) [z]:=
 bG (aY h) rfl rfl (by simp[maxLen])
theorem AtL.other {w:World}{b o:Nat}{x:Ln}(h:AtL w b o x){p:Addr}{u:Value}(hp:∀j,j<5→p≠⟨b,o+j,none⟩):AtL (w.setCell p u) b o x:=by
 obtain⟨h0,h1,h2,h3,h4⟩:=h
 refine⟨?_,?_,?_,?_,?_⟩
 ·rw[World.cell?_setCell_other (h:=(by simpa using hp 0 (by omega):p≠⟨b,o,none⟩))];exact h0
 ·rw[World.cell?_setCell_other (h:=hp 1 (by omega))];exact h1
 ·rw[World.cell?_setCell_other (h:=hp 2 (by omega))];exact h2
 ·rw[World.cell?_setCell_other (h:=hp 3 (by omega))];exact h3
 ·rw[World.cell?_setCell_other (h:=hp 4 (by omega))];exact h4
theorem Ls.other {w:World}{v:Value}{l:List Ln}(h:Ls w v l){p:Addr}{u:Value}(hp:∀b o x,AtL w b o x→∀j,j<5→p≠⟨b,o+j,none⟩):Ls (w.setCell p u) v l:=by
 obtain⟨a,cap,rfl,hl,hm,h⟩:=h
 refine⟨a,cap,rfl,hl,hm,?_⟩
 rcases h with h|⟨b,o,rfl,hlt,hc⟩
 ·exact .inl h
 ·exact .inr ⟨b,o,rfl,by simpa [World.setCell] using hlt,fun i hi=>(hc i hi).other (hp b _ _ (hc i hi))⟩
theorem Ls.setSlice {w:World}{v:Value}{l:List Ln}(h:Ls w v l){p:Addr}{a:Option Addr}{n c:Nat}(hp:w.cell? p=some (.slice a n c))(u:Value):Ls (w.setCell p u) v l:=by
 refine h.other fun b o x hx j hj e=>?_
 obtain⟨h0,h1,h2,h3,h4⟩:=hx
 rw[e] at hp
 obtain rfl|rfl|rfl|rfl|rfl:j=0∨j=1∨j=2∨j=3∨j=4:=by omega
 ·rw[Nat.add_zero,h0] at hp;simp at hp
 ·rw[h1] at hp;simp at hp
 ·rw[h2] at hp;simp at hp
 ·rw[h3] at hp;simp at hp
 ·rw[h4] at hp;simp at hp
def Apart (v:Value)(l:List Ln)(n:Nat):Prop:=l=[]∨∀b o k c,v=.slice (some ⟨b,o,none⟩) k c→b≠n
theorem tM {w:World}{n o:Nat}{t:TypeId}{x:Ln}{i0 i1 i3 i4 i5 i7 i8 i9 i10:Int}{p6 p11:Bool}{sa:Option Addr}{sn sc:Nat}
  (h:Box w n t (rB i0 i1 (.slice sa sn sc) i3 i4 i5 p6 i7 i8 i9 i10 p11)) (hx:AtL w n o x):False:=by
 obtain⟨_,_,h2,h3,h4⟩:=hx
 rw[h.cell] at h2 h3 h4
 by_cases ho:o<8
 ·obtain rfl|rfl|rfl|rfl|rfl|rfl|rfl|rfl:o=0∨o=1∨o=2∨o=3∨o=4∨o=5∨o=6∨o=7:=by omega
  all_goals simp at h2 h3 h4
 ·rw[Array.getElem?_eq_none (by simp;omega)] at h4
  simp at h4
theorem Ls.apart {w:World}{v:Value}{l:List Ln}(hl:Ls w v l){n:Nat}{t:TypeId}{i0 i1 i3 i4 i5 i7 i8 i9 i10:Int}{p6 p11:Bool}{sa:Option Addr}{sn sc:Nat}
  (h:Box w n t (rB i0 i1 (.slice sa sn sc) i3 i4 i5 p6 i7 i8 i9 i10 p11)):Apart v l n:=by
 obtain⟨a,cap,rfl,_,_,hl⟩:=hl
 rcases hl with rfl|⟨b,o,rfl,_,hc⟩
 ·exact .inl rfl
 ·by_cases h0:l=[]
  ·exact .inl h0
  ·refine .inr fun b' o' k c e=>?_
   simp only[Value.slice.injEq,Option.some.injEq,Addr.mk.injEq,and_true] at e
   obtain⟨⟨rfl,rfl⟩,-⟩:=e
   rintro rfl
   exact tM h (hc 0 (List.length_pos_iff.2 h0))
theorem Ls.putAt {w:World}{v:Value}{l:List Ln}(h:Ls w v l){n:Nat}(ha:Apart v l n)(i:Nat)(u:Value):Ls (w.setCell ⟨n,i,none⟩ u) v l:=by
 obtain⟨a,cap,rfl,hl,hm,h⟩:=h
 refine⟨a,cap,rfl,hl,hm,?_⟩
 rcases h with h|⟨b,o,rfl,hlt,hc⟩
 ·exact .inl h
 ·rcases ha with ha|ha
  ·exact .inl ha
  ·refine .inr ⟨b,o,rfl,by simpa [World.setCell] using hlt,fun j hj=>(hc j hj).other fun j' _ e=>?_⟩
   simp only[Addr.mk.injEq] at e
   exact ha b o _ _ rfl e.1.symm
theorem Ls.put12 {w:World}{v:Value}{l:List Ln}(h:Ls w v l){n:Nat}(ha:Apart v l n)(u0 u1 u2 u3 u4 u5 u6 u7 u8 u9 u10 u11:Value):
  Ls ((((((((((((w.setCell ⟨n,0,none⟩ u0).setCell ⟨n,1,none⟩ u1).setCell ⟨n,2,none⟩ u2).setCell ⟨n,3,none⟩ u3).setCell ⟨n,4,none⟩ u4).setCell ⟨n,5,none⟩ u5).setCell ⟨n,6,none⟩ u6).setCell ⟨n,7,none⟩ u7).setCell ⟨n,8,none⟩ u8).setCell ⟨n,9,none⟩ u9).setCell ⟨n,10,none⟩ u10).setCell ⟨n,11,none⟩ u11) v l:=
 (((((((((((h.putAt ha 0 u0).putAt ha 1 u1).putAt ha 2 u2).putAt ha 3 u3).putAt ha 4 u4).putAt ha 5 u5).putAt ha 6 u6).putAt ha 7 u7).putAt ha 8 u8).putAt ha 9 u9).putAt ha 10 u10).putAt ha 11 u11
theorem Ls.drew {w:World}{v:Value}{l:List Ln}(h:Ls w v l):Ls w.drew v l:=h
theorem Ls.drewN {w:World}{v:Value}{l:List Ln}(h:Ls w v l)(n:Nat):Ls (w.drewN n) v l:=h
structure KeptB (may:Nat→Prop)(w w':World):Prop where
 os:w'.os=w.os
 tape:w'.tape=w.tape
 output:w'.output=w.output
 size:w.heap.size≤w'.heap.size
 block:∀k,k<w.heap.size→¬may k→w'.heap[k]?=w.heap[k]?
theorem KeptB.refl (may:Nat→Prop)(w:World):KeptB may w w:=⟨rfl,rfl,rfl,Nat.le_refl _,fun _ _ _=>rfl⟩
theorem KeptB.below {may:Nat→Prop}{a b c:World}(h:KeptB may a b)(k:Below b.heap.size b c):KeptB may a c:=
 ⟨k.os.trans h.os,k.tape.trans h.tape,k.output.trans h.output,Nat.le_trans h.size k.size,fun i hi hm=>(k.block i (Nat.lt_of_lt_of_le hi h.size)).trans (h.block i hi hm)⟩
theorem KeptB.alloc {may:Nat→Prop}{a w:World}(h:KeptB may a w)(o:Obj):KeptB may a (w.alloc o):=h.below (aA (Below.refl _ _) _)
theorem KeptB.drew {may:Nat→Prop}{a w:World}(h:KeptB may a w):KeptB may a w.drew:=⟨h.os,h.tape,h.output,h.size,h.block⟩
theorem KeptB.setCell {may:Nat→Prop}{a w:World}(h:KeptB may a w){p:Addr}(hp:may p.block∨a.heap.size≤p.block)(u:Value):KeptB may a (w.setCell p u):=
 ⟨h.os,h.tape,h.output,by simpa [World.setCell] using h.size,fun k hk hm=>(Below.heap_setCell _ _ _ _ (by rintro rfl;rcases hp with hp|hp;exact hm hp;omega)).trans (h.block k hk hm)⟩
theorem KeptB.grown {may:Nat→Prop}{a w w':World}{row:Option Nat}(h:KeptB may a w)(hg:w.grownBy w' row)(hr:∀k,row=some k→may k∨a.heap.size≤k):KeptB may a w':=
 ⟨hg.os.trans h.os,hg.tape.trans h.tape,hg.output.trans h.output,Nat.le_trans h.size hg.size,fun k hk hm=>(hg.block k (Nat.lt_of_lt_of_le hk h.size) (fun e=>by rcases hr k e.symm with q|q;exact hm q;omega)).trans (h.block k hk hm)⟩
theorem KeptB.trans {may may':Nat→Prop}{a b c:World}(h:KeptB may a b)(k:KeptB may' b c)(hm:∀q,q<a.heap.size→may' q→may q):KeptB may a c:=
 ⟨k.os.trans h.os,k.tape.trans h.tape,k.output.trans h.output,Nat.le_trans h.size k.size,fun i hi hn=>(k.block i (Nat.lt_of_lt_of_le hi h.size) (fun e=>hn (hm i hi e))).trans (h.block i hi hn)⟩
theorem KeptB.of_below {may:Nat→Prop}{a b:World}(h:Below a.heap.size a b):KeptB may a b:=(KeptB.refl may a).below h
theorem KeptB.low {may:Nat→Prop}{a w:World}(h:KeptB may a w){B:Nat}(hB:B≤a.heap.size)(hm:∀q,q<B→¬may q):Below B a w:=
 ⟨h.os,h.tape,h.output,h.size,fun k hk=>h.block k (by omega) (hm k hk)⟩
theorem Box.kept {may:Nat→Prop}{a w:World}{n:Nat}{t:TypeId}{cs:Array Value}(hb:Box a n t cs)(h:KeptB may a w)(hm:¬may n):Box w n t cs:=(h.block n hb.lt hm).trans hb
theorem Sl.kept {may:Nat→Prop}{a w:World}{v:Value}{zs:List Int}(hs:Sl a v zs)(h:KeptB may a w)(hm:∀q,v.ownBlock=some q→¬may q):Sl w v zs:=by
 obtain⟨ad,cap,rfl,hl,hs⟩:=hs
 refine⟨ad,cap,rfl,hl,?_⟩
 rcases hs with hs|⟨b,o,rfl,hlt,hc⟩
 ·exact .inl hs
 ·have hbl:=h.block b hlt (hm b (by simp[Value.ownBlock]))
  exact .inr ⟨b,o,rfl,Nat.lt_of_lt_of_le hlt h.size,fun i hi=>by rw[World.cell?_of_block (a:=⟨b,o+i,none⟩) hbl];exact hc i hi⟩
theorem Sl.keptO {may:Nat→Prop}{a w:World}{v:Value}{zs:List Int}(hs:Sl a v zs)(h:KeptB may a w)(hm:zs=[]∨∀q,v.ownBlock=some q→¬may q):Sl w v zs:=by
 rcases hm with rfl|hm
 ·obtain⟨ad,cap,rfl,hl,_⟩:=hs
  exact⟨ad,cap,rfl,hl,.inl rfl⟩
 ·exact hs.kept h hm
theorem Sl.block {w:World}{a:Option Addr}{n c:Nat}{zs:List Int}(h:Sl w (.slice a n c) zs):zs=[]∨∀q,(Value.slice a n c).ownBlock=some q→q<w.heap.size:=by
 obtain⟨a',c',e,_,h⟩:=h
 simp only[Value.slice.injEq] at e
 obtain⟨rfl,-,-⟩:=e
 rcases h with h|⟨b,o,rfl,hb,_⟩
 ·exact .inl h
 ·exact .inr fun q hq=>by simp[Value.ownBlock] at hq;omega
theorem Ts.kept {may:Nat→Prop}{a w:World}{v:Value}{l:List Tc}(hs:Ts a v l)(h:KeptB may a w)(hm:∀q,v.ownBlock=some q→¬may q):Ts w v l:=by
 obtain⟨ad,cap,rfl,hl,hc,hs⟩:=hs
 refine⟨ad,cap,rfl,hl,hc,?_⟩
 rcases hs with hs|⟨b,o,rfl,hlt,hc⟩
 ·exact .inl hs
 ·have hbl:=h.block b hlt (hm b (by simp[Value.ownBlock]))
  have hcell:∀j,w.cell? ⟨b,j,none⟩=a.cell? ⟨b,j,none⟩:=fun j=>World.cell?_of_block (a:=⟨b,j,none⟩) hbl
  refine .inr ⟨b,o,rfl,Nat.lt_of_lt_of_le hlt h.size,fun i hi=>?_⟩
  unfold AtT
  rw[hcell,hcell,hcell,hcell,hcell]
  exact hc i hi
theorem Ls.kept {may:Nat→Prop}{a w:World}{v:Value}{l:List Ln}(hs:Ls a v l)(h:KeptB may a w)(hm:∀q,v.ownBlock=some q→¬may q):Ls w v l:=by
 obtain⟨ad,cap,rfl,hl,hc,hs⟩:=hs
 refine⟨ad,cap,rfl,hl,hc,?_⟩
 rcases hs with hs|⟨b,o,rfl,hlt,hc⟩
 ·exact .inl hs
 ·have hbl:=h.block b hlt (hm b (by simp[Value.ownBlock]))
  have hcell:∀j,w.cell? ⟨b,j,none⟩=a.cell? ⟨b,j,none⟩:=fun j=>World.cell?_of_block (a:=⟨b,j,none⟩) hbl
  refine .inr ⟨b,o,rfl,Nat.lt_of_lt_of_le hlt h.size,fun i hi=>?_⟩
  unfold AtL
  rw[hcell,hcell,hcell,hcell,hcell]
  exact hc i hi
theorem OwnI.kept {may:Nat→Prop}{a w:World}{base:Nat}{v:Value}{l:List Int}(ho:OwnI a base v l)(h:KeptB may a w)(hm:∀q,v.ownBlock=some q→¬may q):OwnI w base v l:=
 ho.keep fun k hk=>h.block k (ho.lt k hk) (hm k hk)
theorem OwnT.kept {may:Nat→Prop}{a w:World}{base:Nat}{v:Value}{l:List Tc}(ho:OwnT a base v l)(h:KeptB may a w)(hm:∀q,v.ownBlock=some q→¬may q):OwnT w base v l:=
 ho.keep fun k hk=>h.block k (ho.lt k hk) (hm k hk)
theorem OwnI.neBox {w:World}{base n:Nat}{v:Value}{l:List Int}{t:TypeId}{cs:Array Value}(h:OwnI w base v l)(hb:Box w n t cs)(ht:¬t=3):v.ownBlock≠some n:=by
 intro e
 rcases h.2 with ⟨rfl,_⟩|⟨g,cap,cur,rfl,_,hg,_⟩
 ·simp[Value.ownBlock] at e
 ·simp[Value.ownBlock] at e
  subst e
  unfold Box at hb
  rw[hg] at hb
  simp only[Option.some.injEq,Obj.cells.injEq] at hb
  exact ht hb.2.1.symm
theorem OwnT.neBox {w:World}{base n:Nat}{v:Value}{l:List Tc}{t:TypeId}{cs:Array Value}(h:OwnT w base v l)(hb:Box w n t cs)(ht:¬t=72):v.ownBlock≠some n:=by
 intro e
 rcases h.2 with ⟨rfl,_⟩|⟨g,cap,cur,rfl,_,hg,_⟩
 ·simp[Value.ownBlock] at e
 ·simp[Value.ownBlock] at e
  subst e
  unfold Box at hb
  rw[hg] at hb
  simp only[Option.some.injEq,Obj.cells.injEq] at hb
  exact ht hb.2.1.symm
theorem eU {w:World}{b1 b2:Nat}{v u:Value}{l:List Int}{m:List Tc}(h:OwnI w b1 v l)(k:OwnT w b2 u m):∀q,v.ownBlock=some q→u.ownBlock≠some q:=by
 intro q e
 rcases h.2 with ⟨rfl,_⟩|⟨g,cap,cur,rfl,_,hg,_⟩
 ·simp[Value.ownBlock] at e
 ·simp[Value.ownBlock] at e
  subst e
  exact k.neBox (n:=g) (t:=3) (cs:=cur) hg (by decide)
theorem aAf {w:World}{g:Nat}{zs:List Int}(h:Box w g 3 (intCells zs))(i:Nat)(z:Int):Box (w.setCell ⟨g,i,none⟩ (J z)) g 3 (intCells (zs.set i z)):=by
 have:=Box.set h i (J z)
 rw[dH] at this
 exact this
end Go.Proofs.YthlhocneggcekaaGreat
