/-
  Laid together: OpenI, OpenA, OpenM, MWalkB.
-/
import Derived.Test.YthlhocneggcekaaGreatDMRunB
namespace Go.Proofs.YthlhocneggcekaaGreat
open Go.ChangeShapes Go.WideShapes Go.ChangeAt Go.RowKit
section
variable {H:Type} {enc:TypeId × Value→H} {W:World}
set_option maxRecDepth 100000 in
theorem aCq {fuel:Nat}{c0:Value}{x:DataW H × List MemPlace}(h:DataW.trod enc Tryz.prog W 0 (fun _=>true) true fuel 22 [c0]=some x):∃zs,Slc W c0 zs:=by
 rcases open_ints Tryz.underlying22 Tryz.underlying3 aQ h with ⟨hcs,_⟩|⟨a,len,cap,zs,hcs,_,hl,hm,hz,_,hcell,_⟩
 ·simp only[List.cons.injEq,and_true] at hcs
  subst hcs
  exact⟨[],Sl.nil _ _ _,_,_,rfl,by simp,by simp[maxLen]⟩
 ·simp only[List.cons.injEq,and_true] at hcs
  subst hcs
  simp only[if_true] at hz
  by_cases h0:len=0
  ·subst h0
   exact⟨[],Sl.nil _ _ _,_,_,rfl,by simp,by omega⟩
  ·obtain⟨b,off,spot⟩:=a
   have hc:=hcell 0 (by omega)
   have hspot:spot=none:=by simpa [Addr.add] using World.cell?_spot hc
   subst hspot
   have hlen:(zs.take len).length=len:=by simp;omega
   refine⟨zs.take len,⟨_,cap,by rw[hlen],by omega,.inr ⟨b,off,rfl,?_,fun i hi=>?_⟩⟩,_,cap,by rw[hlen],by omega,by omega⟩
   ·have:=World.block_lt_of_cell? W _ hc
    simpa [Addr.add] using this
   ·have ha:Addr.add ⟨b,off,none⟩ i=⟨b,off+i,none⟩:=by unfold Addr.add;split <;> simp_all
    have:=hcell i (by omega)
    rw[ha] at this
    rw[this]
    have hi':i<len:=by omega
    simp[nth,hi']
end
end Go.Proofs.YthlhocneggcekaaGreat
namespace Go.Proofs.YthlhocneggcekaaGreat
open Go.ChangeShapes Go.WideShapes Go.ChangeAt Go.RowKit
theorem dJ:Tryz.prog.cellsOf 35=5:=by kernel_rfl
section
variable {H:Type} {enc:TypeId × Value→H} {W:World}
end
end Go.Proofs.YthlhocneggcekaaGreat
namespace Go.Proofs.YthlhocneggcekaaGreat
open Go.ChangeShapes Go.WideShapes Go.ChangeAt Go.RowKit
theorem gH:Tryz.prog.cellsOf 37=7:=by kernel_rfl
theorem array7 {cs:List Value}(h:cs.length=7):∃c0 c1 c2 c3 c4 c5 c6,cs=[c0,c1,c2,c3,c4,c5,c6]:=by
 match cs,h with
 | [c0,c1,c2,c3,c4,c5,c6],_=>exact⟨c0,c1,c2,c3,c4,c5,c6,rfl⟩
section
variable {H:Type} {enc:TypeId × Value→H} {W:World}
set_option maxRecDepth 100000 in
theorem aBk {fuel:Nat}{cs:List Value}{x:DataW H × List MemPlace}(h:DataW.trod enc Tryz.prog W 0 (fun _=>true) true fuel 35 cs=some x):∃a b c d u l,cs=[J a,J b,J c,.bool d,u]∧Slc W u l:=by
 obtain⟨xs,n,_,_,hl,hlen,hf⟩:=DataW.trod_struct Tryz.underlying35 h
 rw[dJ] at hl
 obtain⟨c0,c1,c2,c3,c4,rfl⟩:=array5 hl
 have some_at:∀i,i<5→∃y,xs[i]?=some y:=fun i hi=>by
  rw[List.getElem?_eq_getElem (by rw[hlen];exact hi)];simp
 have ne_at:∀i,i<5→xs[i]?≠none:=fun i hi=>by
  obtain⟨y,hy⟩:=some_at i hi;rw[hy];simp
 obtain⟨a,rfl⟩:=cJ (by simpa [aQ,aU,aR,aT,bB,bD,bA,bE,dJ] using hf 0 _ rfl) (ne_at 0 (by omega))
 obtain⟨b,rfl⟩:=cJ (by simpa [aQ,aU,aR,aT,bB,bD,bA,bE,dJ] using hf 1 _ rfl) (ne_at 1 (by omega))
 obtain⟨c,rfl⟩:=cJ (by simpa [aQ,aU,aR,aT,bB,bD,bA,bE,dJ] using hf 2 _ rfl) (ne_at 2 (by omega))
 obtain⟨e,rfl⟩:=eP (by simpa [aQ,aU,aR,aT,bB,bD,bA,bE,dJ] using hf 3 _ rfl) (ne_at 3 (by omega))
 obtain⟨y4,hy4⟩:=some_at 4 (by omega)
 obtain⟨l,hL⟩:=aCq (c0:=c4) (x:=y4) (by rw[←hy4];simpa [aQ,aU,aR,aT,bB,bD,bA,bE,dJ] using hf 4 _ rfl)
 exact⟨a,b,c,e,c4,l,rfl,hL⟩
set_option maxRecDepth 100000 in
theorem sU {fuel:Nat}{cs:List Value}{x:DataW H × List MemPlace}(h:DataW.trod enc Tryz.prog W 0 (fun _=>true) true fuel 37 cs=some x):
  ∃k m a b c d u l,cs=[J k,J m,J a,J b,J c,.bool d,u]∧Slc W u l:=by
 obtain⟨xs,n,_,_,hl,hlen,hf⟩:=DataW.trod_struct Tryz.underlying37 h
 rw[gH] at hl
 obtain⟨c0,c1,c2,c3,c4,c5,c6,rfl⟩:=array7 hl
 have some_at:∀i,i<3→∃y,xs[i]?=some y:=fun i hi=>by
  rw[List.getElem?_eq_getElem (by rw[hlen];exact hi)];simp
 have ne_at:∀i,i<3→xs[i]?≠none:=fun i hi=>by
  obtain⟨y,hy⟩:=some_at i hi;rw[hy];simp
 obtain⟨k,rfl⟩:=cJ (by simpa [aQ,aU,aR,aT,bB,bD,bA,bE,dJ] using hf 0 _ rfl) (ne_at 0 (by omega))
 obtain⟨m,rfl⟩:=cJ (by simpa [aQ,aU,aR,aT,bB,bD,bA,bE,dJ] using hf 1 _ rfl) (ne_at 1 (by omega))
 obtain⟨y2,hy2⟩:=some_at 2 (by omega)
 obtain⟨a,b,c,d,u,l,e2,hL⟩:=aBk (cs:=[c2,c3,c4,c5,c6]) (x:=y2) (by rw[←hy2];simpa [aQ,aU,aR,aT,bB,bD,bA,bE,dJ] using hf 2 _ rfl)
 simp only[List.cons.injEq,and_true] at e2
 obtain⟨rfl,rfl,rfl,rfl,rfl⟩:=e2
 exact⟨k,m,a,b,c,d,c6,l,rfl,hL⟩
theorem oL {P:Nat→Hp→Prop}:∀n,(∀i,i<n→∃y,P i y)→∃l:List Hp,l.length=n∧∀i,i<n→P i (hpth l i)
 | 0,_=>⟨[],rfl,fun i hi=>absurd hi (Nat.not_lt_zero _)⟩
 | n+1,h=>by
  obtain⟨l,hl,hp⟩:=oL n fun i hi=>h i (by omega)
  obtain⟨y,hy⟩:=h n (by omega)
  refine⟨l++[y],by simp[hl],fun i hi=>?_⟩
  by_cases e:i=n
  ·subst e
   have:hpth (l++[y]) i=y:=by simp[hpth,←hl]
   rw[this];exact hy
  ·have:hpth (l++[y]) i=hpth l i:=by
    have hi':i<l.length:=by omega
    simp[hpth,List.getElem?_append_left hi']
   rw[this];exact hp i (by omega)
set_option maxRecDepth 100000 in
theorem aBl {fuel:Nat}{c0:Value}{x:DataW H × List MemPlace}(h:DataW.trod enc Tryz.prog W 0 (fun _=>true) true fuel 56 [c0]=some x):∃l,Hps W c0 l:=by
 rcases Deep.open_slice Tryz.underlying56 h with ⟨hcs,_⟩|⟨a,len,cap,m,n,D,Pl,hcs,hb,hl,hm,hmm,_,hx⟩
 ·simp only[List.cons.injEq,and_true] at hcs
  subst hcs
  exact⟨[],Hps.nil _ _ _ (Nat.zero_le _)⟩
 ·simp only[List.cons.injEq,and_true] at hcs
  subst hcs
  simp only[if_true] at hmm
  rw[gH] at hx
  by_cases h0:len=0
  ·subst h0
   exact⟨[],Hps.nil _ _ _ hm⟩
  ·obtain⟨b,off,spot⟩:=a
   have each:∀i,i<len→∃y:Hp,∃u,Slc W u y.ds∧∀j z,(j<7∧[J y.kind,J y.num,J y.d,J y.a,J y.n,.bool y.wr,u][j]?=some z)→W.cell? ((⟨b,off,spot⟩:Addr).add (i*7+j))=some z:=by
    intro i hi
    obtain⟨cs',h1,h2⟩:=hx i (by omega)
    obtain⟨k,m,a1,a2,a3,a4,u,ds,rfl,hD⟩:=sU h2
    obtain⟨_,_,hcell⟩:=World.cells?_some h1
    refine⟨⟨k,m,a1,a2,a3,a4,ds⟩,u,hD,fun j z ⟨hj,hu⟩=>?_⟩
    have:=hcell j (by omega)
    rw[Deep.add_add,hu] at this
    exact this
   obtain⟨l,hlen,hp⟩:=oL len each
   obtain⟨u0,-,hc0⟩:=hp 0 (by omega)
   have hc:=hc0 0 _ ⟨by omega,rfl⟩
   have hspot:spot=none:=by simpa [Addr.add] using World.cell?_spot hc
   subst hspot
   have ha:∀i,Addr.add ⟨b,off,none⟩ i=⟨b,off+i,none⟩:=fun i=>by unfold Addr.add;split <;> simp_all
   refine⟨l,_,cap,by rw[hlen],by omega,hm,.inr ⟨b,off,rfl,?_,fun i hi=>?_⟩⟩
   ·have:=World.block_lt_of_cell? W _ hc
    simpa [Addr.add] using this
   ·rw[hlen] at hi
    obtain⟨u,hD,hq⟩:=hp i hi
    refine⟨u,?_,?_,?_,?_,?_,?_,?_,hD⟩
    ·have:=hq 0 _ ⟨by omega,rfl⟩;rw[ha] at this;exact this
    ·have:=hq 1 _ ⟨by omega,rfl⟩;rw[ha,←Nat.add_assoc] at this;exact this
    ·have:=hq 2 _ ⟨by omega,rfl⟩;rw[ha,←Nat.add_assoc] at this;exact this
    ·have:=hq 3 _ ⟨by omega,rfl⟩;rw[ha,←Nat.add_assoc] at this;exact this
    ·have:=hq 4 _ ⟨by omega,rfl⟩;rw[ha,←Nat.add_assoc] at this;exact this
    ·have:=hq 5 _ ⟨by omega,rfl⟩;rw[ha,←Nat.add_assoc] at this;exact this
    ·have:=hq 6 _ ⟨by omega,rfl⟩;rw[ha,←Nat.add_assoc] at this;exact this
set_option maxRecDepth 100000 in
theorem open_hps {b0:Nat}{v:Value}{d:DataW H}{p:List MemPlace}(hv:Value.okWide Tryz.prog W .any b0 56 v)(h:DataW.Trod enc Tryz.prog W 0 (fun _=>true) true 56 v d p):
  ∃l,Hps W v l:=by
 obtain⟨fuel,hf⟩:=h
 have hone:v.cells.toList=[v]:=by
  simp only[Value.okWide,Tryz.underlying56,Cell.okWide] at hv
  cases v <;> simp_all [Value.cells,Cell.ok]
 rw[hone] at hf
 exact aBl hf
end
theorem hps_at {w w':World}{va:Option Addr}{vk:Nat}{l:List Hp}(h:Hps w (.slice va l.length vk) l)(hb:Below w.heap.size w w'){i:Nat}(hi:i<l.length):
  ∃b o,va=some ⟨b,o,none⟩∧b<w'.heap.size∧AtHp w' b (o+i*7) (hpth l i):=by
 obtain⟨a',c',e',-,-,q⟩:=h
 simp only[Value.slice.injEq] at e'
 rcases q with q|⟨b',o',q,q2,q3⟩
 ·rw[q] at hi;simp at hi
 ·exact⟨b',o',by rw[e'.1,q],Nat.lt_of_lt_of_le q2 hb.size,(q3 i hi).keep hb q2⟩
end Go.Proofs.YthlhocneggcekaaGreat
