/-
  Laid together: Box, Ring2, Ring3, WordMath.
-/
import Derived.Test.YthlhocneggcekaaGreatD4
import Derived.Deep.DrawnRows
namespace Go.Proofs.YthlhocneggcekaaGreat
open Go.RowKit
def Box (w:World)(n:Nat)(t:TypeId)(cs:Array Value):Prop:=w.heap[n]?=some (.cells cs t (0,0))
theorem Box.blk {w:World}{n:Nat}{t:TypeId}{cs:Array Value}(h:Box w n t cs):Blk w n cs:=⟨t,(0,0),h⟩
theorem Box.lt {w:World}{n:Nat}{t:TypeId}{cs:Array Value}(h:Box w n t cs):n<w.heap.size:=h.blk.lt
theorem Box.keep {w w':World}{n:Nat}{t:TypeId}{cs:Array Value}(h:Box w n t cs)(hb:Below w.heap.size w w'):Box w' n t cs:=jT hb h.lt h
theorem Box.newAt {w:World}{n:Nat}(h:n=w.heap.size)(t:TypeId)(cs:Array Value):Box (w.alloc (.cells cs t)) n t cs:=aY h
theorem Box.past {w:World}{n:Nat}{t:TypeId}{cs:Array Value}(h:Box w n t cs)(o:Obj):Box (w.alloc o) n t cs:=bN h.lt h
theorem Box.cell {w:World}{n:Nat}{t:TypeId}{cs:Array Value}(h:Box w n t cs)(i:Nat):w.cell? ⟨n,i,none⟩=cs[i]?:=h.blk.cell i
theorem Box.frozen {w:World}{n:Nat}{t:TypeId}{cs:Array Value}(h:Box w n t cs)(i:Nat):w.frozen? ⟨n,i,none⟩=false:=frozen_of_row w n _ _ _ h
theorem Box.set {w:World}{n:Nat}{t:TypeId}{cs:Array Value}(h:Box w n t cs)(i:Nat)(u:Value):Box (w.setCell ⟨n,i,none⟩ u) n t (cs.setIfInBounds i u):=heap_setCell_same w n i cs t u h
theorem Box.other {w:World}{n:Nat}{t:TypeId}{cs:Array Value}(h:Box w n t cs){p:Addr}(hp:n≠p.block)(u:Value):Box (w.setCell p u) n t cs:=by
 unfold Box;rw[heap_setCell_other w p n u hp];exact h
theorem Box.drew {w:World}{n:Nat}{t:TypeId}{cs:Array Value}(h:Box w n t cs):Box w.drew n t cs:=h
theorem Box.drewN {w:World}{n:Nat}{t:TypeId}{cs:Array Value}(h:Box w n t cs)(k:Nat):Box (w.drewN k) n t cs:=h
theorem Box.one {w:World}{n:Nat}{t:TypeId}{a:Value}(h:Box w n t #[a]):w.cell? ⟨n,0,none⟩=some a∧w.frozen? ⟨n,0,none⟩=false∧n<w.heap.size:=⟨h.cell 0,h.frozen 0,h.lt⟩
theorem Box.three {w:World}{n:Nat}{t:TypeId}{a b c:Value}(h:Box w n t #[a,b,c]):
  w.cell? ⟨n,0,none⟩=some a∧w.cell? ⟨n,1,none⟩=some b∧w.cell? ⟨n,2,none⟩=some c∧w.frozen? ⟨n,0,none⟩=false∧w.frozen? ⟨n,1,none⟩=false∧w.frozen? ⟨n,2,none⟩=false∧n<w.heap.size:=
 ⟨h.cell 0,h.cell 1,h.cell 2,h.frozen 0,h.frozen 1,h.frozen 2,h.lt⟩
theorem Box.set1 {w:World}{n:Nat}{t:TypeId}{a:Value}(h:Box w n t #[a])(u:Value):Box (w.setCell ⟨n,0,none⟩ u) n t #[u]:=h.set 0 u
theorem Box.set3 {w:World}{n:Nat}{t:TypeId}{a b c:Value}(h:Box w n t #[a,b,c])(u0 u1 u2:Value):
  Box (((w.setCell ⟨n,0,none⟩ u0).setCell ⟨n,1,none⟩ u1).setCell ⟨n,2,none⟩ u2) n t #[u0,u1,u2]:=((h.set 0 u0).set 1 u1).set 2 u2
theorem Box.other3 {w:World}{n m:Nat}{t:TypeId}{cs:Array Value}(h:Box w n t cs)(hp:n≠m)(u0 u1 u2:Value):
  Box (((w.setCell ⟨m,0,none⟩ u0).setCell ⟨m,1,none⟩ u1).setCell ⟨m,2,none⟩ u2) n t cs:=
 ((h.other (p:=⟨m,0,none⟩) hp u0).other (p:=⟨m,1,none⟩) hp u1).other (p:=⟨m,2,none⟩) hp u2
theorem bO {a w:World}{n:Nat}(hp:a.heap.size≤n)(h:Below a.heap.size a w)(u0 u1 u2:Value):
  Below a.heap.size a (((w.setCell ⟨n,0,none⟩ u0).setCell ⟨n,1,none⟩ u1).setCell ⟨n,2,none⟩ u2):=
 ((h.setCell (p:=⟨n,0,none⟩) hp u0).setCell (p:=⟨n,1,none⟩) hp u1).setCell (p:=⟨n,2,none⟩) hp u2
theorem cW {a w:World}{n:Nat}(hp:a.heap.size≤n)(h:Below a.heap.size a w)(u0:Value):Below a.heap.size a (w.setCell ⟨n,0,none⟩ u0):=h.setCell (p:=⟨n,0,none⟩) hp u0
theorem Box.four {w:World}{n:Nat}{t:TypeId}{a b c d:Value}(h:Box w n t #[a,b,c,d]):
  w.cell? ⟨n,0,none⟩=some a∧w.cell? ⟨n,1,none⟩=some b∧w.cell? ⟨n,2,none⟩=some c∧w.cell? ⟨n,3,none⟩=some d∧w.frozen? ⟨n,0,none⟩=false∧w.frozen? ⟨n,1,none⟩=false∧w.frozen? ⟨n,2,none⟩=false∧w.frozen? ⟨n,3,none⟩=false∧n<w.heap.size:=
 ⟨h.cell 0,h.cell 1,h.cell 2,h.cell 3,h.frozen 0,h.frozen 1,h.frozen 2,h.frozen 3,h.lt⟩
theorem Box.set4 {w:World}{n:Nat}{t:TypeId}{a b c d:Value}(h:Box w n t #[a,b,c,d])(u0 u1 u2 u3:Value):
  Box ((((w.setCell ⟨n,0,none⟩ u0).setCell ⟨n,1,none⟩ u1).setCell ⟨n,2,none⟩ u2).setCell ⟨n,3,none⟩ u3) n t #[u0,u1,u2,u3]:=(((h.set 0 u0).set 1 u1).set 2 u2).set 3 u3
theorem aZ {a w:World}{n:Nat}(hp:a.heap.size≤n)(h:Below a.heap.size a w)(u0 u1 u2 u3:Value):
  Below a.heap.size a ((((w.setCell ⟨n,0,none⟩ u0).setCell ⟨n,1,none⟩ u1).setCell ⟨n,2,none⟩ u2).setCell ⟨n,3,none⟩ u3):=
 (bO hp h u0 u1 u2).setCell (p:=⟨n,3,none⟩) hp u3
def psE (zs:List Int)(p h t x:Int):Int:=if bothR zs p h t=0 then (if wordB x=true then (if lenR h t=7 then 1 else 0) else 2) else bothR zs p h t
def psM (zs:List Int)(p h t x:Int):List Int:=if psE zs p h t x=0 then zs.set (p*8+t).toNat x else []
def psR (zs:List Int)(p h t x:Int):Int × Int × Int:=if psE zs p h t x=0 then (p,h,(t+1)%8) else (0,0,0)
theorem iU {zs:List Int}{p h t:Int}(k:bothR zs p h t=0):chk zs=0∧chkR p h t=0:=by
 unfold bothR at k
 by_cases hk:chk zs=0
 ·rw[if_pos hk] at k;exact⟨hk,k⟩
 ·rw[if_neg hk] at k;exact absurd k hk
theorem fM {zs:List Int}{p h t:Int}(a:chk zs=0)(b:chkR p h t=0):bothR zs p h t=0:=by rw[bothR,if_pos a,b]
theorem qJ {p t:Int}(hp:pageR p=true)(ht:stepR t=true):placeB (p*8+t)=true:=by
 obtain⟨a,b⟩:=dL hp
 obtain⟨c,d⟩:=bS ht
 simp[placeB];omega
theorem keep31 {W w':World}{m n:Nat}{v u0 u1 u2:Value}(hv:W.cell? ⟨m,0,none⟩=some v)(h0:W.cell? ⟨n,0,none⟩=some u0)(h1:W.cell? ⟨n,1,none⟩=some u1)(h2:W.cell? ⟨n,2,none⟩=some u2)(hm:m<W.heap.size)(hn:n<W.heap.size)(hb:Below W.heap.size W w'):
  w'.cell? ⟨m,0,none⟩=some v∧w'.cell? ⟨n,0,none⟩=some u0∧w'.cell? ⟨n,1,none⟩=some u1∧w'.cell? ⟨n,2,none⟩=some u2∧Below W.heap.size W w':=
 ⟨((bcell hb).1 m 0 hm).trans hv,((bcell hb).1 n 0 hn).trans h0,((bcell hb).1 n 1 hn).trans h1,((bcell hb).1 n 2 hn).trans h2,hb⟩
theorem limb4 {A B C D E:Prop}(h:A∧B∧C∧D∧E):E:=h.2.2.2.2
set_option maxHeartbeats 2000000 in
theorem qK (v:Value)(zs:List Int)(p h t x:Int)(w:World)(hs:Sl w v zs):
  Calls Tryz.prog 136 #[.agg #[v],.agg #[J p,J h,J t],J x] w fun e w'=>
   (∃v' p' h' t',e=.returned (.tuple #[.agg #[v'],.agg #[J p',J h',J t'],J (psE zs p h t x)])∧Sl w' v' (psM zs p h t x)∧Fresh w.heap.size v'∧psR zs p h t x=(p',h',t'))∧Below w.heap.size w w':=by
 obtain⟨a0,c0,rfl⟩:=hs.shape
 go_enter Tryz.func136,Tryz.ntmps136
 go_wp2_with fail
 refine (hV _ zs p h t _ (hs.keep (aA (aA (aA (aA (Below.refl _ _) _) _) _) _))).mono ?_
 rintro e w1 ⟨rfl,b1⟩
 have X0:=(((Box.newAt (n:=w.heap.size) (by simp) 24 #[.slice a0 zs.length c0]).past (.cells #[J p,J h,J t] 29)).past (.cells #[.slice none 0 0] 24)).past (.cells #[J 0,J 0,J 0] 29) |>.keep b1
 have X1:=((Box.newAt (w:=w.alloc (.cells #[.slice a0 zs.length c0] 24)) (n:=w.heap.size+1) (by simp) 29 #[J p,J h,J t]).past _).past _ |>.keep b1
 have X2:=(Box.newAt (n:=w.heap.size+1+1) (by simp) 24 #[.slice none 0 0]).past _ |>.keep b1
 have X3:=(Box.newAt (n:=w.heap.size+1+1+1) (by simp) 29 #[J 0,J 0,J 0]) |>.keep b1
 have B1:Hid (Below w.heap.size w w1):=aB (aA (aA (aA (aA (Below.refl _ _) _) _) _) _) b1
 clear b1
 obtain⟨q0,-,s0⟩:=X0.one
 obtain⟨q1,q2,q3,z1,z2,z3,s1⟩:=X1.three
 obtain⟨y0,y1,s2⟩:=X2.one
 obtain⟨u0,u1,u2,g0,g1,g2,s3⟩:=X3.three
 by_cases hk:bothR zs p h t=0
 rotate_left
 ·have hq:(bothR zs p h t !=0)=true:=by simpa using hk
  have HE:Hid (psE zs p h t x=bothR zs p h t):=if_neg hk
  have HF:Hid (psM zs p h t x=[]):=if_neg (by rw[HE.out];exact hk)
  have HG:Hid (psR zs p h t x=(0,0,0)):=if_neg (by rw[HE.out];exact hk)
  go_wp2
  refine bodyPost_ret (v:=.tuple #[.agg #[.slice none 0 0],.agg #[J 0,J 0,J 0],J (bothR zs p h t)]) (by simp[results,Tryz.results136,go_sem, *]) rfl ⟨⟨_,_,_,_,by rw[HE.out],by rw[HF.out];exact Sl.nil _ _ _,Fresh.none _ _ _,HG.out⟩,?_⟩
  exact bO (by omega) (cW (by omega) B1.out _) _ _ _
 obtain⟨hz,hr⟩:=iU hk
 obtain⟨rp,rh,rt⟩:=dC hr
 have hpl:=qJ rp rt
 have Rp:=dL rp
 have Rh:=bS rh
 have Rt:=bS rt
 rw[hk]
 have HZ:Hid (Sl w1 (.slice a0 zs.length c0) zs):=hs.keep B1.out
 go_upto_region 4 with fail
 go_cut [10,11] from 20 to 29 (fun s u wx=>∃n a c,s=.pointer (some ⟨n,0,none⟩)∧u=J (wrE zs (p*8+t) x)∧Box wx n 24 #[.slice a (wrM zs (p*8+t) x).length c]∧Sl wx (.slice a (wrM zs (p*8+t) x).length c) (wrM zs (p*8+t) x)∧Fresh w1.heap.size (.slice a (wrM zs (p*8+t) x).length c)∧w1.heap.size≤n∧Below w1.heap.size w1 wx)
 case first=>
  go_region_held3 (fun w'=>w'.cell? ⟨w.heap.size,0,none⟩=some (.slice a0 zs.length c0)∧w'.cell? ⟨w.heap.size+1,0,none⟩=some (J p)∧w'.cell? ⟨w.heap.size+1,1,none⟩=some (J h)∧w'.cell? ⟨w.heap.size+1,2,none⟩=some (J t)∧Below w1.heap.size w1 w')
   (with_reducible refine keep31 (by assumption) (by assumption) (by assumption) (by assumption) (by assumption) (by assumption) ?_;(repeat (first|with_reducible assumption|(with_reducible (refine limb4 (?_:_∧_∧_∧_∧_);assumption))|with_reducible exact Below.refl _ _|with_reducible refine Below.drew ?_|with_reducible refine aH ?_ _|with_reducible refine aA ?_ _|(with_reducible refine cW ?_ ?_ _;(focus (first|(simp;done)|(simp;omega)|omega)))|with_reducible refine aB ?_ (by assumption))))
   (first
    | (go_at_call 96;refine (nU p h t t _ Rp Rt).mono ?_;rintro e w2 ⟨rfl,rfl⟩)
    | (go_at_call 163;refine (sY _ zs (p*8+t) x _ ?_).mono ?_;(focus (refine HZ.out.keep ?_;(repeat (first|with_reducible assumption|(with_reducible (refine limb4 (?_:_∧_∧_∧_∧_);assumption))|with_reducible exact Below.refl _ _|with_reducible refine Below.drew ?_|with_reducible refine aH ?_ _|with_reducible refine aA ?_ _|(with_reducible refine cW ?_ ?_ _;(focus (first|(simp;done)|(simp;omega)|omega)))|with_reducible refine aB ?_ (by assumption)))));rintro e w3 ⟨v3,rfl,h3,n3,b3⟩;obtain⟨a3,c3,rfl⟩:=h3.shape;obtain⟨c3,f3⟩:=bcell b3))
  all_goals (go_wp2_with fail;go_meet)
  ·have z3:=b3.size
   exact⟨_,_,_,rfl,rfl,Box.newAt rfl _ _,h3.keep (aA (Below.refl _ _) _),n3.mono (by simp),by simp at z3;omega,limb4 (by with_reducible assumption)⟩
  ·have K:=(Box.newAt (w:=w1.alloc (ringB p h t)) (n:=w1.heap.size+1) (by simp) 24 #[.slice none 0 0]).drew.keep b3
   exact⟨_,_,_,rfl,rfl,K.set1 _,h3.setSlice (K.cell 0) _,n3.mono (by simp;omega),by omega,limb4 (by with_reducible assumption)⟩
  ·have K:=((Box.newAt (w:=w1) (n:=w1.heap.size) rfl 24 #[.slice none 0 0]).past (ringB p h t)).drew.keep b3
   exact⟨_,_,_,rfl,rfl,K.set1 _,h3.setSlice (K.cell 0) _,n3.mono (by simp;omega),by omega,limb4 (by with_reducible assumption)⟩
 case rest=>
  obtain⟨n,a3,c3,rfl,rfl,XN,HN,NN,hn,Bc⟩:=hcut
  have NF:Hid (Fresh w1.heap.size (.slice a3 (wrM zs (p*8+t) x).length c3)):=NN
  have NW:Hid (w.heap.size+1+1+1<w1.heap.size):=s3
  clear NN
  have X1:=X1.keep Bc
  have X2:=X2.keep Bc
  have X3:=X3.keep Bc
  have BC:Hid (Below w.heap.size w wc):=aB B1.out Bc
  clear Bc B1 X0 q0 q1 q2 q3 z1 z2 z3 y0 y1 u0 u1 u2 g0 g1 g2 s0 s1 s2 s3 HZ
  obtain⟨q1,q2,q3,z1,z2,z3,s1⟩:=X1.three
  obtain⟨y0,y1,s2⟩:=X2.one
  obtain⟨u0,u1,u2,g0,g1,g2,s3⟩:=X3.three
  obtain⟨n0,-,sn⟩:=XN.one
  cases hx:wordB x
  ·have HE:Hid (psE zs p h t x=2):=by show _=_;simp[psE,hk,hx]
   have HF:Hid (psM zs p h t x=[]):=if_neg (by rw[HE.out];decide)
   have HG:Hid (psR zs p h t x=(0,0,0)):=if_neg (by rw[HE.out];decide)
   have e2:wrE zs (p*8+t) x=2:=by simp[wrE,hz,hpl,hx]
   rw[e2]
   go_wp2
   refine bodyPost_ret (v:=.tuple #[.agg #[.slice none 0 0],.agg #[J 0,J 0,J 0],J 2]) (by simp[results,Tryz.results136,go_sem, *]) rfl ⟨⟨_,_,_,_,by rw[HE.out],by rw[HF.out];exact Sl.nil _ _ _,Fresh.none _ _ _,HG.out⟩,?_⟩
   exact bO (by omega) (cW (by omega) BC.out _) _ _ _
  have e2:wrE zs (p*8+t) x=0:=by simp[wrE,hz,hpl,hx]
  have m2:wrM zs (p*8+t) x=zs.set (p*8+t).toNat x:=wrM_ok hz hpl hx
  rw[e2]
  generalize wrM zs (p*8+t) x=zn at *
  have MZ:Hid (zn=zs.set (p*8+t).toNat x):=m2
  clear m2 e2
  go_wp2_with fail
  refine (lO p h t _ Rh Rt).mono ?_
  rintro e w4 ⟨rfl,rfl⟩
  by_cases hl:lenR h t=7
  ·have HE:Hid (psE zs p h t x=1):=by show _=_;simp[psE,hk,hx,hl]
   have HF:Hid (psM zs p h t x=[]):=if_neg (by rw[HE.out];decide)
   have HG:Hid (psR zs p h t x=(0,0,0)):=if_neg (by rw[HE.out];decide)
   rw[hl]
   go_wp2
   refine bodyPost_ret (v:=.tuple #[.agg #[.slice none 0 0],.agg #[J 0,J 0,J 0],J 1]) (by simp[results,Tryz.results136,go_sem, *]) rfl ⟨⟨_,_,_,_,by rw[HE.out],by rw[HF.out];exact Sl.nil _ _ _,Fresh.none _ _ _,HG.out⟩,?_⟩
   (repeat (first|with_reducible exact BC.out|with_reducible refine aA ?_ _|(with_reducible refine aI ?_ ?_ _;(focus (dsimp only;omega)))))
  have HE:Hid (psE zs p h t x=0):=by show _=_;simp[psE,hk,hx,hl]
  have HF:Hid (psM zs p h t x=zs.set (p*8+t).toNat x):=if_pos HE.out
  have HG:Hid (psR zs p h t x=(p,h,(t+1)%8)):=if_pos HE.out
  have hq:(lenR h t==7)=false:=by simpa using hl
  go_wp2_with fail
  refine (qI t _ Rt).mono ?_
  rintro e w5 ⟨rfl,rfl⟩
  go_wp2
  go_region
  go_wp2
  refine bodyPost_ret (v:=.tuple #[.agg #[.slice a3 zn.length c3],.agg #[J p,J h,J ((t+1)%8)],J 0]) (by simp[results,Tryz.results136,go_sem, *]) rfl ⟨⟨_,_,_,_,by rw[HE.out],?_,NF.out.mono (by have:=NW.out;omega),HG.out⟩,?_⟩
  ·rw[HF.out,←MZ.out]
   refine Sl.keep ?_ (Below.drew (aA (Below.refl _ _) _))
   refine Sl.setOther (Sl.setOther (Sl.setOther (Sl.setOther (Sl.setOther HN ?_ _) ?_ _) ?_ _) ?_ _) ?_ _ <;> (have:=NW.out;exact NF.out.ne (by dsimp only;omega))
  ·refine Below.drew (aA ?_ _)
   (repeat (first|with_reducible exact BC.out|with_reducible refine aA ?_ _|(with_reducible refine aI ?_ ?_ _;(focus (dsimp only;omega)))))
def ppE (zs:List Int)(p h t:Int):Int:=if bothR zs p h t=0 then (if h=t then 6 else 0) else bothR zs p h t
def ppV (zs:List Int)(p h t:Int):Int:=if ppE zs p h t=0 then nth zs (p*8+h).toNat else 0
def ppR (zs:List Int)(p h t:Int):Int × Int × Int:=if ppE zs p h t=0 then (p,(h+1)%8,t) else (0,0,0)
theorem vT {h t:Int}(hh:0≤h∧h<8)(ht:0≤t∧t<8):lenR h t=0↔h=t:=by unfold lenR;omega
theorem keep32 {W w':World}{m n b o:Nat}{v u0 u1 u2 u3:Value}(hv:W.cell? ⟨m,0,none⟩=some v)(h0:W.cell? ⟨n,0,none⟩=some u0)(h1:W.cell? ⟨n,1,none⟩=some u1)(h2:W.cell? ⟨n,2,none⟩=some u2)(h3:W.cell? ⟨b,o,none⟩=some u3)(hm:m<W.heap.size)(hn:n<W.heap.size)(ho:b<W.heap.size)(hb:Below W.heap.size W w'):
  w'.cell? ⟨m,0,none⟩=some v∧w'.cell? ⟨n,0,none⟩=some u0∧w'.cell? ⟨n,1,none⟩=some u1∧w'.cell? ⟨n,2,none⟩=some u2∧w'.cell? ⟨b,o,none⟩=some u3∧Below W.heap.size W w':=
 ⟨((bcell hb).1 m 0 hm).trans hv,((bcell hb).1 n 0 hn).trans h0,((bcell hb).1 n 1 hn).trans h1,((bcell hb).1 n 2 hn).trans h2,((bcell hb).1 b o ho).trans h3,hb⟩
theorem limbV {A B C D E F:Prop}(h:A∧B∧C∧D∧E∧F):F:=h.2.2.2.2.2
set_option maxHeartbeats 2000000 in
theorem uT (v:Value)(zs:List Int)(p h t:Int)(w:World)(hs:Sl w v zs):
  Calls Tryz.prog 62 #[.agg #[v],.agg #[J p,J h,J t]] w fun e w'=>
   (∃p' h' t',e=.returned (.tuple #[J (ppV zs p h t),.agg #[J p',J h',J t'],J (ppE zs p h t)])∧ppR zs p h t=(p',h',t'))∧Below w.heap.size w w':=by
 obtain⟨a0,c0,rfl⟩:=hs.shape
 go_enter Tryz.func62,Tryz.ntmps62
 go_wp2_with fail
 refine (hV _ zs p h t _ (hs.keep (aA (aA (aA (Below.refl _ _) _) _) _))).mono ?_
 rintro e w1 ⟨rfl,b1⟩
 have X0:=((Box.newAt (n:=w.heap.size) (by simp) 24 #[.slice a0 zs.length c0]).past (.cells #[J p,J h,J t] 29)).past (.cells #[J 0,J 0,J 0] 29) |>.keep b1
 have X1:=(Box.newAt (w:=w.alloc (.cells #[.slice a0 zs.length c0] 24)) (n:=w.heap.size+1) (by simp) 29 #[J p,J h,J t]).past _ |>.keep b1
 have X3:=(Box.newAt (n:=w.heap.size+1+1) (by simp) 29 #[J 0,J 0,J 0]) |>.keep b1
 have B1:Hid (Below w.heap.size w w1):=aB (aA (aA (aA (Below.refl _ _) _) _) _) b1
 clear b1
 obtain⟨q0,-,s0⟩:=X0.one
 obtain⟨q1,q2,q3,z1,z2,z3,s1⟩:=X1.three
 obtain⟨u0,u1,u2,g0,g1,g2,s3⟩:=X3.three
 by_cases hk:bothR zs p h t=0
 rotate_left
 ·have hq:(bothR zs p h t !=0)=true:=by simpa using hk
  have HE:Hid (ppE zs p h t=bothR zs p h t):=if_neg hk
  have HF:Hid (ppV zs p h t=0):=if_neg (by rw[HE.out];exact hk)
  have HG:Hid (ppR zs p h t=(0,0,0)):=if_neg (by rw[HE.out];exact hk)
  go_wp2
  refine bodyPost_ret (v:=.tuple #[J 0,.agg #[J 0,J 0,J 0],J (bothR zs p h t)]) (by simp[results,Tryz.results62,go_sem, *]) rfl ⟨⟨_,_,_,by rw[HE.out,HF.out],HG.out⟩,?_⟩
  exact bO (by omega) B1.out _ _ _
 obtain⟨hz,hr⟩:=iU hk
 obtain⟨rp,rh,rt⟩:=dC hr
 have hpl:=qJ rp rh
 have Rp:=dL rp
 have Rh:=bS rh
 have Rt:=bS rt
 have HL:Hid (lenR h t=0↔h=t):=vT Rh Rt
 rw[hk]
 go_wp2_with fail
 refine (lO p h t _ Rh Rt).mono ?_
 rintro e w4 ⟨rfl,rfl⟩
 by_cases hl:lenR h t=0
 ·have he:=HL.out.1 hl
  have HE:Hid (ppE zs p h t=6):=by show _=_;rw[ppE,if_pos hk,if_pos he]
  have HF:Hid (ppV zs p h t=0):=if_neg (by rw[HE.out];decide)
  have HG:Hid (ppR zs p h t=(0,0,0)):=if_neg (by rw[HE.out];decide)
  clear he
  rw[hl]
  go_wp2
  refine bodyPost_ret (v:=.tuple #[J 0,.agg #[J 0,J 0,J 0],J 6]) (by simp[results,Tryz.results62,go_sem, *]) rfl ⟨⟨_,_,_,by rw[HE.out,HF.out],HG.out⟩,?_⟩
  (repeat (first|with_reducible exact B1.out|with_reducible refine aA ?_ _|(with_reducible refine aI ?_ ?_ _;(focus (dsimp only;omega)))))
 have hne:¬h=t:=fun e=>hl (HL.out.2 e)
 have HE:Hid (ppE zs p h t=0):=by show _=_;rw[ppE,if_pos hk,if_neg hne]
 have HF:Hid (ppV zs p h t=nth zs (p*8+h).toNat):=if_pos HE.out
 have HG:Hid (ppR zs p h t=(p,(h+1)%8,t)):=if_pos HE.out
 have hq:(lenR h t==0)=false:=by simpa using hl
 clear hne
 have X0:=X0.past (ringB p h t)
 have X1:=X1.past (ringB p h t)
 have X3:=X3.past (ringB p h t)
 have B4:Hid (Below w.heap.size w (w1.alloc (ringB p h t))):=aA B1.out _
 have hl512:zs.length=512:=(bF hz).1
 obtain⟨b,o,cap,he,hb,hc⟩:=(hs.keep B4.out).open512 hl512
 simp only[Value.slice.injEq] at he
 obtain⟨rfl,hll,rfl⟩:=he
 obtain⟨p0,p1⟩:=Rp
 obtain⟨h0,h1⟩:=Rh
 have gk:=hc (p*8+h).toNat (by omega)
 have k0:0≤p*8+h:=by omega
 have k1:p*8+h<(zs.length:Int):=by omega
 clear q0 q1 q2 q3 z1 z2 z3 u0 u1 u2 g0 g1 g2 s0 s1 s3 hc B1
 obtain⟨q0,-,s0⟩:=X0.one
 obtain⟨q1,q2,q3,z1,z2,z3,s1⟩:=X1.three
 obtain⟨u0,u1,u2,g0,g1,g2,s3⟩:=X3.three
 have HL5:Hid (zs.length=512):=hl512
 clear hl512 hll
 go_upto_region 6 with fail
 generalize w1.alloc (ringB p h t)=W at *
 go_cut [8] from 20 to 27 (fun s wx=>s=J (nth zs (p*8+h).toNat)∧Below W.heap.size W wx)
 case first=>
  go_region_held3 (fun w'=>w'.cell? ⟨w.heap.size,0,none⟩=some (.slice (some ⟨b,o,none⟩) zs.length c0)∧w'.cell? ⟨w.heap.size+1,0,none⟩=some (J p)∧w'.cell? ⟨w.heap.size+1,1,none⟩=some (J h)∧w'.cell? ⟨w.heap.size+1,2,none⟩=some (J t)∧w'.cell? ⟨b,o+(p*8+h).toNat,none⟩=some (J (nth zs (p*8+h).toNat))∧Below W.heap.size W w')
   (with_reducible refine keep32 (by assumption) (by assumption) (by assumption) (by assumption) (by assumption) (by assumption) (by assumption) (by assumption) ?_;(repeat (first|with_reducible assumption|(with_reducible (refine limbV (?_:_∧_∧_∧_∧_∧_);assumption))|with_reducible exact Below.refl _ _|with_reducible refine Below.drew ?_|with_reducible refine aH ?_ _|with_reducible refine aA ?_ _|(with_reducible refine cW ?_ ?_ _;(focus (first|(simp;done)|(simp;omega)|omega)))|with_reducible refine aB ?_ (by assumption))))
   (first
    | (go_at_call 96;refine (nU p h t h _ ⟨p0,p1⟩ ⟨h0,h1⟩).mono ?_;rintro e w2 ⟨rfl,rfl⟩))
  all_goals (go_wp2_with fail;go_meet)
  exact⟨rfl,Below.drew (aA (Below.refl _ _) _)⟩
 case rest=>
  obtain⟨rfl,Bc⟩:=hcut
  have X1:=X1.keep Bc
  have X3:=X3.keep Bc
  have BC:Hid (Below w.heap.size w wc):=aB B4.out Bc
  clear Bc B4 X0 q0 q1 q2 q3 z1 z2 z3 u0 u1 u2 g0 g1 g2 s0 s1 s3 gk hb
  obtain⟨q1,q2,q3,z1,z2,z3,s1⟩:=X1.three
  obtain⟨u0,u1,u2,g0,g1,g2,s3⟩:=X3.three
  generalize nth zs (p*8+h).toNat=y at *
  go_wp2_with fail
  refine (qI h _ ⟨h0,h1⟩).mono ?_
  rintro e w5 ⟨rfl,rfl⟩
  go_wp2
  go_region
  go_wp2
  refine bodyPost_ret (v:=.tuple #[J y,.agg #[J p,J ((h+1)%8),J t],J 0]) (by simp[results,Tryz.results62,go_sem, *]) rfl ⟨⟨_,_,_,by rw[HE.out,HF.out],HG.out⟩,?_⟩
  refine Below.drew ?_
  (repeat (first|with_reducible exact BC.out|with_reducible refine aA ?_ _|(with_reducible refine aI ?_ ?_ _;(focus (dsimp only;omega)))))
theorem pop_ok {v:Value}{zs:List Int}{p h t:Int}{w:World}(hs:Sl w v zs)(hz:chk zs=0)(hr:chkR p h t=0)(hne:¬h=t):
  Calls Tryz.prog 62 #[.agg #[v],.agg #[J p,J h,J t]] w fun e w'=>
   e=.returned (.tuple #[J (nth zs (p*8+h).toNat),.agg #[J p,J ((h+1)%8),J t],J 0])∧Below w.heap.size w w':=by
 refine (uT v zs p h t w hs).mono ?_
 rintro e w' ⟨⟨p',h',t',rfl,hR⟩,hb⟩
 have e0:ppE zs p h t=0:=by rw[ppE,if_pos (fM hz hr),if_neg hne]
 rw[ppR,if_pos e0] at hR
 simp only[Prod.mk.injEq] at hR
 obtain⟨rfl,rfl,rfl⟩:=hR
 rw[ppV,if_pos e0,e0]
 exact⟨rfl,hb⟩
theorem yU {v:Value}{zs:List Int}{p h:Int}{w:World}(hs:Sl w v zs)(hz:chk zs=0)(hr:chkR p h h=0):
  Calls Tryz.prog 62 #[.agg #[v],.agg #[J p,J h,J h]] w fun e w'=>
   e=.returned (.tuple #[J 0,.agg #[J 0,J 0,J 0],J 6])∧Below w.heap.size w w':=by
 refine (uT v zs p h h w hs).mono ?_
 rintro e w' ⟨⟨p',h',t',rfl,hR⟩,hb⟩
 have e0:ppE zs p h h=6:=by rw[ppE,if_pos (fM hz hr),if_pos rfl]
 rw[ppR,if_neg (by rw[e0];decide)] at hR
 simp only[Prod.mk.injEq] at hR
 obtain⟨rfl,rfl,rfl⟩:=hR
 rw[ppV,if_neg (by rw[e0];decide),e0]
 exact⟨rfl,hb⟩
theorem aBt {v:Value}{zs:List Int}{p h t x:Int}{w:World}(hs:Sl w v zs)(hz:chk zs=0)(hr:chkR p h t=0)(hx:wordB x=true)(hl:¬lenR h t=7):
  Calls Tryz.prog 136 #[.agg #[v],.agg #[J p,J h,J t],J x] w fun e w'=>
   ∃v',e=.returned (.tuple #[.agg #[v'],.agg #[J p,J h,J ((t+1)%8)],J 0])∧Sl w' v' (zs.set (p*8+t).toNat x)∧Fresh w.heap.size v'∧Below w.heap.size w w':=by
 refine (qK v zs p h t x w hs).mono ?_
 rintro e w' ⟨⟨v',p',h',t',rfl,hS,hF,hR⟩,hb⟩
 have e0:psE zs p h t x=0:=by rw[psE,if_pos (fM hz hr),if_pos hx,if_neg hl]
 rw[psR,if_pos e0] at hR
 simp only[Prod.mk.injEq] at hR
 obtain⟨rfl,rfl,rfl⟩:=hR
 rw[psM,if_pos e0] at hS
 rw[e0]
 exact⟨v',rfl,hS,hF,hb⟩
theorem vU {v:Value}{zs:List Int}{p h t x:Int}{w:World}(hs:Sl w v zs)(hz:chk zs=0)(hr:chkR p h t=0)(hx:wordB x=true)(hl:lenR h t=7):
  Calls Tryz.prog 136 #[.agg #[v],.agg #[J p,J h,J t],J x] w fun e w'=>
   ∃a c,e=.returned (.tuple #[.agg #[.slice a 0 c],.agg #[J 0,J 0,J 0],J 1])∧Below w.heap.size w w':=by
 refine (qK v zs p h t x w hs).mono ?_
 rintro e w' ⟨⟨v',p',h',t',rfl,hS,hF,hR⟩,hb⟩
 have e0:psE zs p h t x=1:=by rw[psE,if_pos (fM hz hr),if_pos hx,if_pos hl]
 rw[psR,if_neg (by rw[e0];decide)] at hR
 simp only[Prod.mk.injEq] at hR
 obtain⟨rfl,rfl,rfl⟩:=hR
 rw[psM,if_neg (by rw[e0];decide)] at hS
 obtain⟨a,c,rfl⟩:=hS.shape
 rw[e0]
 exact⟨a,c,rfl,hb⟩
def oE (k d p:Int):Int:=if (0≤k∧k≤3)∧(0≤d∧d≤7)∧(0≤p∧p≤63) then (if (0<d∧k<2)∨(0<p∧k<3) then 3 else 0) else 2
def oW (k d p:Int):Int:=if oE k d p=0 then k+4*d+32*p else 0
def roE (w:Int):Int:=if 0≤w∧w≤65535 then (if oE (w%4) (w/4%8) (w/32)=0 then 0 else 3) else 2
def roO (w:Int):Int × Int × Int:=if roE w=0 then (w%4,w/4%8,w/32) else (0,0,0)
theorem oE_ok {k d p:Int}(h:oE k d p=0):(0≤k∧k≤3)∧(0≤d∧d≤7)∧(0≤p∧p≤63)∧¬(0<d∧k<2)∧¬(0<p∧k<3):=by
 unfold oE at h
 split at h
 ·rename_i h1
  split at h
  ·exact absurd h (by decide)
  ·rename_i h2
   exact⟨h1.1,h1.2.1,h1.2.2,fun x=>h2 (.inl x),fun x=>h2 (.inr x)⟩
 ·exact absurd h (by decide)
theorem iV {k d p:Int}(h1:0≤k∧k≤3)(h2:0≤d∧d≤7)(h3:0≤p∧p≤63)(h4:¬(0<d∧k<2))(h5:¬(0<p∧k<3)):oE k d p=0:=by
 unfold oE;rw[if_pos ⟨h1,h2,h3⟩,if_neg (fun h=>h.elim h4 h5)]
theorem kF {k d p:Int}(h:oE k d p=0):oW k d p=k+4*d+32*p:=if_pos h
theorem roE_ok {w:Int}(h:roE w=0):(0≤w∧w≤65535)∧oE (w%4) (w/4%8) (w/32)=0:=by
 unfold roE at h
 split at h
 ·rename_i h1
  split at h
  ·rename_i h2;exact⟨h1,h2⟩
  ·exact absurd h (by decide)
 ·exact absurd h (by decide)
theorem yV {w:Int}(h1:0≤w∧w≤65535)(h2:oE (w%4) (w/4%8) (w/32)=0):roE w=0:=by unfold roE;rw[if_pos h1,if_pos h2]
theorem o_read {w k d p:Int}(h:roE w=0)(e:roO w=(k,d,p)):oE k d p=0∧oW k d p=w:=by
 obtain⟨h1,h2⟩:=roE_ok h
 rw[roO,if_pos h] at e
 simp only[Prod.mk.injEq] at e
 obtain⟨rfl,rfl,rfl⟩:=e
 exact⟨h2,by rw[kF h2];omega⟩
def fE (c d p:Int):Int:=if (1≤c∧c≤5)∧(0≤d∧d≤7)∧(0≤p∧p≤63) then 0 else 2
def fX (x:Bool):Int:=if x=true then 4096 else 0
def fW (c d p:Int)(x:Bool):Int:=if fE c d p=0 then c+8*d+64*p+fX x else 0
def rfE (w:Int):Int:=if 0≤w∧w≤65535 then (if fE (w%8) (w/8%8) (w/64%64)=0∧w<8192 then 0 else 3) else 2
def rfF (w:Int):Int × Int × Int × Bool:=if rfE w=0 then (w%8,w/8%8,w/64%64,decide (w/4096=1)) else (0,0,0,false)
theorem fE_ok {c d p:Int}(h:fE c d p=0):(1≤c∧c≤5)∧(0≤d∧d≤7)∧(0≤p∧p≤63):=by
 unfold fE at h;split at h
 ·rename_i h1;exact h1
 ·exact absurd h (by decide)
theorem fE_mk {c d p:Int}(h1:1≤c∧c≤5)(h2:0≤d∧d≤7)(h3:0≤p∧p≤63):fE c d p=0:=if_pos ⟨h1,h2,h3⟩
theorem qL {c d p:Int}{x:Bool}(h:fE c d p=0):fW c d p x=c+8*d+64*p+fX x:=if_pos h
theorem qM (x:Bool):(x=true∧fX x=4096)∨(x=false∧fX x=0):=by cases x <;> simp[fX]
theorem yW {w:Int}(h:rfE w=0):(0≤w∧w≤65535)∧fE (w%8) (w/8%8) (w/64%64)=0∧w<8192:=by
 unfold rfE at h
 split at h
 ·rename_i h1
  split at h
  ·rename_i h2;exact⟨h1,h2⟩
  ·exact absurd h (by decide)
 ·exact absurd h (by decide)
theorem yX {w:Int}(h1:0≤w∧w≤65535)(h2:fE (w%8) (w/8%8) (w/64%64)=0)(h3:w<8192):rfE w=0:=by unfold rfE;rw[if_pos h1,if_pos ⟨h2,h3⟩]
theorem f_back {c d p:Int}{x:Bool}(h:fE c d p=0):rfE (fW c d p x)=0∧rfF (fW c d p x)=(c,d,p,x):=by
 obtain⟨h1,h2,h3⟩:=fE_ok h
 obtain⟨w,hw⟩:∃w,fW c d p x=w:=⟨_,rfl⟩
 have ew:=qL (x:=x) h
 rw[hw] at ew ⊢
 have hx:=qM x
 have e1:w%8=c:=by rcases hx with ⟨_,hx⟩|⟨_,hx⟩ <;> rw[hx] at ew <;> omega
 have e2:w/8%8=d:=by rcases hx with ⟨_,hx⟩|⟨_,hx⟩ <;> rw[hx] at ew <;> omega
 have e3:w/64%64=p:=by rcases hx with ⟨_,hx⟩|⟨_,hx⟩ <;> rw[hx] at ew <;> omega
 have e4:decide (w/4096=1)=x:=by
  rcases hx with ⟨hb,hx⟩|⟨hb,hx⟩
  ·rw[hx] at ew;rw[hb];exact decide_eq_true (by omega)
  ·rw[hx] at ew;rw[hb];exact decide_eq_false (by omega)
 have hr:rfE w=0:=yX (by rcases hx with ⟨_,hx⟩|⟨_,hx⟩ <;> rw[hx] at ew <;> omega) (by rw[e1,e2,e3];exact h) (by rcases hx with ⟨_,hx⟩|⟨_,hx⟩ <;> rw[hx] at ew <;> omega)
 exact⟨hr,by rw[rfF,if_pos hr,e1,e2,e3,e4]⟩
theorem f_read {w c d p:Int}{x:Bool}(h:rfE w=0)(e:rfF w=(c,d,p,x)):fE c d p=0∧fW c d p x=w:=by
 obtain⟨h1,h2,h3⟩:=yW h
 rw[rfF,if_pos h] at e
 simp only[Prod.mk.injEq] at e
 obtain⟨rfl,rfl,rfl,rfl⟩:=e
 refine⟨h2,?_⟩
 rw[qL h2]
 by_cases hx:w/4096=1
 ·rw[show decide (w/4096=1)=true from decide_eq_true hx,show fX true=4096 from rfl];omega
 ·rw[show decide (w/4096=1)=false from decide_eq_false hx,show fX false=0 from rfl];omega
end Go.Proofs.YthlhocneggcekaaGreat
