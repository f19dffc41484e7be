/-
  Laid together: HappenedB.
-/
import Derived.Test.YthlhocneggcekaaGreatD27
namespace Go.Proofs.YthlhocneggcekaaGreat
open Go.RowKit
theorem mH {m:Mc}{x:Hp}{e:Int}(h:hpE m x=e)(h0:e≠0):hpE m x=e∧hpR m x=(⟨[],⟨0,[],false⟩,⟨0,0,[],0,0,0,false,0,0,0,0,false⟩⟩,⟨false,[],0,[]⟩):=
 ⟨h,by rw[hpR,if_neg (by rw[h];exact h0)];rfl⟩
set_option maxRecDepth 10000 in
theorem dN (x:Int)(w:World):
  Calls Tryz.prog 48 #[J x] w fun e w'=>e=.returned (.tuple #[.agg zM,.agg zT,J x])∧Below w.heap.size w w':=by
 have X2:=(Box.newAt (w:=w) (n:=w.heap.size) rfl 33 zM).past (.cells zT 40)
 have X3:=Box.newAt (w:=w.alloc (.cells zM 33)) (n:=w.heap.size+1) (by simp) 40 zT
 have B9:Hid (Below w.heap.size w ((w.alloc (.cells zM 33)).alloc (.cells zT 40))):=aA (aA (Below.refl w.heap.size w) _) _
 go_enter Tryz.func48,Tryz.ntmps48
 go_upto_region 1 with fail
 generalize ((w.alloc (.cells zM 33)).alloc (.cells zT 40))=W at *
 obtain⟨⟨q0,q1,q2,q3⟩,⟨g0,g1,g2,g3,g4,g5,g6,g7,g8,g9,g10,g11⟩,s2⟩:=X2.sixteen
 have mk:=X2.marksOf
 obtain⟨t0,t1,t2,t3,f0,f1,f2,f3,s3⟩:=X3.four
 clear X2 X3
 have n23:¬w.heap.size=w.heap.size+1:=by omega
 go_wp2
 refine bodyPost_ret (v:=.tuple #[.agg zM,.agg zT,J x]) (by simp[results,Tryz.results48,go_sem, *]) rfl ⟨rfl,?_⟩
 (repeat (first|with_reducible exact B9.out|with_reducible refine Below.drew ?_|(with_reducible refine aX ?_ ?_ _ _ _ _ _ _ _ _ _ _ _ _ _ _ _ _;(focus omega))|(with_reducible refine aZ ?_ ?_ _ _ _ _;(focus omega))|(with_reducible refine aI ?_ ?_ _;(focus (dsimp only;omega)))))
def OffL (bad:Nat→Prop)(l:List Ln)(cs:Array Value):Prop:=∀(i:Nat) (v:Value),cs[i]?=some v→(i=6→l≠[])→Off bad v
theorem OffRow.lines {bad:Nat→Prop}{cs:Array Value}(h:OffRow bad cs)(l:List Ln):OffL bad l cs:=fun i v hv _=>h i v hv
theorem offL {bad:Nat→Prop}{v u c:Value}{l:List Ln}{p i0 i1 i3 i4 i5 i7 i8 i9 i10:Int}{d b6 b11:Bool}(h1:Off bad v)(h2:Off bad u)(h3:l≠[]→Off bad c):
  OffL bad l (rM v p u d i0 i1 c i3 i4 i5 b6 i7 i8 i9 i10 b11):=by
 by_cases hl:l=[]
 ·subst hl
  intro i w hw hi
  have q:=offM (bad:=bad) (p:=p) (i0:=i0) (i1:=i1) (i3:=i3) (i4:=i4) (i5:=i5) (i7:=i7) (i8:=i8) (i9:=i9) (i10:=i10) (d:=d) (b6:=b6) (b11:=b11) h1 h2 (Off.none _ 0 0) i
  by_cases h6:i=6
  ·exact absurd rfl (hi h6)
  ·refine q w ?_
   rw[←hw]
   rcases i with _|_|_|_|_|_|_|i
   all_goals first|rfl|omega
 ·exact (offM h1 h2 (h3 hl)).lines l
def NewL (N:Nat)(m M1:Mc)(cs c2:Array Value):Prop:=∀bad:Nat→Prop,(∀q,bad q→q<N)→OffL bad m.b.cache cs→OffL bad M1.b.cache c2
theorem aDf (N:Nat)(m M1:Mc)(cs:Array Value):NewL N m M1 cs zeroM:=fun _ _ _=>(gV _).lines _
theorem Off.orFresh {N:Nat}{bad:Nat→Prop}{v v1:Value}(h:Off bad v)(hN:∀q,bad q→q<N)(e:v1=v∨Fresh N v1):Off bad v1:=by
 rcases e with rfl|e
 ·exact h
 ·exact e.off (fun q hq=>hN q hq)
abbrev HapOutN (m:Mc)(x:Hp)(cs:Array Value)(w:World)(e:Ending)(w':World):Prop:=
 ∃cs1 cs2,e=.returned (.tuple #[.agg cs1,.agg cs2,J (hpE m x)])∧IsM w' (hpR m x).1 cs1∧IsT w' (hpR m x).2 cs2∧OffRow (fun q=>q<w.heap.size) cs2∧NewL w.heap.size m (hpR m x).1 cs cs1∧Below w.heap.size w w'
def HapQ (m:Mc)(x:Hp)(cs ch:Array Value)(w:World):Prop:=Calls Tryz.prog 18 #[.agg cs,.agg ch] w fun e w'=>HapOutN m x cs w e w'
def Own1 (w:World)(q:Nat):Prop:=(∃m c,Box w q 33 c∧IsM w m c)∨(∃t c,Box w q 40 c∧IsT w t c)
theorem IsM.stay {w w':World}{m:Mc}{cs:Array Value}{bad:Nat→Prop}(h:IsM w m cs)(hz:m.zs.length=512)(hr:m.h.r.length=8)(K:KeptB bad w w')(hb:∀q,bad q→Own1 w q):IsM w' m cs:=by
 obtain⟨a1,n1,c1,a2,n2,c2,a3,n3,c3,rfl,h1,h2,h3⟩:=h
 refine⟨a1,n1,c1,a2,n2,c2,a3,n3,c3,rfl,h1.kept K fun q hq hq2=>?_,h2.kept K fun q hq hq2=>?_,h3.keptP K fun q hq2=>?_⟩
 ·rcases hb q hq2 with ⟨_,_,X,e⟩|⟨_,_,X,e⟩
  ·exact h1.long X (by rw[e.size.1,hz];decide) q hq rfl
  ·exact h1.long X (by rw[e.size.1,hz];decide) q hq rfl
 ·rcases hb q hq2 with ⟨_,_,X,_,_,_,_,_,_,_,_,_,rfl,-⟩|⟨_,_,X,e⟩
  ·exact h2.regsM hr X q hq rfl
  ·exact h2.long X (by rw[e.size.1,hr];decide) q hq rfl
 ·rcases hb q hq2 with ⟨_,_,X,_,_,_,_,_,_,_,_,_,rfl,-⟩|⟨_,_,X,_,_,_,_,_,_,rfl,-⟩
  ·exact h3.apartM X
  ·exact h3.apart4 X
theorem aCz {m:Mc}(h:chkM m=0):m.zs.length=512∧m.h.r.length=8:=by
 obtain⟨h1,h2,-⟩:=bW h
 exact⟨(bF h1).1,(cR h2).1⟩
structure Fv5 (W:World)(N:Nat)(R H T:Array Value):Prop where
 x0:Box W N 33 R
 x1:Box W (N+1) 37 H
 x2:Box W (N+1+1) 33 zeroM
 x3:Box W (N+1+1+1) 40 zeroT
 x4:Box W (N+1+1+1+1) 40 T
theorem Fv5.keep {W W':World}{N:Nat}{R H T:Array Value}(h:Fv5 W N R H T)(b:Below W.heap.size W W'):Fv5 W' N R H T:=⟨h.x0.keep b,h.x1.keep b,h.x2.keep b,h.x3.keep b,h.x4.keep b⟩
theorem Fv5.past {W:World}{N:Nat}{R H T:Array Value}(h:Fv5 W N R H T)(o:Obj):Fv5 (W.alloc o) N R H T:=⟨h.x0.past o,h.x1.past o,h.x2.past o,h.x3.past o,h.x4.past o⟩
theorem Fv5.lt {W:World}{N:Nat}{R H T:Array Value}(h:Fv5 W N R H T):N+5≤W.heap.size:=by have:=h.x4.lt;omega
def fiveW (w:World)(R H:Array Value):World:=((((w.alloc (.cells R 33)).alloc (.cells H 37)).alloc (.cells zM 33)).alloc (.cells zT 40)).alloc (.cells zT 40)
theorem aCv {w:World}{R H:Array Value}:((((w.alloc (.cells R 33)).alloc (.cells H 37)).alloc (.cells zM 33)).alloc (.cells zT 40)).alloc (.cells zT 40)=fiveW w R H:=rfl
theorem aCy (w:World)(R H:Array Value):Fv5 (fiveW w R H) w.heap.size R H zeroT∧Below w.heap.size w (fiveW w R H):=by
 refine⟨⟨((((Box.newAt rfl _ _).past _).past _).past _).past _,(((Box.newAt (by simp) _ _).past _).past _).past _,((Box.newAt (by simp) _ _).past _).past _,(Box.newAt (by simp) _ _).past _,Box.newAt (by simp) _ _⟩,?_⟩
 exact aA (aA (aA (aA (aA (Below.refl _ _) _) _) _) _) _
theorem gen16 {motive:World→Prop}{w w1:World}{N:Nat}{H T:Array Value}{u0 u1 u2 u3 u4 u5 u6 u7 u8 u9 u10 u11 u12 u13 u14 u15 a0 a1 a2 a3 a4 a5 a6 a7 a8 a9 a10 a11 a12 a13 a14 a15:Value}(A:Fv5 w1 N #[a0,a1,a2,a3,a4,a5,a6,a7,a8,a9,a10,a11,a12,a13,a14,a15] H T)(hN:w.heap.size≤N)(B:Below w.heap.size w w1)
  (h:∀V,Fv5 V N #[u0,u1,u2,u3,u4,u5,u6,u7,u8,u9,u10,u11,u12,u13,u14,u15] H T→Below w.heap.size w V→KeptB (fun q=>q=N∨q=N+1+1+1+1) w1 V→motive V):motive ((((((((((((((((w1.setCell ⟨N,0,none⟩ u0).setCell ⟨N,1,none⟩ u1).setCell ⟨N,2,none⟩ u2).setCell ⟨N,3,none⟩ u3).setCell ⟨N,4,none⟩ u4).setCell ⟨N,5,none⟩ u5).setCell ⟨N,6,none⟩ u6).setCell ⟨N,7,none⟩ u7).setCell ⟨N,8,none⟩ u8).setCell ⟨N,9,none⟩ u9).setCell ⟨N,10,none⟩ u10).setCell ⟨N,11,none⟩ u11).setCell ⟨N,12,none⟩ u12).setCell ⟨N,13,none⟩ u13).setCell ⟨N,14,none⟩ u14).setCell ⟨N,15,none⟩ u15):=by
 have K:KeptB (fun q=>q=N∨q=N+1+1+1+1) w1 ((((((((((((((((w1.setCell ⟨N,0,none⟩ u0).setCell ⟨N,1,none⟩ u1).setCell ⟨N,2,none⟩ u2).setCell ⟨N,3,none⟩ u3).setCell ⟨N,4,none⟩ u4).setCell ⟨N,5,none⟩ u5).setCell ⟨N,6,none⟩ u6).setCell ⟨N,7,none⟩ u7).setCell ⟨N,8,none⟩ u8).setCell ⟨N,9,none⟩ u9).setCell ⟨N,10,none⟩ u10).setCell ⟨N,11,none⟩ u11).setCell ⟨N,12,none⟩ u12).setCell ⟨N,13,none⟩ u13).setCell ⟨N,14,none⟩ u14).setCell ⟨N,15,none⟩ u15):=by
  (repeat (first|with_reducible exact KeptB.refl _ _|(with_reducible refine KeptB.setCell ?_ ?_ _;rotate_left;(focus (dsimp only;omega)))))
 have K4:KeptB (fun q=>q=N) w1 ((((((((((((((((w1.setCell ⟨N,0,none⟩ u0).setCell ⟨N,1,none⟩ u1).setCell ⟨N,2,none⟩ u2).setCell ⟨N,3,none⟩ u3).setCell ⟨N,4,none⟩ u4).setCell ⟨N,5,none⟩ u5).setCell ⟨N,6,none⟩ u6).setCell ⟨N,7,none⟩ u7).setCell ⟨N,8,none⟩ u8).setCell ⟨N,9,none⟩ u9).setCell ⟨N,10,none⟩ u10).setCell ⟨N,11,none⟩ u11).setCell ⟨N,12,none⟩ u12).setCell ⟨N,13,none⟩ u13).setCell ⟨N,14,none⟩ u14).setCell ⟨N,15,none⟩ u15):=by
  (repeat (first|with_reducible exact KeptB.refl _ _|(with_reducible refine KeptB.setCell ?_ ?_ _;rotate_left;(focus (dsimp only;omega)))))
 refine h _ ⟨A.x0.set16 _ _ _ _ _ _ _ _ _ _ _ _ _ _ _ _,A.x1.kept K (by omega),A.x2.kept K (by omega),A.x3.kept K (by omega),A.x4.kept K4 (by omega)⟩ ?_ K
 (repeat (first|with_reducible exact B|(with_reducible refine aI ?_ ?_ _;(focus (dsimp only;omega)))))
theorem gen1 {motive:World→Prop}{w w1:World}{N:Nat}{H T:Array Value}{u6 a0 a1 a2 a3 a4 a5 a6 a7 a8 a9 a10 a11 a12 a13 a14 a15:Value}(A:Fv5 w1 N #[a0,a1,a2,a3,a4,a5,a6,a7,a8,a9,a10,a11,a12,a13,a14,a15] H T)(hN:w.heap.size≤N)(B:Below w.heap.size w w1)
  (h:∀V,Fv5 V N #[a0,a1,a2,a3,a4,a5,u6,a7,a8,a9,a10,a11,a12,a13,a14,a15] H T→Below w.heap.size w V→KeptB (fun q=>q=N∨q=N+1+1+1+1) w1 V→motive V):motive (w1.setCell ⟨N,6,none⟩ u6):=by
 have K:KeptB (fun q=>q=N∨q=N+1+1+1+1) w1 (w1.setCell ⟨N,6,none⟩ u6):=by
  (repeat (first|with_reducible exact KeptB.refl _ _|(with_reducible refine KeptB.setCell ?_ ?_ _;rotate_left;(focus (dsimp only;omega)))))
 have K4:KeptB (fun q=>q=N) w1 (w1.setCell ⟨N,6,none⟩ u6):=by
  (repeat (first|with_reducible exact KeptB.refl _ _|(with_reducible refine KeptB.setCell ?_ ?_ _;rotate_left;(focus (dsimp only;omega)))))
 refine h _ ⟨A.x0.set 6 u6,A.x1.kept K (by omega),A.x2.kept K (by omega),A.x3.kept K (by omega),A.x4.kept K4 (by omega)⟩ ?_ K
 (repeat (first|with_reducible exact B|(with_reducible refine aI ?_ ?_ _;(focus (dsimp only;omega)))))
theorem gen12 {motive:World→Prop}{w w1:World}{N:Nat}{H T:Array Value}{u4 u5 u6 u7 u8 u9 u10 u11 u12 u13 u14 u15 a0 a1 a2 a3 a4 a5 a6 a7 a8 a9 a10 a11 a12 a13 a14 a15:Value}(A:Fv5 w1 N #[a0,a1,a2,a3,a4,a5,a6,a7,a8,a9,a10,a11,a12,a13,a14,a15] H T)(hN:w.heap.size≤N)(B:Below w.heap.size w w1)
  (h:∀V,Fv5 V N #[a0,a1,a2,a3,u4,u5,u6,u7,u8,u9,u10,u11,u12,u13,u14,u15] H T→Below w.heap.size w V→KeptB (fun q=>q=N∨q=N+1+1+1+1) w1 V→motive V):motive ((((((((((((w1.setCell ⟨N,4,none⟩ u4).setCell ⟨N,5,none⟩ u5).setCell ⟨N,6,none⟩ u6).setCell ⟨N,7,none⟩ u7).setCell ⟨N,8,none⟩ u8).setCell ⟨N,9,none⟩ u9).setCell ⟨N,10,none⟩ u10).setCell ⟨N,11,none⟩ u11).setCell ⟨N,12,none⟩ u12).setCell ⟨N,13,none⟩ u13).setCell ⟨N,14,none⟩ u14).setCell ⟨N,15,none⟩ u15):=by
 have K:KeptB (fun q=>q=N∨q=N+1+1+1+1) w1 ((((((((((((w1.setCell ⟨N,4,none⟩ u4).setCell ⟨N,5,none⟩ u5).setCell ⟨N,6,none⟩ u6).setCell ⟨N,7,none⟩ u7).setCell ⟨N,8,none⟩ u8).setCell ⟨N,9,none⟩ u9).setCell ⟨N,10,none⟩ u10).setCell ⟨N,11,none⟩ u11).setCell ⟨N,12,none⟩ u12).setCell ⟨N,13,none⟩ u13).setCell ⟨N,14,none⟩ u14).setCell ⟨N,15,none⟩ u15):=by
  (repeat (first|with_reducible exact KeptB.refl _ _|(with_reducible refine KeptB.setCell ?_ ?_ _;rotate_left;(focus (dsimp only;omega)))))
 have K4:KeptB (fun q=>q=N) w1 ((((((((((((w1.setCell ⟨N,4,none⟩ u4).setCell ⟨N,5,none⟩ u5).setCell ⟨N,6,none⟩ u6).setCell ⟨N,7,none⟩ u7).setCell ⟨N,8,none⟩ u8).setCell ⟨N,9,none⟩ u9).setCell ⟨N,10,none⟩ u10).setCell ⟨N,11,none⟩ u11).setCell ⟨N,12,none⟩ u12).setCell ⟨N,13,none⟩ u13).setCell ⟨N,14,none⟩ u14).setCell ⟨N,15,none⟩ u15):=by
  (repeat (first|with_reducible exact KeptB.refl _ _|(with_reducible refine KeptB.setCell ?_ ?_ _;rotate_left;(focus (dsimp only;omega)))))
 refine h _ ⟨A.x0.setBrM _ _ _ _ _ _ _ _ _ _ _ _,A.x1.kept K (by omega),A.x2.kept K (by omega),A.x3.kept K (by omega),A.x4.kept K4 (by omega)⟩ ?_ K
 (repeat (first|with_reducible exact B|(with_reducible refine aI ?_ ?_ _;(focus (dsimp only;omega)))))
theorem gen17 {motive:World→Prop}{w w1:World}{N:Nat}{H:Array Value}{u0 u4 u5 u6 u7 u8 u9 u10 u11 u12 u13 u14 u15 t0 t1 t2 t3 a0 a1 a2 a3 a4 a5 a6 a7 a8 a9 a10 a11 a12 a13 a14 a15:Value}(A:Fv5 w1 N #[a0,a1,a2,a3,a4,a5,a6,a7,a8,a9,a10,a11,a12,a13,a14,a15] H zeroT)(hN:w.heap.size≤N)(B:Below w.heap.size w w1)
  (h:∀V,Fv5 V N #[u0,a1,a2,a3,u4,u5,u6,u7,u8,u9,u10,u11,u12,u13,u14,u15] H #[t0,t1,t2,t3]→Below w.heap.size w V→KeptB (fun q=>q=N∨q=N+1+1+1+1) w1 V→motive V):motive (((((((((((((((((w1.setCell ⟨N,0,none⟩ u0).setCell ⟨N,4,none⟩ u4).setCell ⟨N,5,none⟩ u5).setCell ⟨N,6,none⟩ u6).setCell ⟨N,7,none⟩ u7).setCell ⟨N,8,none⟩ u8).setCell ⟨N,9,none⟩ u9).setCell ⟨N,10,none⟩ u10).setCell ⟨N,11,none⟩ u11).setCell ⟨N,12,none⟩ u12).setCell ⟨N,13,none⟩ u13).setCell ⟨N,14,none⟩ u14).setCell ⟨N,15,none⟩ u15).setCell ⟨(N+1+1+1+1),0,none⟩ t0).setCell ⟨(N+1+1+1+1),1,none⟩ t1).setCell ⟨(N+1+1+1+1),2,none⟩ t2).setCell ⟨(N+1+1+1+1),3,none⟩ t3):=by
 have K1:KeptB (fun q=>q=N) w1 (((((((((((((w1.setCell ⟨N,0,none⟩ u0).setCell ⟨N,4,none⟩ u4).setCell ⟨N,5,none⟩ u5).setCell ⟨N,6,none⟩ u6).setCell ⟨N,7,none⟩ u7).setCell ⟨N,8,none⟩ u8).setCell ⟨N,9,none⟩ u9).setCell ⟨N,10,none⟩ u10).setCell ⟨N,11,none⟩ u11).setCell ⟨N,12,none⟩ u12).setCell ⟨N,13,none⟩ u13).setCell ⟨N,14,none⟩ u14).setCell ⟨N,15,none⟩ u15):=by
  (repeat (first|with_reducible exact KeptB.refl _ _|(with_reducible refine KeptB.setCell ?_ ?_ _;rotate_left;(focus (dsimp only;omega)))))
 have K2:KeptB (fun q=>q=N+1+1+1+1) (((((((((((((w1.setCell ⟨N,0,none⟩ u0).setCell ⟨N,4,none⟩ u4).setCell ⟨N,5,none⟩ u5).setCell ⟨N,6,none⟩ u6).setCell ⟨N,7,none⟩ u7).setCell ⟨N,8,none⟩ u8).setCell ⟨N,9,none⟩ u9).setCell ⟨N,10,none⟩ u10).setCell ⟨N,11,none⟩ u11).setCell ⟨N,12,none⟩ u12).setCell ⟨N,13,none⟩ u13).setCell ⟨N,14,none⟩ u14).setCell ⟨N,15,none⟩ u15) (((((((((((((((((w1.setCell ⟨N,0,none⟩ u0).setCell ⟨N,4,none⟩ u4).setCell ⟨N,5,none⟩ u5).setCell ⟨N,6,none⟩ u6).setCell ⟨N,7,none⟩ u7).setCell ⟨N,8,none⟩ u8).setCell ⟨N,9,none⟩ u9).setCell ⟨N,10,none⟩ u10).setCell ⟨N,11,none⟩ u11).setCell ⟨N,12,none⟩ u12).setCell ⟨N,13,none⟩ u13).setCell ⟨N,14,none⟩ u14).setCell ⟨N,15,none⟩ u15).setCell ⟨(N+1+1+1+1),0,none⟩ t0).setCell ⟨(N+1+1+1+1),1,none⟩ t1).setCell ⟨(N+1+1+1+1),2,none⟩ t2).setCell ⟨(N+1+1+1+1),3,none⟩ t3):=by
  (repeat (first|with_reducible exact KeptB.refl _ _|(with_reducible refine KeptB.setCell ?_ ?_ _;rotate_left;(focus (dsimp only;omega)))))
 have K:KeptB (fun q=>q=N∨q=N+1+1+1+1) w1 (((((((((((((((((w1.setCell ⟨N,0,none⟩ u0).setCell ⟨N,4,none⟩ u4).setCell ⟨N,5,none⟩ u5).setCell ⟨N,6,none⟩ u6).setCell ⟨N,7,none⟩ u7).setCell ⟨N,8,none⟩ u8).setCell ⟨N,9,none⟩ u9).setCell ⟨N,10,none⟩ u10).setCell ⟨N,11,none⟩ u11).setCell ⟨N,12,none⟩ u12).setCell ⟨N,13,none⟩ u13).setCell ⟨N,14,none⟩ u14).setCell ⟨N,15,none⟩ u15).setCell ⟨(N+1+1+1+1),0,none⟩ t0).setCell ⟨(N+1+1+1+1),1,none⟩ t1).setCell ⟨(N+1+1+1+1),2,none⟩ t2).setCell ⟨(N+1+1+1+1),3,none⟩ t3):=by
  (repeat (first|with_reducible exact KeptB.refl _ _|(with_reducible refine KeptB.setCell ?_ ?_ _;rotate_left;(focus (dsimp only;omega)))))
 have Y:Box (((((((((((((w1.setCell ⟨N,0,none⟩ u0).setCell ⟨N,4,none⟩ u4).setCell ⟨N,5,none⟩ u5).setCell ⟨N,6,none⟩ u6).setCell ⟨N,7,none⟩ u7).setCell ⟨N,8,none⟩ u8).setCell ⟨N,9,none⟩ u9).setCell ⟨N,10,none⟩ u10).setCell ⟨N,11,none⟩ u11).setCell ⟨N,12,none⟩ u12).setCell ⟨N,13,none⟩ u13).setCell ⟨N,14,none⟩ u14).setCell ⟨N,15,none⟩ u15) N 33 #[u0,a1,a2,a3,u4,u5,u6,u7,u8,u9,u10,u11,u12,u13,u14,u15]:=Box.setBrM (a0:=u0) (a1:=a1) (a2:=a2) (a3:=a3) (Box.set A.x0 0 u0) _ _ _ _ _ _ _ _ _ _ _ _
 have Z:Box (((((((((((((((((w1.setCell ⟨N,0,none⟩ u0).setCell ⟨N,4,none⟩ u4).setCell ⟨N,5,none⟩ u5).setCell ⟨N,6,none⟩ u6).setCell ⟨N,7,none⟩ u7).setCell ⟨N,8,none⟩ u8).setCell ⟨N,9,none⟩ u9).setCell ⟨N,10,none⟩ u10).setCell ⟨N,11,none⟩ u11).setCell ⟨N,12,none⟩ u12).setCell ⟨N,13,none⟩ u13).setCell ⟨N,14,none⟩ u14).setCell ⟨N,15,none⟩ u15).setCell ⟨(N+1+1+1+1),0,none⟩ t0).setCell ⟨(N+1+1+1+1),1,none⟩ t1).setCell ⟨(N+1+1+1+1),2,none⟩ t2).setCell ⟨(N+1+1+1+1),3,none⟩ t3) (N+1+1+1+1) 40 #[t0,t1,t2,t3]:=Box.set (Box.set (Box.set (Box.set (A.x4.kept K1 (by omega)) 0 t0) 1 t1) 2 t2) 3 t3
 refine h _ ⟨Y.kept K2 (by omega),A.x1.kept K (by omega),A.x2.kept K (by omega),A.x3.kept K (by omega),Z⟩ ?_ K
 (repeat (first|with_reducible exact B|(with_reducible refine aI ?_ ?_ _;(focus (dsimp only;omega)))))
theorem aCu (x:Int)(w:World):Calls Tryz.prog 48 #[J x] w fun e w'=>e=.returned (.tuple #[.agg zeroM,.agg zeroT,J x])∧Below w.heap.size w w':=dN x w
theorem aCr:zeroM.size=16∧zeroM.all (·.oneCell')=true:=(jK default).size
theorem aCs:zeroT.size=4∧zeroT.all (·.oneCell')=true:=(sC default).size
theorem aCx {tm:Array Value}{V w:World}{z2 z3 c2 c3 cs:Array Value}{m M1:Mc}{x:Hp}{T1:To}{E:Int}(h4:tm.getD 4 undef=.pointer (some ⟨w.heap.size+1+1,0,none⟩))(h5:tm.getD 5 undef=.pointer (some ⟨w.heap.size+1+1+1,0,none⟩))(h6:tm.getD 6 undef=J E)
  (R2:Box V (w.heap.size+1+1) 33 z2) (R3:Box V (w.heap.size+1+1+1) 40 z3) (hb:Below w.heap.size w V) (hE:hpE m x=E) (hR:hpR m x=(M1,T1)) (hT:IsT V T1 c3) (o:OffRow (fun q=>q<w.heap.size+5) c3)
  (hM:∀V',KeptB (fun q=>q=w.heap.size+1+1∨q=w.heap.size+1+1+1) V V'→IsM V' M1 c2) (hO:NewL w.heap.size m M1 cs c2):bodyPost Tryz.prog Tryz.f18 (fun e w'=>HapOutN m x cs w e w') .ret ⟨tm,[]⟩ ((V.setRow (w.heap.size+1+1) c2).setRow (w.heap.size+1+1+1) c3):=by
 have K:KeptB (fun q=>q=w.heap.size+1+1∨q=w.heap.size+1+1+1) V ((V.setRow (w.heap.size+1+1) c2).setRow (w.heap.size+1+1+1) c3):=((KeptB.refl _ _).setRow (.inl (.inl rfl)) _).setRow (.inl (.inr rfl)) _
 have iM:=hM _ K
 have iT:=hT.kept K o (fun q hq=>by omega)
 have l2:=((R2.setRow c2).otherRow (m:=w.heap.size+1+1+1) (by omega) c3).loadM iM.size.1
 have l3:=((R3.otherRow (m:=w.heap.size+1+1) (by omega) c2).setRow c3).loadT iT.size.1
 have h4':tm[4]?.getD undef=.pointer (some ⟨w.heap.size+1+1,0,none⟩):=by simpa using h4
 have h5':tm[5]?.getD undef=.pointer (some ⟨w.heap.size+1+1+1,0,none⟩):=by simpa using h5
 have h6':tm[6]?.getD undef=J E:=by simpa using h6
 refine bodyPost_ret (v:=.tuple #[.agg c2,.agg c3,J E]) (by simp[results,Tryz.results18,h4',h5',h6',asAddr,l2,l3]) rfl ⟨c2,c3,by rw[hE],by rw[hR];exact iM,by rw[hR];exact iT,o.less (fun q hq=>by omega),by rw[hR];exact hO,aG (by omega) (aG (by omega) hb _) _⟩
theorem Fv5.own {V:World}{N:Nat}{R H T:Array Value}(A:Fv5 V N R H T):∀q,(q=N+1+1∨q=N+1+1+1)→Own1 V q:=by
 rintro q (rfl|rfl)
 ·exact .inl ⟨_,_,A.x2,jK _⟩
 ·exact .inr ⟨_,_,A.x3,sC _⟩
structure Sr2 (N:Nat)(R T:Array Value)(w':World):Prop where
 a:Box w' N 33 R
 b:Box w' (N+1+1+1+1) 40 T
end Go.Proofs.YthlhocneggcekaaGreat
