/-
  Laid together: MachR, MachS, CopyB, Dma1.
-/
import Derived.Test.YthlhocneggcekaaGreatD7
import Derived.Test.YthlhocneggcekaaGreatD10
namespace Go.Proofs.YthlhocneggcekaaGreat
open Go.RowKit
def sameM (a b:Mc):Bool:=decide (a.zs=b.zs)&&sameH a.h b.h&&sameBr a.b b.b
set_option maxRecDepth 10000 in
set_option maxHeartbeats 4000000 in
theorem wI (v:Value)(zs:List Int)(p:Int)(u:Value)(r:List Int)(d:Bool)(mo ba op oh ot fe fp fh ft:Int)(st lo:Bool)(vc:Value)(l:List Ln)(w:World)(hs:Sl w v zs)(hr:Sl w u r)(h:Ls w vc l):
  Calls Tryz.prog 12 #[.agg (rM v p u d mo ba vc op oh ot st fe fp fh ft lo)] w fun e w'=>e=.returned (J (chkM ⟨zs,⟨p,r,d⟩,⟨mo,ba,l,op,oh,ot,st,fe,fp,fh,ft,lo⟩⟩))∧Below w.heap.size w w':=by
 have HM:Hid (Sl w v zs):=hs
 have HR:Hid (Sl w u r):=hr
 have HL:Hid (Ls w vc l):=h
 obtain⟨a1,n1,c1,rfl⟩:∃a k c,v=.slice a k c:=let ⟨a,c,e,_⟩:=hs;⟨a,_,c,e⟩
 obtain⟨a2,n2,c2,rfl⟩:∃a k c,u=.slice a k c:=let ⟨a,c,e,_⟩:=hr;⟨a,_,c,e⟩
 obtain⟨ca,cc,rfl,-⟩:=h.shape
 obtain⟨ck,hck⟩:∃ck,ck=l.length:=⟨_,rfl⟩
 rw[←hck] at HL ⊢
 clear hs hr h hck
 have HT:Hid (chkM ⟨zs,⟨p,r,d⟩,⟨mo,ba,l,op,oh,ot,st,fe,fp,fh,ft,lo⟩⟩=if chk zs=0 then (if chkH ⟨p,r,d⟩=0 then chkB ⟨mo,ba,l,op,oh,ot,st,fe,fp,fh,ft,lo⟩ else chkH ⟨p,r,d⟩) else chk zs):=rfl
 have X0:=Box.newAt (w:=w) (n:=w.heap.size) rfl 33 (rM (.slice a1 n1 c1) p (.slice a2 n2 c2) d mo ba (.slice ca ck cc) op oh ot st fe fp fh ft lo)
 have BW:Hid (Below w.heap.size w _):=aA (Below.refl w.heap.size w) (.cells (rM (.slice a1 n1 c1) p (.slice a2 n2 c2) d mo ba (.slice ca ck cc) op oh ot st fe fp fh ft lo) 33)
 go_enter Tryz.func12,Tryz.ntmps12
 go_upto_region 1 with fail
 generalize (w.alloc (.cells (rM (.slice a1 n1 c1) p (.slice a2 n2 c2) d mo ba (.slice ca ck cc) op oh ot st fe fp fh ft lo) 33))=W at *
 obtain⟨⟨q0,q1,q2,q3⟩,⟨g0,g1,g2,g3,g4,g5,g6,g7,g8,g9,g10,g11⟩,s0⟩:=X0.sixteen
 go_wp2_with fail
 refine (iQ _ zs _ (HM.out.keep BW.out)).mono ?_
 rintro e w1 ⟨rfl,k1⟩
 have X0:=X0.keep k1
 have B1:Hid (Below w.heap.size w w1):=aB BW.out k1
 clear k1 BW
 clear q0 q1 q2 q3 g0 g1 g2 g3 g4 g5 g6 g7 g8 g9 g10 g11 s0
 obtain⟨⟨q0,q1,q2,q3⟩,⟨g0,g1,g2,g3,g4,g5,g6,g7,g8,g9,g10,g11⟩,s0⟩:=X0.sixteen
 obtain⟨z1,hz1⟩:∃z1,chk zs=z1:=⟨_,rfl⟩
 rw[hz1] at HT ⊢
 clear hz1
 by_cases e1:z1=0
 rotate_left
 ·have q:(z1==0)=false:=by simpa using e1
  have HF:Hid (chkM ⟨zs,⟨p,r,d⟩,⟨mo,ba,l,op,oh,ot,st,fe,fp,fh,ft,lo⟩⟩=z1):=by show _=_;rw[HT.out,if_neg e1]
  clear e1 HT
  go_wp2_with fail
  go_ret
  exact⟨aM HF.out.symm,B1.out⟩
 subst e1
 rw[if_pos rfl] at HT
 go_wp2_with fail
 refine (mS p _ r d _ (HR.out.keep B1.out)).mono ?_
 rintro e w2 ⟨rfl,k2⟩
 have X0:=X0.keep k2
 have B2:Hid (Below w.heap.size w w2):=aB B1.out k2
 clear k2 B1
 clear q0 q1 q2 q3 g0 g1 g2 g3 g4 g5 g6 g7 g8 g9 g10 g11 s0
 obtain⟨⟨q0,q1,q2,q3⟩,⟨g0,g1,g2,g3,g4,g5,g6,g7,g8,g9,g10,g11⟩,s0⟩:=X0.sixteen
 obtain⟨z2,hz2⟩:∃z2,chkH ⟨p,r,d⟩=z2:=⟨_,rfl⟩
 rw[hz2] at HT ⊢
 clear hz2
 by_cases e2:z2=0
 rotate_left
 ·have q:(z2==0)=false:=by simpa using e2
  have HF:Hid (chkM ⟨zs,⟨p,r,d⟩,⟨mo,ba,l,op,oh,ot,st,fe,fp,fh,ft,lo⟩⟩=z2):=by show _=_;rw[HT.out,if_neg e2]
  clear e2 HT
  go_wp2_with fail
  go_ret
  exact⟨aM HF.out.symm,B2.out⟩
 subst e2
 rw[if_pos rfl] at HT
 go_wp2_with fail
 refine (kR mo ba op oh ot fe fp fh ft st lo _ l _ (HL.out.keep B2.out)).mono ?_
 rintro e w3 ⟨rfl,k3⟩
 rw[←HT.out]
 go_wp2_with fail
 go_ret
 exact⟨rfl,aB B2.out k3⟩
set_option maxRecDepth 10000 in
set_option maxHeartbeats 4000000 in
theorem yE (v:Value)(zs:List Int)(p:Int)(u:Value)(r:List Int)(d:Bool)(mo ba op oh ot fe fp fh ft:Int)(st lo:Bool)(vc:Value)(l:List Ln)(v1:Value)(zs1:List Int)(p1:Int)(u1:Value)(r1:List Int)(d1:Bool)(mo1 ba1 op1 oh1 ot1 fe1 fp1 fh1 ft1:Int)(st1 lo1:Bool)(vc1:Value)(l1:List Ln)(w:World)(hs:Sl w v zs)(hr:Sl w u r)(h:Ls w vc l)(hs1:Sl w v1 zs1)(hr1:Sl w u1 r1)(h1:Ls w vc1 l1):
  Calls Tryz.prog 16 #[.agg (rM v p u d mo ba vc op oh ot st fe fp fh ft lo),.agg (rM v1 p1 u1 d1 mo1 ba1 vc1 op1 oh1 ot1 st1 fe1 fp1 fh1 ft1 lo1)] w fun e w'=>e=.returned (.bool (sameM ⟨zs,⟨p,r,d⟩,⟨mo,ba,l,op,oh,ot,st,fe,fp,fh,ft,lo⟩⟩ ⟨zs1,⟨p1,r1,d1⟩,⟨mo1,ba1,l1,op1,oh1,ot1,st1,fe1,fp1,fh1,ft1,lo1⟩⟩))∧Below w.heap.size w w':=by
 have HM:Hid (Sl w v zs):=hs
 have HR:Hid (Sl w u r):=hr
 have HL:Hid (Ls w vc l):=h
 have HM1:Hid (Sl w v1 zs1):=hs1
 have HR1:Hid (Sl w u1 r1):=hr1
 have HL1:Hid (Ls w vc1 l1):=h1
 obtain⟨a1,n1,c1,rfl⟩:∃a k c,v=.slice a k c:=let ⟨a,c,e,_⟩:=hs;⟨a,_,c,e⟩
 obtain⟨a2,n2,c2,rfl⟩:∃a k c,u=.slice a k c:=let ⟨a,c,e,_⟩:=hr;⟨a,_,c,e⟩
 obtain⟨ca,cc,rfl,-⟩:=h.shape
 obtain⟨a3,n3,c3,rfl⟩:∃a k c,v1=.slice a k c:=let ⟨a,c,e,_⟩:=hs1;⟨a,_,c,e⟩
 obtain⟨a4,n4,c4,rfl⟩:∃a k c,u1=.slice a k c:=let ⟨a,c,e,_⟩:=hr1;⟨a,_,c,e⟩
 obtain⟨cb,cd,rfl,-⟩:=h1.shape
 obtain⟨ck,hck⟩:∃ck,ck=l.length:=⟨_,rfl⟩
 obtain⟨cj,hcj⟩:∃cj,cj=l1.length:=⟨_,rfl⟩
 rw[←hck] at HL ⊢
 rw[←hcj] at HL1 ⊢
 clear hs hr h hs1 hr1 h1 hck hcj
 obtain⟨t1,ht1⟩:∃t1,decide (zs=zs1)=t1:=⟨_,rfl⟩
 obtain⟨t2,ht2⟩:∃t2,sameH ⟨p,r,d⟩ ⟨p1,r1,d1⟩=t2:=⟨_,rfl⟩
 obtain⟨t3,ht3⟩:∃t3,sameBr ⟨mo,ba,l,op,oh,ot,st,fe,fp,fh,ft,lo⟩ ⟨mo1,ba1,l1,op1,oh1,ot1,st1,fe1,fp1,fh1,ft1,lo1⟩=t3:=⟨_,rfl⟩
 have H1:Hid (decide (zs=zs1)=t1):=ht1
 have H2:Hid (sameH ⟨p,r,d⟩ ⟨p1,r1,d1⟩=t2):=ht2
 have H3:Hid (sameBr ⟨mo,ba,l,op,oh,ot,st,fe,fp,fh,ft,lo⟩ ⟨mo1,ba1,l1,op1,oh1,ot1,st1,fe1,fp1,fh1,ft1,lo1⟩=t3):=ht3
 have HT:Hid (sameM ⟨zs,⟨p,r,d⟩,⟨mo,ba,l,op,oh,ot,st,fe,fp,fh,ft,lo⟩⟩ ⟨zs1,⟨p1,r1,d1⟩,⟨mo1,ba1,l1,op1,oh1,ot1,st1,fe1,fp1,fh1,ft1,lo1⟩⟩=(t1&&t2&&t3)):=by show (decide (zs=zs1)&&sameH _ _&&sameBr _ _)=_;rw[ht1,ht2,ht3]
 clear ht1 ht2 ht3
 have X0:=(Box.newAt (w:=w) (n:=w.heap.size) rfl 33 (rM (.slice a1 n1 c1) p (.slice a2 n2 c2) d mo ba (.slice ca ck cc) op oh ot st fe fp fh ft lo)).past (.cells (rM (.slice a3 n3 c3) p1 (.slice a4 n4 c4) d1 mo1 ba1 (.slice cb cj cd) op1 oh1 ot1 st1 fe1 fp1 fh1 ft1 lo1) 33)
 have X1:=Box.newAt (w:=w.alloc (.cells (rM (.slice a1 n1 c1) p (.slice a2 n2 c2) d mo ba (.slice ca ck cc) op oh ot st fe fp fh ft lo) 33)) (n:=w.heap.size+1) (by simp) 33 (rM (.slice a3 n3 c3) p1 (.slice a4 n4 c4) d1 mo1 ba1 (.slice cb cj cd) op1 oh1 ot1 st1 fe1 fp1 fh1 ft1 lo1)
 have BW:Hid (Below w.heap.size w _):=aA (aA (Below.refl w.heap.size w) (.cells (rM (.slice a1 n1 c1) p (.slice a2 n2 c2) d mo ba (.slice ca ck cc) op oh ot st fe fp fh ft lo) 33)) (.cells (rM (.slice a3 n3 c3) p1 (.slice a4 n4 c4) d1 mo1 ba1 (.slice cb cj cd) op1 oh1 ot1 st1 fe1 fp1 fh1 ft1 lo1) 33)
 go_enter Tryz.func16,Tryz.ntmps16
 go_upto_region 1 with fail
 generalize ((w.alloc (.cells (rM (.slice a1 n1 c1) p (.slice a2 n2 c2) d mo ba (.slice ca ck cc) op oh ot st fe fp fh ft lo) 33)).alloc (.cells (rM (.slice a3 n3 c3) p1 (.slice a4 n4 c4) d1 mo1 ba1 (.slice cb cj cd) op1 oh1 ot1 st1 fe1 fp1 fh1 ft1 lo1) 33))=W at *
 obtain⟨⟨q0,q1,q2,q3⟩,⟨g0,g1,g2,g3,g4,g5,g6,g7,g8,g9,g10,g11⟩,s0⟩:=X0.sixteen
 obtain⟨⟨y0,y1,y2,y3⟩,⟨j0,j1,j2,j3,j4,j5,j6,j7,j8,j9,j10,j11⟩,s1⟩:=X1.sixteen
 go_wp2_with fail
 refine (fH _ _ zs zs1 _ (HM.out.keep BW.out) (HM1.out.keep BW.out)).mono ?_
 rintro e w1 ⟨rfl,nz,rfl⟩
 rw[H1.out]
 have X0:=X0.drewN nz
 have X1:=X1.drewN nz
 have B1:Hid (Below w.heap.size w (W.drewN nz)):=aH BW.out _
 clear q0 q1 q2 q3 g0 g1 g2 g3 g4 g5 g6 g7 g8 g9 g10 g11 s0
 clear y0 y1 y2 y3 j0 j1 j2 j3 j4 j5 j6 j7 j8 j9 j10 j11 s1 BW
 generalize W.drewN nz=W1 at *
 obtain⟨⟨q0,q1,q2,q3⟩,⟨g0,g1,g2,g3,g4,g5,g6,g7,g8,g9,g10,g11⟩,s0⟩:=X0.sixteen
 obtain⟨⟨y0,y1,y2,y3⟩,⟨j0,j1,j2,j3,j4,j5,j6,j7,j8,j9,j10,j11⟩,s1⟩:=X1.sixteen
 cases t1
 ·go_wp2_with fail
  go_ret
  exact⟨aL (by rw[HT.out];rfl),B1.out⟩
 go_wp2_with fail
 refine (pG p _ r d p1 _ r1 d1 _ (HR.out.keep B1.out) (HR1.out.keep B1.out)).mono ?_
 rintro e w2 ⟨rfl,k2⟩
 rw[H2.out]
 have X0:=X0.keep k2
 have X1:=X1.keep k2
 have B2:Hid (Below w.heap.size w w2):=aB B1.out k2
 clear q0 q1 q2 q3 g0 g1 g2 g3 g4 g5 g6 g7 g8 g9 g10 g11 s0
 clear y0 y1 y2 y3 j0 j1 j2 j3 j4 j5 j6 j7 j8 j9 j10 j11 s1 B1 k2
 obtain⟨⟨q0,q1,q2,q3⟩,⟨g0,g1,g2,g3,g4,g5,g6,g7,g8,g9,g10,g11⟩,s0⟩:=X0.sixteen
 obtain⟨⟨y0,y1,y2,y3⟩,⟨j0,j1,j2,j3,j4,j5,j6,j7,j8,j9,j10,j11⟩,s1⟩:=X1.sixteen
 cases t2
 ·go_wp2_with fail
  go_ret
  exact⟨aL (by rw[HT.out];rfl),B2.out⟩
 go_wp2_with fail
 refine (mC mo ba op oh ot fe fp fh ft st lo _ l mo1 ba1 op1 oh1 ot1 fe1 fp1 fh1 ft1 st1 lo1 _ l1 _ (HL.out.keep B2.out) (HL1.out.keep B2.out)).mono ?_
 rintro e w3 ⟨rfl,k3⟩
 rw[H3.out]
 go_wp2_with fail
 go_ret
 exact⟨aL (by rw[HT.out];simp),aB B2.out k3⟩
theorem Box.seven {w:World}{n:Nat}{t:TypeId}{a0 a1 a2 a3 a4 a5 a6:Value}(h:Box w n t #[a0,a1,a2,a3,a4,a5,a6]):
  (w.cell? ⟨n,0,none⟩=some a0∧w.cell? ⟨n,1,none⟩=some a1∧w.cell? ⟨n,2,none⟩=some a2∧w.cell? ⟨n,3,none⟩=some a3∧w.cell? ⟨n,4,none⟩=some a4∧w.cell? ⟨n,5,none⟩=some a5∧w.cell? ⟨n,6,none⟩=some a6)∧n<w.heap.size:=
 ⟨⟨h.cell 0,h.cell 1,h.cell 2,h.cell 3,h.cell 4,h.cell 5,h.cell 6⟩,h.lt⟩
theorem Box.marksOf {w:World}{n:Nat}{t:TypeId}{cs:Array Value}(h:Box w n t cs):∀i,w.frozen? ⟨n,i,none⟩=false:=fun i=>h.frozen i
theorem aX {a w:World}{n:Nat}(hp:a.heap.size≤n)(h:Below a.heap.size a w)(u0 u1 u2 u3 u4 u5 u6 u7 u8 u9 u10 u11 u12 u13 u14 u15:Value):
  Below a.heap.size a ((((((((((((((((w.setCell ⟨n,0,none⟩ u0).setCell ⟨n,1,none⟩ u1).setCell ⟨n,2,none⟩ u2).setCell ⟨n,3,none⟩ u3).setCell ⟨n,4,none⟩ u4).setCell ⟨n,5,none⟩ u5).setCell ⟨n,6,none⟩ u6).setCell ⟨n,7,none⟩ u7).setCell ⟨n,8,none⟩ u8).setCell ⟨n,9,none⟩ u9).setCell ⟨n,10,none⟩ u10).setCell ⟨n,11,none⟩ u11).setCell ⟨n,12,none⟩ u12).setCell ⟨n,13,none⟩ u13).setCell ⟨n,14,none⟩ u14).setCell ⟨n,15,none⟩ u15):=((((((((((((((((h.setCell (p:=⟨n,0,none⟩) hp u0).setCell (p:=⟨n,1,none⟩) hp u1).setCell (p:=⟨n,2,none⟩) hp u2).setCell (p:=⟨n,3,none⟩) hp u3).setCell (p:=⟨n,4,none⟩) hp u4).setCell (p:=⟨n,5,none⟩) hp u5).setCell (p:=⟨n,6,none⟩) hp u6).setCell (p:=⟨n,7,none⟩) hp u7).setCell (p:=⟨n,8,none⟩) hp u8).setCell (p:=⟨n,9,none⟩) hp u9).setCell (p:=⟨n,10,none⟩) hp u10).setCell (p:=⟨n,11,none⟩) hp u11).setCell (p:=⟨n,12,none⟩) hp u12).setCell (p:=⟨n,13,none⟩) hp u13).setCell (p:=⟨n,14,none⟩) hp u14).setCell (p:=⟨n,15,none⟩) hp u15)
theorem Box.set16 {w:World}{n:Nat}{t:TypeId}{a0 a1 a2 a3 a4 a5 a6 a7 a8 a9 a10 a11 a12 a13 a14 a15:Value}(h:Box w n t #[a0,a1,a2,a3,a4,a5,a6,a7,a8,a9,a10,a11,a12,a13,a14,a15])(u0 u1 u2 u3 u4 u5 u6 u7 u8 u9 u10 u11 u12 u13 u14 u15:Value):
  Box ((((((((((((((((w.setCell ⟨n,0,none⟩ u0).setCell ⟨n,1,none⟩ u1).setCell ⟨n,2,none⟩ u2).setCell ⟨n,3,none⟩ u3).setCell ⟨n,4,none⟩ u4).setCell ⟨n,5,none⟩ u5).setCell ⟨n,6,none⟩ u6).setCell ⟨n,7,none⟩ u7).setCell ⟨n,8,none⟩ u8).setCell ⟨n,9,none⟩ u9).setCell ⟨n,10,none⟩ u10).setCell ⟨n,11,none⟩ u11).setCell ⟨n,12,none⟩ u12).setCell ⟨n,13,none⟩ u13).setCell ⟨n,14,none⟩ u14).setCell ⟨n,15,none⟩ u15) n t #[u0,u1,u2,u3,u4,u5,u6,u7,u8,u9,u10,u11,u12,u13,u14,u15]:=by
 have h0:Box _ n t #[u0,a1,a2,a3,a4,a5,a6,a7,a8,a9,a10,a11,a12,a13,a14,a15]:=h.set 0 u0
 have h1:Box _ n t #[u0,u1,a2,a3,a4,a5,a6,a7,a8,a9,a10,a11,a12,a13,a14,a15]:=h0.set 1 u1
 have h2:Box _ n t #[u0,u1,u2,a3,a4,a5,a6,a7,a8,a9,a10,a11,a12,a13,a14,a15]:=h1.set 2 u2
 have h3:Box _ n t #[u0,u1,u2,u3,a4,a5,a6,a7,a8,a9,a10,a11,a12,a13,a14,a15]:=h2.set 3 u3
 have h4:Box _ n t #[u0,u1,u2,u3,u4,a5,a6,a7,a8,a9,a10,a11,a12,a13,a14,a15]:=h3.set 4 u4
 have h5:Box _ n t #[u0,u1,u2,u3,u4,u5,a6,a7,a8,a9,a10,a11,a12,a13,a14,a15]:=h4.set 5 u5
 have h6:Box _ n t #[u0,u1,u2,u3,u4,u5,u6,a7,a8,a9,a10,a11,a12,a13,a14,a15]:=h5.set 6 u6
 have h7:Box _ n t #[u0,u1,u2,u3,u4,u5,u6,u7,a8,a9,a10,a11,a12,a13,a14,a15]:=h6.set 7 u7
 have h8:Box _ n t #[u0,u1,u2,u3,u4,u5,u6,u7,u8,a9,a10,a11,a12,a13,a14,a15]:=h7.set 8 u8
 have h9:Box _ n t #[u0,u1,u2,u3,u4,u5,u6,u7,u8,u9,a10,a11,a12,a13,a14,a15]:=h8.set 9 u9
 have h10:Box _ n t #[u0,u1,u2,u3,u4,u5,u6,u7,u8,u9,u10,a11,a12,a13,a14,a15]:=h9.set 10 u10
 have h11:Box _ n t #[u0,u1,u2,u3,u4,u5,u6,u7,u8,u9,u10,u11,a12,a13,a14,a15]:=h10.set 11 u11
 have h12:Box _ n t #[u0,u1,u2,u3,u4,u5,u6,u7,u8,u9,u10,u11,u12,a13,a14,a15]:=h11.set 12 u12
 have h13:Box _ n t #[u0,u1,u2,u3,u4,u5,u6,u7,u8,u9,u10,u11,u12,u13,a14,a15]:=h12.set 13 u13
 have h14:Box _ n t #[u0,u1,u2,u3,u4,u5,u6,u7,u8,u9,u10,u11,u12,u13,u14,a15]:=h13.set 14 u14
 have h15:Box _ n t #[u0,u1,u2,u3,u4,u5,u6,u7,u8,u9,u10,u11,u12,u13,u14,u15]:=h14.set 15 u15
 exact h15
theorem Box.setBrM {w:World}{n:Nat}{t:TypeId}{a0 a1 a2 a3 a4 a5 a6 a7 a8 a9 a10 a11 a12 a13 a14 a15:Value}(h:Box w n t #[a0,a1,a2,a3,a4,a5,a6,a7,a8,a9,a10,a11,a12,a13,a14,a15])(u4 u5 u6 u7 u8 u9 u10 u11 u12 u13 u14 u15:Value):
  Box ((((((((((((w.setCell ⟨n,4,none⟩ u4).setCell ⟨n,5,none⟩ u5).setCell ⟨n,6,none⟩ u6).setCell ⟨n,7,none⟩ u7).setCell ⟨n,8,none⟩ u8).setCell ⟨n,9,none⟩ u9).setCell ⟨n,10,none⟩ u10).setCell ⟨n,11,none⟩ u11).setCell ⟨n,12,none⟩ u12).setCell ⟨n,13,none⟩ u13).setCell ⟨n,14,none⟩ u14).setCell ⟨n,15,none⟩ u15) n t #[a0,a1,a2,a3,u4,u5,u6,u7,u8,u9,u10,u11,u12,u13,u14,u15]:=by
 have h4:Box _ n t #[a0,a1,a2,a3,u4,a5,a6,a7,a8,a9,a10,a11,a12,a13,a14,a15]:=h.set 4 u4
 have h5:Box _ n t #[a0,a1,a2,a3,u4,u5,a6,a7,a8,a9,a10,a11,a12,a13,a14,a15]:=h4.set 5 u5
 have h6:Box _ n t #[a0,a1,a2,a3,u4,u5,u6,a7,a8,a9,a10,a11,a12,a13,a14,a15]:=h5.set 6 u6
 have h7:Box _ n t #[a0,a1,a2,a3,u4,u5,u6,u7,a8,a9,a10,a11,a12,a13,a14,a15]:=h6.set 7 u7
 have h8:Box _ n t #[a0,a1,a2,a3,u4,u5,u6,u7,u8,a9,a10,a11,a12,a13,a14,a15]:=h7.set 8 u8
 have h9:Box _ n t #[a0,a1,a2,a3,u4,u5,u6,u7,u8,u9,a10,a11,a12,a13,a14,a15]:=h8.set 9 u9
 have h10:Box _ n t #[a0,a1,a2,a3,u4,u5,u6,u7,u8,u9,u10,a11,a12,a13,a14,a15]:=h9.set 10 u10
 have h11:Box _ n t #[a0,a1,a2,a3,u4,u5,u6,u7,u8,u9,u10,u11,a12,a13,a14,a15]:=h10.set 11 u11
 have h12:Box _ n t #[a0,a1,a2,a3,u4,u5,u6,u7,u8,u9,u10,u11,u12,a13,a14,a15]:=h11.set 12 u12
 have h13:Box _ n t #[a0,a1,a2,a3,u4,u5,u6,u7,u8,u9,u10,u11,u12,u13,a14,a15]:=h12.set 13 u13
 have h14:Box _ n t #[a0,a1,a2,a3,u4,u5,u6,u7,u8,u9,u10,u11,u12,u13,u14,a15]:=h13.set 14 u14
 have h15:Box _ n t #[a0,a1,a2,a3,u4,u5,u6,u7,u8,u9,u10,u11,u12,u13,u14,u15]:=h14.set 15 u15
 exact h15
theorem makeLines (w:World)(n:Nat)(hn:n≤6):∃cur:Array Value,(Instr.makeSlice 27 (J n) (J n)).run Tryz.prog w=.ok (.slice (some ⟨w.heap.size,0,none⟩) n n) (w.alloc (.cells cur 52))∧cur.size=n*5:=by
 obtain⟨i,hi,hz,hs,hb⟩:=infoLine
 have h:=run_make (P:=Tryz.prog) w 27 52 i _ Tryz.underlying27 hi hz .i64 .i64 n n (by omega) (by omega) (by rw[hb];omega) (by omega)
 rw[hs] at h
 simp only[Int.toNat_natCast] at h
 exact⟨_,h,size_madeCells _ _⟩
theorem copyLines (w:World)(ty:TypeId)(v:Value)(g:Nat)(l:List Ln)(cur:Array Value)(hg:w.heap[g]?=some (.cells cur 52 (0,0)))(hcur:cur.size=l.length*5)(hl:Ls w v l):
  ∃w3,(Builtin.copy_ #[27,27] ty #[.slice (some ⟨g,0,none⟩) l.length l.length,v]).run Tryz.prog w=.ok (J l.length) w3∧w3.heap[g]?=some (.cells (l.flatMap cellsL).toArray 52 (0,0))∧
   (∀k,k≠g→w3.heap[k]?=w.heap[k]?)∧w3.heap.size=w.heap.size∧Below g w w3:=by
 obtain⟨i,hi,hz,hs,hb⟩:=infoLine
 obtain⟨a,cap,rfl,hlc,hm,h⟩:=hl
 have hl5:=lN l
 have hst:=run_storeCells_at Tryz.prog g 0 52 (l.flatMap cellsL) 0 cur w hg (by rw[hl5,hcur];omega) (qG l)
 have hd:List.drop (0+0+(l.flatMap cellsL).length) cur.toList=[]:=List.drop_of_length_le (by simp only[Array.length_toList,hcur,hl5];omega)
 rw[hd,Nat.add_zero,List.take_zero,List.nil_append,List.append_nil] at hst
 refine⟨_,?_,setRow_heap w g cur _ _ _ hg,fun k hk=>setRow_other w g k _ hk,by simp[World.setRow],⟨rfl,rfl,rfl,by simp[World.setRow],fun k hk=>setRow_other w g k _ (by omega)⟩⟩
 rcases h with rfl|⟨b,o,rfl,hlt,hc⟩
 ·have hst':(storeCells ⟨g,0,none⟩ [] 0).run Tryz.prog w=.ok () (w.setRow g ([]:List Value).toArray):=hst
  cases a <;>
   simp[Builtin.copy_,run_underlying Tryz.underlying27,Builtin.lenOf,Builtin.firstCells,sizeOf,typeInfo,hi,loadCells,loadCellsFrom,hst',goInt]
 ·have hld:=run_loadCells_list (P:=Tryz.prog) w ⟨b,o,none⟩ (l.flatMap cellsL) (fun j u hu=>by
   obtain⟨i',r,h1,h2,rfl,h4⟩:=uS hu
   rw[kW,←Nat.add_assoc]
   exact qH (hc i' h1) h2 h4)
  rw[hl5] at hld
  simp[Builtin.copy_,run_underlying Tryz.underlying27,Builtin.lenOf,Builtin.firstCells,sizeOf,typeInfo,hi,hs,hld,hst,goInt]
theorem jC {w:World}{g:Nat}{l:List Ln}(hg:w.heap[g]?=some (.cells (l.flatMap cellsL).toArray 52 (0,0)))(hn:l.length≤6):Ls w (.slice (some ⟨g,0,none⟩) l.length l.length) l:=by
 refine⟨_,l.length,rfl,Nat.le_refl _,by unfold maxLen;omega,.inr ⟨g,0,rfl,(Box.lt hg),fun i hi=>?_⟩⟩
 have hc:∀r,r<5→w.cell? ⟨g,0+i*5+r,none⟩=(cellsL (lth l i))[r]?:=fun r hr=>by
  rw[Nat.zero_add,cell_of_row w g _ _ _ _ hg,List.getElem?_toArray,oP l i r hi hr]
 exact⟨hc 0 (by omega),hc 1 (by omega),hc 2 (by omega),hc 3 (by omega),hc 4 (by omega)⟩
set_option maxHeartbeats 2000000 in
theorem iA (v:Value)(zs:List Int)(w:World)(h:Sl w v zs)(hn:zs.length=512):
  Calls Tryz.prog 135 #[.agg #[v]] w fun e w'=>∃g,e=.returned (.agg #[.slice (some ⟨g,0,none⟩) 512 512])∧Sl w' (.slice (some ⟨g,0,none⟩) 512 512) zs∧w.heap.size≤g∧Below w.heap.size w w':=by
 obtain⟨b,o,cap,rfl,hb,hc⟩:=h.open512 hn
 have HC:Hid (∀i,i<512→w.cell? ⟨b,o+i,none⟩=some (J (nth zs i))):=hc
 have HN:Hid (zs.length=512):=hn
 clear hc hn h
 go_enter Tryz.func135,Tryz.ntmps135
 go_wp2_with fail
 refine (iR _).mono ?_
 rintro e w2 ⟨g,rfl,hg2,hge,hb2⟩
 have X0:=((Box.newAt (n:=w.heap.size) rfl 24 #[.slice (some ⟨b,o,none⟩) 512 cap]).past _).keep hb2
 have X1:=(Box.newAt (n:=w.heap.size+1) (by simp) 24 #[.slice none 0 0]).keep hb2
 have HB2:Hid (Below w.heap.size w w2):=aB (aA (aA (Below.refl _ _) _) _) hb2
 have hgL:w.heap.size+1+1≤g:=by simpa using hge
 have hs2:=hb2.size
 clear hb2 hge
 obtain⟨hglt,_⟩:=Array.getElem?_eq_some_iff.1 hg2
 obtain⟨w3,hrun,hg3,ho3,hs3,hb3⟩:=eK (w2.alloc (.cells #[.slice (some ⟨g,0,none⟩) 512 512] 24)) b o cap g zs zeroCells HN.out (bN hglt hg2) (by simp[zeroCells,size_madeCells]) (fun i hi=>by
  rw[World.cell?_alloc_past _ _ _ (by omega),HB2.out.cell (p:=⟨b,o+i,none⟩) hb];exact HC.out i hi)
 have X2:Box w3 w2.heap.size 24 #[.slice (some ⟨g,0,none⟩) 512 512]:=by
  unfold Box;rw[ho3 _ (by omega)];exact Box.newAt rfl _ _
 have Y1:Box w3 (w.heap.size+1) 24 #[.slice none 0 0]:=by
  unfold Box;rw[ho3 _ (by omega)];exact X1.past _
 obtain⟨q0,-,s0⟩:=X0.one
 obtain⟨q2,-,s2⟩:=X2.one
 obtain⟨q1,y1,s1⟩:=Y1.one
 have HG3:Hid _:=hg3
 have HB3:Hid (Below w.heap.size w w3):=(aA HB2.out _).trans (hb3.mono (by omega))
 clear ho3 hb3 hg3 hg2 hs2
 go_wp2_with fail
 refine bodyPost_ret (v:=.agg #[.slice (some ⟨g,0,none⟩) 512 512]) (by simp[results,Tryz.results135,go_sem, *]) rfl ⟨_,rfl,?_,by omega,?_⟩
 ·refine bG (cs:=intCells zs) (t:=3) (fr:=(0,0)) ?_ (bX _) HN.out.symm (by rw[HN.out];simp[maxLen])
  exact Box.other (p:=⟨w.heap.size+1,0,none⟩) HG3.out (by dsimp only;omega) _
 ·exact cW (by omega) HB3.out _
theorem kI (z:Int)(w:World):Calls Tryz.prog 162 #[J z] w fun e w'=>e=.returned (.bool (wordB z))∧w'=w:=by
 by_cases h1:0≤z
 ·by_cases h2:z≤65535
  ·have:wordB z=true:=by simp[wordB,h1,h2]
   rw[this]
   go_enter Tryz.func162,Tryz.ntmps162
   go_wp2
   go_ret
   exact⟨rfl,rfl⟩
  ·have:wordB z=false:=by simp[wordB,h2]
   rw[this]
   go_enter Tryz.func162,Tryz.ntmps162
   go_wp2
   go_ret
   exact⟨rfl,rfl⟩
 ·have:wordB z=false:=by simp[wordB,h1]
  rw[this]
  go_enter Tryz.func162,Tryz.ntmps162
  go_wp2
  go_ret
  exact⟨rfl,rfl⟩
theorem jD (a n:Int)(w:World)(hn:1≤n∧n≤20):Calls Tryz.prog 160 #[J a,J n] w fun e w'=>e=.returned (.bool (hasW a n))∧w'=w:=by
 obtain⟨n1,n2⟩:=hn
 by_cases h1:0≤a
 ·by_cases h2:a≤512-n
  ·have:hasW a n=true:=by simp[hasW,h1,h2]
   rw[this]
   go_enter Tryz.func160,Tryz.ntmps160
   go_wp2
   go_ret
   exact⟨rfl,rfl⟩
  ·have:hasW a n=false:=by simp[hasW,h2]
   rw[this]
   go_enter Tryz.func160,Tryz.ntmps160
   go_wp2
   go_ret
   exact⟨rfl,rfl⟩
 ·have:hasW a n=false:=by simp[hasW,h1]
  rw[this]
  go_enter Tryz.func160,Tryz.ntmps160
  go_wp2
  go_ret
  exact⟨rfl,rfl⟩
theorem pH (x:Nat)(w:World)(hx:x<1000):Calls Tryz.prog 106 #[J x] w fun e w'=>e=.returned (J ((x/8+1)*8:Nat))∧w'=w:=by
 have h0:(0:Int)≤x:=by omega
 have h1:(x:Int)<1000:=by omega
 go_enter Tryz.func106,Tryz.ntmps106
 go_wp2
 go_ret
 exact⟨aM (by omega),rfl⟩
theorem tK (d a n:Int)(x:Bool)(da:Option Addr)(dn dc:Nat)(w:World):Calls Tryz.prog 161 #[.agg #[J d,J a,J n,.bool x,.slice da dn dc]] w fun e w'=>e=.returned (J (needA x n))∧w'=w.alloc (.cells #[J d,J a,J n,.bool x,.slice da dn dc] 35):=by
 cases x
 all_goals
  go_enter Tryz.func161,Tryz.ntmps161
  go_wp2
  go_ret
  exact⟨rfl,rfl⟩
theorem qY {d a n:Int}{x:Bool}{ds:List Int}(h:¬(1≤n∧n≤20)):ckA d a n x ds=1:=if_neg h
theorem vA {d a n:Int}{x:Bool}{ds:List Int}(h:1≤n∧n≤20)(h2:¬((0≤d∧d≤7)∧hasW a n=true)):ckA d a n x ds=4:=by rw[ckA,if_pos h,if_neg h2]
theorem qZ {d a n:Int}{x:Bool}{ds:List Int}(h:1≤n∧n≤20)(h2:(0≤d∧d≤7)∧hasW a n=true)(h3:¬(ds.length:Int)=needA x n):ckA d a n x ds=3:=by rw[ckA,if_pos h,if_pos h2,if_neg h3]
theorem rA {d a n:Int}{x:Bool}{ds:List Int}(h:1≤n∧n≤20)(h2:(0≤d∧d≤7)∧hasW a n=true)(h3:(ds.length:Int)=needA x n):ckA d a n x ds=if ds.all wordB=true then 0 else 2:=by rw[ckA,if_pos h,if_pos h2,if_pos h3]
theorem vB {ds:List Int}{k:Nat}(hk:k<ds.length)(h:wordB (nth ds k)=false):¬ds.all wordB=true:=fun e=>by
 rw[iY e hk] at h;exact absurd h (by decide)
theorem vD {ds:List Int}(h:∀k,k<ds.length→wordB (nth ds k)=true):ds.all wordB=true:=by
 rw[List.all_eq_true]
 intro z hz
 obtain⟨i,hi,rfl⟩:=List.mem_iff_getElem.1 hz
 have:=h i hi
 rwa [nth,List.getD_eq_getElem?_getD,List.getElem?_eq_getElem hi] at this
theorem rC {x:Bool}{n:Int}(h:1≤n∧n≤20):0≤needA x n∧needA x n≤20:=by unfold needA;split <;> omega
set_option maxHeartbeats 2000000 in
theorem tL (d a n:Int)(x:Bool)(v:Value)(ds:List Int)(w:World)(h:Sl w v ds):
  Calls Tryz.prog 134 #[.agg #[J d,J a,J n,.bool x,v]] w fun e w'=>e=.returned (J (ckA d a n x ds))∧Below w.heap.size w w':=by
 have HD:Hid (Sl w v ds):=h
 obtain⟨da,dc,rfl,hl,h⟩:=h
 unfold maxLen at hl
 have HH:Hid _:=h
 clear h
 by_cases hn:1≤n∧n≤20
 rotate_left
 ·have HE:Hid (ckA d a n x ds=1):=qY hn
  by_cases h1:n<1
  ·go_enter Tryz.func134,Tryz.ntmps134
   go_wp2
   go_ret
   exact⟨aM HE.out.symm,aA (Below.refl _ _) _⟩
  ·have h2:20<n:=by omega
   go_enter Tryz.func134,Tryz.ntmps134
   go_wp2
   go_ret
   exact⟨aM HE.out.symm,aA (Below.refl _ _) _⟩
 have HN:Hid (1≤n∧n≤20):=hn
 have n1:¬n<1:=by omega
 have n2:¬20<n:=by omega
 clear hn
 by_cases hw:(0≤d∧d≤7)∧hasW a n=true
 rotate_left
 ·have HE:Hid (ckA d a n x ds=4):=vA HN.out hw
  by_cases h1:d<0
  ·clear hw
   go_enter Tryz.func134,Tryz.ntmps134
   go_wp2
   go_ret
   exact⟨aM HE.out.symm,aA (Below.refl _ _) _⟩
  by_cases h2:8≤d
  ·clear hw
   go_enter Tryz.func134,Tryz.ntmps134
   go_wp2
   go_ret
   exact⟨aM HE.out.symm,aA (Below.refl _ _) _⟩
  have h3:hasW a n=false:=by
   cases hq:hasW a n
   ·rfl
   ·exact absurd ⟨by omega,hq⟩ hw
  clear hw
  go_enter Tryz.func134,Tryz.ntmps134
  go_wp2_with (go_at_call 160;refine (jD _ _ _ HN.out).mono ?_;rintro e w' ⟨rfl,rfl⟩)
  go_ret
  exact⟨aM HE.out.symm,aA (Below.refl _ _) _⟩
 have HW:Hid ((0≤d∧d≤7)∧hasW a n=true):=hw
 obtain⟨⟨d0,d7⟩,hwa⟩:=hw
 have d1:¬d<0:=by omega
 have d2:¬8≤d:=by omega
 clear d0 d7
 go_enter Tryz.func134,Tryz.ntmps134
 go_wp2_with (go_at_call 160;refine (jD _ _ _ HN.out).mono ?_;rintro e w' ⟨rfl,rfl⟩)
 have K:=Blk.new w #[J d,J a,J n,.bool x,.slice da ds.length dc] 35 (0,0)
 have B0:Hid (Below w.heap.size w (w.alloc (.cells #[J d,J a,J n,.bool x,.slice da ds.length dc] 35))):=aA (Below.refl _ _) _
 generalize w.alloc (.cells #[J d,J a,J n,.bool x,.slice da ds.length dc] 35)=W at *
 obtain⟨c0,c1,c2,c3,c4⟩:=K.five
 have s0:=K.lt
 go_cut [34] from 29 to 34 (fun s wx=>s=.bool ((ds.length:Int) !=needA x n)∧Below W.heap.size W wx)
 case first=>
  go_region_held3 (fun w'=>w'.cell? ⟨w.heap.size,0,none⟩=some (J d)∧w'.cell? ⟨w.heap.size,1,none⟩=some (J a)∧w'.cell? ⟨w.heap.size,2,none⟩=some (J n)∧w'.cell? ⟨w.heap.size,3,none⟩=some (.bool x)∧w'.cell? ⟨w.heap.size,4,none⟩=some (.slice da ds.length dc)∧Below W.heap.size W w')
   (with_reducible refine keep5 (by assumption) (by assumption) (by assumption) (by assumption) (by assumption) (by assumption) ?_;(repeat (first|with_reducible assumption|(with_reducible (refine limb5 (?_:_∧_∧_∧_∧_∧_);assumption))|with_reducible exact Below.refl _ _|with_reducible refine Below.drew ?_|with_reducible refine aH ?_ _|with_reducible refine aA ?_ _|with_reducible refine Below.trans ?_ (by assumption))))
   (first|(go_at_call 161;refine (tK d a n x da ds.length dc _).mono ?_;rintro e w2 ⟨rfl,rfl⟩))
  all_goals
   rename_i hH
   have hB:=limb5 hH
   clear hH
   go_wp2_with fail
   go_meet
   exact⟨rfl,hB⟩
 case rest=>
  obtain⟨rfl,bc⟩:=hcut
  have B1:Hid (Below w.heap.size w wc):=aB B0.out bc
  have K1:=K.keep bc
  clear bc B0 c0 c1 c2 c3 c4 s0 K
  by_cases hln:(ds.length:Int)=needA x n
  rotate_left
  ·have HE:Hid (ckA d a n x ds=3):=qZ HN.out HW.out hln
   have hq:((ds.length:Int) !=needA x n)=true:=by simpa using hln
   rw[hq]
   clear hln
   go_wp2
   go_ret
   exact⟨aM HE.out.symm,B1.out⟩
  have HE:Hid (ckA d a n x ds=if ds.all wordB=true then 0 else 2):=rA HN.out HW.out hln
  have hl20:ds.length≤20:=by have:=rC (x:=x) HN.out;omega
  have hq:((ds.length:Int) !=needA x n)=false:=by simpa using hln
  rw[hq]
  clear hln
  obtain⟨c0,c1,c2,c3,c4⟩:=K1.five
  have s0:=K1.lt
  have HS:Hid (Sl wc (.slice da ds.length dc) ds):=HD.out.keep B1.out
  clear HD HH
  obtain⟨a',cap',he,-,HS'⟩:=HS.out
  simp only[Value.slice.injEq] at he
  obtain⟨rfl,-,rfl⟩:=he
  have HS2:Hid _:=HS'
  clear HS' HS
  go_wp2
  go_loop [38] (fun i=>∃k:Nat,k≤ds.length∧i=J k∧∀j,j<k→wordB (nth ds j)=true) (fun i=>ds.length-(intOf i).toNat)
  case atStart=>exact⟨0,Nat.zero_le _,rfl,fun j hj=>absurd hj (Nat.not_lt_zero _)⟩
  case round=>
   obtain⟨k,hk,rfl,hpre⟩:=hrel
   have HP:Hid (∀j,j<k→wordB (nth ds j)=true):=hpre
   clear hpre
   by_cases hlt:k<ds.length
   ·have hlt1:(k:Int)<ds.length:=by omega
    rcases HS2.out with h0|⟨b,o,rfl,hb,hc⟩
    ·exact absurd hlt (by rw[h0];simp)
    have g:=hc k hlt
    have HC:Hid _:=hc
    clear hc
    by_cases hq:wordB (nth ds k)=true
    ·go_wp2_with (go_at_call 162;refine (kI _ _).mono ?_;rintro e w' ⟨rfl,rfl⟩)
     refine⟨⟨k+1,by omega,by go_num,fun j hj=>?_⟩,by simp[intOf];omega⟩
     by_cases e:j=k
     ·rw[e];exact hq
     ·exact HP.out j (by omega)
    ·have hq':wordB (nth ds k)=false:=by simpa using hq
     have HX:Hid (ckA d a n x ds=2):=by show _=_;rw[HE.out,if_neg (vB hlt hq')]
     clear hq
     go_wp2_with (go_at_call 162;refine (kI _ _).mono ?_;rintro e w' ⟨rfl,rfl⟩)
     go_ret
     exact⟨aM HX.out.symm,B1.out⟩
   ·have HX:Hid (ckA d a n x ds=0):=by show _=_;rw[HE.out,if_pos (vD fun j hj=>HP.out j (by omega))]
    have hge:¬(k:Int)<ds.length:=by omega
    go_wp2
    go_ret
    exact⟨aM HX.out.symm,B1.out⟩
set_option maxHeartbeats 2000000 in
theorem pI (v:Value)(zs:List Int)(mo ba op oh ot fe fp fh ft:Int)(st lo:Bool)(vc:Value)(l:List Ln)(d a n:Int)(x:Bool)(u:Value)(ds:List Int)(w:World)(hs:Sl w v zs)(h:Ls w vc l)(hd:Sl w u ds):
  Calls Tryz.prog 104 #[.agg #[v],.agg (rB mo ba vc op oh ot st fe fp fh ft lo),.agg #[J d,J a,J n,.bool x,u]] w fun e w'=>e=.returned (J (doE zs ⟨mo,ba,l,op,oh,ot,st,fe,fp,fh,ft,lo⟩ d a n x ds))∧Below w.heap.size w w':=by
 have HS:Hid (Ls w vc l):=h
 obtain⟨va,vk,rfl,-⟩:=h.shape
 have HM:Hid (Sl w v zs):=hs
 obtain⟨ma,mc,rfl⟩:=hs.shape
 have HD:Hid (Sl w u ds):=hd
 obtain⟨da,dc,rfl⟩:=hd.shape
 clear h hs hd
 go_enter Tryz.func104,Tryz.ntmps104
 go_wp2_with fail
 have B0:Hid (Below w.heap.size w _):=aA (aA (aA (Below.refl w.heap.size w) (.cells #[.slice ma zs.length mc] 24)) (.cells (rB mo ba (.slice va l.length vk) op oh ot st fe fp fh ft lo) 31)) (.cells #[J d,J a,J n,.bool x,.slice da ds.length dc] 35)
 refine (cE _ zs _ (HM.out.keep B0.out)).mono ?_
 rintro e w1 ⟨rfl,b1⟩
 have X1:=((Box.newAt (n:=w.heap.size+1) (by simp) 31 (rB mo ba (.slice va l.length vk) op oh ot st fe fp fh ft lo)).past _).keep b1
 have X2:=(Box.newAt (n:=w.heap.size+1+1) (by simp) 35 #[J d,J a,J n,.bool x,.slice da ds.length dc]).keep b1
 have B1:Hid (Below w.heap.size w w1):=aB B0.out b1
 clear b1 B0
 by_cases hz:chk zs=0
 rotate_left
 ·have HE:Hid (doE zs ⟨mo,ba,l,op,oh,ot,st,fe,fp,fh,ft,lo⟩ d a n x ds=chk zs):=by
   have hb:bothB zs ⟨mo,ba,l,op,oh,ot,st,fe,fp,fh,ft,lo⟩=chk zs:=if_neg hz
   show _=_
   rw[doE,hb,if_neg hz]
  have hq:(chk zs !=0)=true:=by simpa using hz
  go_wp2
  go_ret
  exact⟨aM HE.out.symm,B1.out⟩
 rw[hz]
 obtain⟨⟨q0,q1,q2,q3,q4,q5,q6,q7,q8,q9,q10,q11⟩,s1⟩:=X1.twelve
 go_wp2_with fail
 refine (cV _ _ _ _ _ _ _ _ _ _ _ _ l _ (HS.out.keep B1.out)).mono ?_
 rintro e w2 ⟨rfl,b2⟩
 have X2:=X2.keep b2
 have B2:Hid (Below w.heap.size w w2):=aB B1.out b2
 clear b2 B1 q0 q1 q2 q3 q4 q5 q6 q7 q8 q9 q10 q11 s1 X1
 have hbo:bothB zs ⟨mo,ba,l,op,oh,ot,st,fe,fp,fh,ft,lo⟩=chkB ⟨mo,ba,l,op,oh,ot,st,fe,fp,fh,ft,lo⟩:=if_pos hz
 by_cases hb:chkB ⟨mo,ba,l,op,oh,ot,st,fe,fp,fh,ft,lo⟩=0
 rotate_left
 ·have HE:Hid (doE zs ⟨mo,ba,l,op,oh,ot,st,fe,fp,fh,ft,lo⟩ d a n x ds=chkB ⟨mo,ba,l,op,oh,ot,st,fe,fp,fh,ft,lo⟩):=by show _=_;rw[doE,hbo,if_neg hb]
  have hq:(chkB ⟨mo,ba,l,op,oh,ot,st,fe,fp,fh,ft,lo⟩ !=0)=true:=by simpa using hb
  clear hbo
  go_wp2
  go_ret
  exact⟨aM HE.out.symm,B2.out⟩
 have HE:Hid (doE zs ⟨mo,ba,l,op,oh,ot,st,fe,fp,fh,ft,lo⟩ d a n x ds=ckA d a n x ds):=by show _=_;rw[doE,hbo,if_pos hb]
 rw[hb]
 clear hbo
 obtain⟨c0,c1,c2,c3,c4⟩:=X2.blk.five
 have s2:=X2.lt
 go_wp2_with fail
 refine (tL d a n x _ ds _ (HD.out.keep B2.out)).mono ?_
 rintro e w3 ⟨rfl,b3⟩
 have B3:Hid (Below w.heap.size w w3):=aB B2.out b3
 clear b3 B2
 rw[←HE.out]
 go_wp2
 go_ret
 exact⟨rfl,B3.out⟩
end Go.Proofs.YthlhocneggcekaaGreat
