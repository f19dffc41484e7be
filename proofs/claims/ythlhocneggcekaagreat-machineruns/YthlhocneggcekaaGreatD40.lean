/-
  Laid together: MHap1, MHap2.
-/
import Derived.Test.YthlhocneggcekaaGreatD31
import Derived.Test.YthlhocneggcekaaGreatD39
namespace Go.Proofs.YthlhocneggcekaaGreat
open Go.RowKit
set_option maxRecDepth 10000 in
set_option maxHeartbeats 8000000 in
theorem xT (v:Value)(zs:List Int)(p:Int)(u:Value)(r:List Int)(d:Bool)(mo ba op oh ot fe fp fh ft:Int)(st lo:Bool)(vc:Value)(l:List Ln)(kd num dv a ct:Int)(wr:Bool)(y:Value)(ds:List Int)(bad:Nat→Prop)(w:World)(hs:Sl w v zs)(hr:Sl w u r)(h:Ls w vc l)(hd:Sl w y ds)(hE:chkM ⟨zs,⟨p,r,d⟩,⟨mo,ba,l,op,oh,ot,st,fe,fp,fh,ft,lo⟩⟩=0)(hN:∀q,bad q→q<w.heap.size)(f1:Off bad v)(f2:Off bad u)(f3:Off bad vc)(hk:kd=1):
  Calls Tryz.prog 35 #[.agg (rM v p u d mo ba vc op oh ot st fe fp fh ft lo),.agg #[J kd,J num,J dv,J a,J ct,.bool wr,y]] w fun e w'=>HapC bad ⟨zs,⟨p,r,d⟩,⟨mo,ba,l,op,oh,ot,st,fe,fp,fh,ft,lo⟩⟩ ⟨kd,num,dv,a,ct,wr,ds⟩ e w'∧Below w.heap.size w w':=by
 subst hk
 have HM:Hid (Sl w v zs):=hs
 have HR:Hid (Sl w u r):=hr
 have HL:Hid (Ls w vc l):=h
 have HD:Hid (Sl w y ds):=hd
 have HE:Hid (chkM _=0):=hE
 have HN:Hid (∀q,bad q→q<w.heap.size):=hN
 have F1:Hid (Off bad v):=f1
 have F2:Hid (Off bad u):=f2
 have F3:Hid (Off bad vc):=f3
 obtain⟨ma,mn,mc,rfl⟩:∃a k c,v=.slice a k c:=let ⟨a,c,e,_⟩:=hs;⟨a,_,c,e⟩
 obtain⟨ra,rn,rc,rfl⟩:∃a k c,u=.slice a k c:=let ⟨a,c,e,_⟩:=hr;⟨a,_,c,e⟩
 obtain⟨va,vn,vk,rfl⟩:∃a k c,vc=.slice a k c:=let ⟨a,c,e,_⟩:=h;⟨a,_,c,e⟩
 obtain⟨da,dn,dc,rfl⟩:∃a k c,y=.slice a k c:=let ⟨a,c,e,_⟩:=hd;⟨a,_,c,e⟩
 clear hs hr h hd hE hN f1 f2 f3
 have X0:=((((Box.newAt (w:=w) (n:=w.heap.size) rfl 33 (rM (.slice ma mn mc) p (.slice ra rn rc) d mo ba (.slice va vn vk) op oh ot st fe fp fh ft lo)).past (.cells #[J 1,J num,J dv,J a,J ct,.bool wr,.slice da dn dc] 37)).past (.cells zM 33)).past (.cells zT 40)).past (.cells zT 40)
 have X1:=(((Box.newAt (w:=(w.alloc (.cells (rM (.slice ma mn mc) p (.slice ra rn rc) d mo ba (.slice va vn vk) op oh ot st fe fp fh ft lo) 33))) (n:=w.heap.size+1) (by simp) 37 #[J 1,J num,J dv,J a,J ct,.bool wr,.slice da dn dc]).past (.cells zM 33)).past (.cells zT 40)).past (.cells zT 40)
 have X2:=((Box.newAt (w:=((w.alloc (.cells (rM (.slice ma mn mc) p (.slice ra rn rc) d mo ba (.slice va vn vk) op oh ot st fe fp fh ft lo) 33)).alloc (.cells #[J 1,J num,J dv,J a,J ct,.bool wr,.slice da dn dc] 37))) (n:=w.heap.size+1+1) (by simp) 33 zM).past (.cells zT 40)).past (.cells zT 40)
 have X3:=(Box.newAt (w:=(((w.alloc (.cells (rM (.slice ma mn mc) p (.slice ra rn rc) d mo ba (.slice va vn vk) op oh ot st fe fp fh ft lo) 33)).alloc (.cells #[J 1,J num,J dv,J a,J ct,.bool wr,.slice da dn dc] 37)).alloc (.cells zM 33))) (n:=w.heap.size+1+1+1) (by simp) 40 zT).past (.cells zT 40)
 have X4:=Box.newAt (w:=((((w.alloc (.cells (rM (.slice ma mn mc) p (.slice ra rn rc) d mo ba (.slice va vn vk) op oh ot st fe fp fh ft lo) 33)).alloc (.cells #[J 1,J num,J dv,J a,J ct,.bool wr,.slice da dn dc] 37)).alloc (.cells zM 33)).alloc (.cells zT 40))) (n:=w.heap.size+1+1+1+1) (by simp) 40 zT
 have BW:Hid (Below w.heap.size w (((((w.alloc (.cells (rM (.slice ma mn mc) p (.slice ra rn rc) d mo ba (.slice va vn vk) op oh ot st fe fp fh ft lo) 33)).alloc (.cells #[J 1,J num,J dv,J a,J ct,.bool wr,.slice da dn dc] 37)).alloc (.cells zM 33)).alloc (.cells zT 40)).alloc (.cells zT 40))):=aA (aA (aA (aA (aA (Below.refl w.heap.size w) _) _) _) _) _
 have hsz:(((((w.alloc (.cells (rM (.slice ma mn mc) p (.slice ra rn rc) d mo ba (.slice va vn vk) op oh ot st fe fp fh ft lo) 33)).alloc (.cells #[J 1,J num,J dv,J a,J ct,.bool wr,.slice da dn dc] 37)).alloc (.cells zM 33)).alloc (.cells zT 40)).alloc (.cells zT 40)).heap.size=w.heap.size+1+1+1+1+1:=by simp
 go_enter Tryz.func35,Tryz.ntmps35
 go_upto_region 2 with fail
 generalize (((((w.alloc (.cells (rM (.slice ma mn mc) p (.slice ra rn rc) d mo ba (.slice va vn vk) op oh ot st fe fp fh ft lo) 33)).alloc (.cells #[J 1,J num,J dv,J a,J ct,.bool wr,.slice da dn dc] 37)).alloc (.cells zM 33)).alloc (.cells zT 40)).alloc (.cells zT 40))=W at *
 have HSZ:Hid (W.heap.size=w.heap.size+1+1+1+1+1):=hsz
 clear hsz
 obtain⟨⟨k0,k1,k2,k3,k4,k5,k6⟩,sH⟩:=X1.seven
 have HST:Hid (hpE ⟨zs,⟨p,r,d⟩,⟨mo,ba,l,op,oh,ot,st,fe,fp,fh,ft,lo⟩⟩ ⟨1,num,dv,a,ct,wr,ds⟩=stE zs ⟨p,r,d⟩ ⟨mo,ba,l,op,oh,ot,st,fe,fp,fh,ft,lo⟩):=by
  obtain⟨q1,q2,q3⟩:=bW HE.out
  show _=_
  rw[tB q1 q2 q3,hpE,if_pos HE.out]
  rfl
 obtain⟨⟨i0,i1,i2,i3⟩,⟨j0,j1,j2,j3,j4,j5,j6,j7,j8,j9,j10,j11⟩,s0⟩:=X0.sixteen
 go_wp2_with fail
 refine (aA3 _ zs p _ r d mo ba op oh ot fe fp fh ft st lo _ l _ (HM.out.keep BW.out) (HR.out.keep BW.out) (HL.out.keep BW.out)).mono ?_
 rintro e w1 ⟨v1,zs1,p1,u1,r1,d1,mo1,ba1,op1,oh1,ot1,fe1,fp1,fh1,ft1,st1,lo1,vc1,l1,rfl,h1,h2,h3,hF1,hF2,hF3,hG,b1⟩
 clear i0 i1 i2 i3 j0 j1 j2 j3 j4 j5 j6 j7 j8 j9 j10 j11 s0
 clear k0 k1 k2 k3 k4 k5 k6 sH
 obtain⟨z,hz⟩:∃z,stE zs ⟨p,r,d⟩ ⟨mo,ba,l,op,oh,ot,st,fe,fp,fh,ft,lo⟩=z:=⟨_,rfl⟩
 have HZ:Hid (hpE ⟨zs,⟨p,r,d⟩,⟨mo,ba,l,op,oh,ot,st,fe,fp,fh,ft,lo⟩⟩ ⟨1,num,dv,a,ct,wr,ds⟩=z):=HST.out.trans hz
 have HG:Hid (z=0→hpR ⟨zs,⟨p,r,d⟩,⟨mo,ba,l,op,oh,ot,st,fe,fp,fh,ft,lo⟩⟩ ⟨1,num,dv,a,ct,wr,ds⟩=(⟨zs1,⟨p1,r1,d1⟩,⟨mo1,ba1,l1,op1,oh1,ot1,st1,fe1,fp1,fh1,ft1,lo1⟩⟩,⟨false,[],0,[]⟩)):=fun h0=>by
  rw[hpR,if_pos (HZ.out.trans h0),hpG]
  dsimp only
  rw[if_pos rfl]
  rw[stR,if_pos (hz.trans h0)] at hG
  rw[hG]
  rfl
 rw[hz]
 clear hz hG HST
 obtain⟨a1,n1,c1,rfl⟩:∃a k c,v1=.slice a k c:=let ⟨a,c,e,_⟩:=h1;⟨a,_,c,e⟩
 obtain⟨a2,n2,c2,rfl⟩:∃a k c,u1=.slice a k c:=let ⟨a,c,e,_⟩:=h2;⟨a,_,c,e⟩
 obtain⟨a3,n3,c3,rfl⟩:∃a k c,vc1=.slice a k c:=let ⟨a,c,e,_⟩:=h3;⟨a,_,c,e⟩
 have hFS1:Fresh (w.heap.size+1+1+1+1+1) (.slice a1 n1 c1):=by rw[←HSZ.out];exact hF1
 have hFS2:Fresh (w.heap.size+1+1+1+1+1) (.slice a2 n2 c2):=by rw[←HSZ.out];exact hF2
 have hFS3:Fresh (w.heap.size+1+1+1+1+1) (.slice a3 n3 c3):=by rw[←HSZ.out];exact hF3
 have hWz:=HSZ.out
 have hW1:W.heap.size≤w1.heap.size:=b1.size
 have X0:=X0.keep b1
 have X2:=X2.keep b1
 have X3:=X3.keep b1
 have X4:=X4.keep b1
 have B1:Hid (Below w.heap.size w w1):=aB BW.out b1
 have K2:KeptB (fun q=>q=w.heap.size) w1 ((((((((((((((((w1.setCell ⟨w.heap.size,0,none⟩ (.slice a1 n1 c1)).setCell ⟨w.heap.size,1,none⟩ (J p1)).setCell ⟨w.heap.size,2,none⟩ (.slice a2 n2 c2)).setCell ⟨w.heap.size,3,none⟩ (.bool d1)).setCell ⟨w.heap.size,4,none⟩ (J mo1)).setCell ⟨w.heap.size,5,none⟩ (J ba1)).setCell ⟨w.heap.size,6,none⟩ (.slice a3 n3 c3)).setCell ⟨w.heap.size,7,none⟩ (J op1)).setCell ⟨w.heap.size,8,none⟩ (J oh1)).setCell ⟨w.heap.size,9,none⟩ (J ot1)).setCell ⟨w.heap.size,10,none⟩ (.bool st1)).setCell ⟨w.heap.size,11,none⟩ (J fe1)).setCell ⟨w.heap.size,12,none⟩ (J fp1)).setCell ⟨w.heap.size,13,none⟩ (J fh1)).setCell ⟨w.heap.size,14,none⟩ (J ft1)).setCell ⟨w.heap.size,15,none⟩ (.bool lo1)):=by
  (repeat (first|with_reducible exact KeptB.refl _ _|with_reducible refine KeptB.drew ?_|with_reducible refine KeptB.alloc ?_ _|(with_reducible refine KeptB.setCell ?_ ?_ _;rotate_left;(focus (dsimp only;omega)))))
 have B2:Hid (Below w.heap.size w ((((((((((((((((w1.setCell ⟨w.heap.size,0,none⟩ (.slice a1 n1 c1)).setCell ⟨w.heap.size,1,none⟩ (J p1)).setCell ⟨w.heap.size,2,none⟩ (.slice a2 n2 c2)).setCell ⟨w.heap.size,3,none⟩ (.bool d1)).setCell ⟨w.heap.size,4,none⟩ (J mo1)).setCell ⟨w.heap.size,5,none⟩ (J ba1)).setCell ⟨w.heap.size,6,none⟩ (.slice a3 n3 c3)).setCell ⟨w.heap.size,7,none⟩ (J op1)).setCell ⟨w.heap.size,8,none⟩ (J oh1)).setCell ⟨w.heap.size,9,none⟩ (J ot1)).setCell ⟨w.heap.size,10,none⟩ (.bool st1)).setCell ⟨w.heap.size,11,none⟩ (J fe1)).setCell ⟨w.heap.size,12,none⟩ (J fp1)).setCell ⟨w.heap.size,13,none⟩ (J fh1)).setCell ⟨w.heap.size,14,none⟩ (J ft1)).setCell ⟨w.heap.size,15,none⟩ (.bool lo1))):=aX (Nat.le_refl _) B1.out _ _ _ _ _ _ _ _ _ _ _ _ _ _ _ _
 have PH:Hid (∀w',KeptB (fun q=>q=w.heap.size+1+1∨q=w.heap.size+1+1+1) ((((((((((((((((w1.setCell ⟨w.heap.size,0,none⟩ (.slice a1 n1 c1)).setCell ⟨w.heap.size,1,none⟩ (J p1)).setCell ⟨w.heap.size,2,none⟩ (.slice a2 n2 c2)).setCell ⟨w.heap.size,3,none⟩ (.bool d1)).setCell ⟨w.heap.size,4,none⟩ (J mo1)).setCell ⟨w.heap.size,5,none⟩ (J ba1)).setCell ⟨w.heap.size,6,none⟩ (.slice a3 n3 c3)).setCell ⟨w.heap.size,7,none⟩ (J op1)).setCell ⟨w.heap.size,8,none⟩ (J oh1)).setCell ⟨w.heap.size,9,none⟩ (J ot1)).setCell ⟨w.heap.size,10,none⟩ (.bool st1)).setCell ⟨w.heap.size,11,none⟩ (J fe1)).setCell ⟨w.heap.size,12,none⟩ (J fp1)).setCell ⟨w.heap.size,13,none⟩ (J fh1)).setCell ⟨w.heap.size,14,none⟩ (J ft1)).setCell ⟨w.heap.size,15,none⟩ (.bool lo1)) w'→Below w.heap.size w w'→hpE ⟨zs,⟨p,r,d⟩,⟨mo,ba,l,op,oh,ot,st,fe,fp,fh,ft,lo⟩⟩ ⟨1,num,dv,a,ct,wr,ds⟩=0→HapG bad ⟨zs,⟨p,r,d⟩,⟨mo,ba,l,op,oh,ot,st,fe,fp,fh,ft,lo⟩⟩ ⟨1,num,dv,a,ct,wr,ds⟩ w' (.slice a1 n1 c1) p1 (.slice a2 n2 c2) d1 mo1 ba1 op1 oh1 ot1 fe1 fp1 fh1 ft1 st1 lo1 (.slice a3 n3 c3) false (.slice none 0 0) 0 (.slice none 0 0)):=fun w' hk hb h0=>
  ⟨zs1,r1,l1,[],[],HG.out (HZ.out.symm.trans h0),(h1.kept K2 (fun q hq=>by have:=hFS1 q hq;omega)).kept hk (fun q hq=>by have:=hFS1 q hq;omega),(h2.kept K2 (fun q hq=>by have:=hFS2 q hq;omega)).kept hk (fun q hq=>by have:=hFS2 q hq;omega),(h3.kept K2 (fun q hq=>by have:=hFS3 q hq;omega)).kept hk (fun q hq=>by have:=hFS3 q hq;omega),Sl.nil _ none 0,Ts.nothing _,hFS1.off (fun q hb=>by have:=HN.out q hb;omega),hFS2.off (fun q hb=>by have:=HN.out q hb;omega),hFS3.off (fun q hb=>by have:=HN.out q hb;omega),Off.none _ 0 0,Off.none _ 0 0⟩
 have Y0:Box ((((((((((((((((w1.setCell ⟨w.heap.size,0,none⟩ (.slice a1 n1 c1)).setCell ⟨w.heap.size,1,none⟩ (J p1)).setCell ⟨w.heap.size,2,none⟩ (.slice a2 n2 c2)).setCell ⟨w.heap.size,3,none⟩ (.bool d1)).setCell ⟨w.heap.size,4,none⟩ (J mo1)).setCell ⟨w.heap.size,5,none⟩ (J ba1)).setCell ⟨w.heap.size,6,none⟩ (.slice a3 n3 c3)).setCell ⟨w.heap.size,7,none⟩ (J op1)).setCell ⟨w.heap.size,8,none⟩ (J oh1)).setCell ⟨w.heap.size,9,none⟩ (J ot1)).setCell ⟨w.heap.size,10,none⟩ (.bool st1)).setCell ⟨w.heap.size,11,none⟩ (J fe1)).setCell ⟨w.heap.size,12,none⟩ (J fp1)).setCell ⟨w.heap.size,13,none⟩ (J fh1)).setCell ⟨w.heap.size,14,none⟩ (J ft1)).setCell ⟨w.heap.size,15,none⟩ (.bool lo1)) w.heap.size 33 (rM (.slice a1 n1 c1) p1 (.slice a2 n2 c2) d1 mo1 ba1 (.slice a3 n3 c3) op1 oh1 ot1 st1 fe1 fp1 fh1 ft1 lo1):=X0.set16 _ _ _ _ _ _ _ _ _ _ _ _ _ _ _ _
 have Y2:=X2.kept K2 (by omega)
 have Y3:=X3.kept K2 (by omega)
 have Y4:=X4.kept K2 (by omega)
 have mk:=X0.marksOf
 obtain⟨⟨i0,i1,i2,i3⟩,⟨j0,j1,j2,j3,j4,j5,j6,j7,j8,j9,j10,j11⟩,s0⟩:=X0.sixteen
 clear h1 h2 h3 hF1 hF2 hF3 hFS1 hFS2 hFS3 b1 X0 X1 X2 X3 X4 K2
 go_upto_region 12 with fail
 clear mk
 clear i0 i1 i2 i3 j0 j1 j2 j3 j4 j5 j6 j7 j8 j9 j10 j11 s0
 generalize ((((((((((((((((w1.setCell ⟨w.heap.size,0,none⟩ (.slice a1 n1 c1)).setCell ⟨w.heap.size,1,none⟩ (J p1)).setCell ⟨w.heap.size,2,none⟩ (.slice a2 n2 c2)).setCell ⟨w.heap.size,3,none⟩ (.bool d1)).setCell ⟨w.heap.size,4,none⟩ (J mo1)).setCell ⟨w.heap.size,5,none⟩ (J ba1)).setCell ⟨w.heap.size,6,none⟩ (.slice a3 n3 c3)).setCell ⟨w.heap.size,7,none⟩ (J op1)).setCell ⟨w.heap.size,8,none⟩ (J oh1)).setCell ⟨w.heap.size,9,none⟩ (J ot1)).setCell ⟨w.heap.size,10,none⟩ (.bool st1)).setCell ⟨w.heap.size,11,none⟩ (J fe1)).setCell ⟨w.heap.size,12,none⟩ (J fp1)).setCell ⟨w.heap.size,13,none⟩ (J fh1)).setCell ⟨w.heap.size,14,none⟩ (J ft1)).setCell ⟨w.heap.size,15,none⟩ (.bool lo1))=w2 at *
 have X0:=Y0
 have X2:=Y2
 have X3:=Y3
 have X4:=Y4
 clear Y0 Y2 Y3 Y4
 obtain⟨⟨i0,i1,i2,i3⟩,⟨j0,j1,j2,j3,j4,j5,j6,j7,j8,j9,j10,j11⟩,s0⟩:=X0.sixteen
 obtain⟨⟨q0,q1,q2,q3⟩,⟨g0,g1,g2,g3,g4,g5,g6,g7,g8,g9,g10,g11⟩,s2⟩:=X2.sixteen
 have mk:=X2.marksOf
 obtain⟨t0,t1,t2,t3,mf0,mf1,mf2,mf3,s3⟩:=X3.four
 obtain⟨z0,z1,z2,z3,-,-,-,-,s4⟩:=X4.four
 clear X0 X2 X3 X4
 have n02:¬w.heap.size=w.heap.size+1+1:=by omega
 have n03:¬w.heap.size=w.heap.size+1+1+1:=by omega
 have n20:¬w.heap.size+1+1=w.heap.size:=by omega
 have n23:¬w.heap.size+1+1=w.heap.size+1+1+1:=by omega
 have n24:¬w.heap.size+1+1=w.heap.size+1+1+1+1:=by omega
 have n30:¬w.heap.size+1+1+1=w.heap.size:=by omega
 have n32:¬w.heap.size+1+1+1=w.heap.size+1+1:=by omega
 have n34:¬w.heap.size+1+1+1=w.heap.size+1+1+1+1:=by omega
 have n42:¬w.heap.size+1+1+1+1=w.heap.size+1+1:=by omega
 have n43:¬w.heap.size+1+1+1+1=w.heap.size+1+1+1:=by omega
 go_region
 all_goals
  go_wp2
  refine bodyPost_ret (v:=.tuple #[.agg (rM (.slice a1 n1 c1) p1 (.slice a2 n2 c2) d1 mo1 ba1 (.slice a3 n3 c3) op1 oh1 ot1 st1 fe1 fp1 fh1 ft1 lo1),.agg zT,J z]) (by simp[results,Tryz.results35,go_sem, *]) rfl ⟨⟨_,_,_,_,_,_,_,_,_,_,_,_,_,_,_,_,_,_,_,_,_,_,_,_,_,_,_,_,_,_,cK HZ.out.symm,fun h0=>PH.out _ ?_ ?_ h0⟩,?_⟩
  ·(repeat (first|with_reducible exact KeptB.refl _ _|with_reducible refine KeptB.drew ?_|with_reducible refine KeptB.alloc ?_ _|(with_reducible refine KeptB.setCell ?_ ?_ _;rotate_left;(focus (dsimp only;omega)))))
  ·(repeat (first|with_reducible exact B2.out|with_reducible refine Below.drew ?_|(with_reducible refine aX ?_ ?_ _ _ _ _ _ _ _ _ _ _ _ _ _ _ _ _;(focus omega))|(with_reducible refine aZ ?_ ?_ _ _ _ _;(focus omega))|(with_reducible refine aI ?_ ?_ _;(focus (dsimp only;omega)))))
  ·(repeat (first|with_reducible exact B2.out|with_reducible refine Below.drew ?_|(with_reducible refine aX ?_ ?_ _ _ _ _ _ _ _ _ _ _ _ _ _ _ _ _;(focus omega))|(with_reducible refine aZ ?_ ?_ _ _ _ _;(focus omega))|(with_reducible refine aI ?_ ?_ _;(focus (dsimp only;omega)))))
set_option maxRecDepth 10000 in
set_option maxHeartbeats 8000000 in
theorem uH (v:Value)(zs:List Int)(p:Int)(u:Value)(r:List Int)(d:Bool)(mo ba op oh ot fe fp fh ft:Int)(st lo:Bool)(vc:Value)(l:List Ln)(kd num dv a ct:Int)(wr:Bool)(y:Value)(ds:List Int)(bad:Nat→Prop)(w:World)(hs:Sl w v zs)(hr:Sl w u r)(h:Ls w vc l)(hd:Sl w y ds)(hE:chkM ⟨zs,⟨p,r,d⟩,⟨mo,ba,l,op,oh,ot,st,fe,fp,fh,ft,lo⟩⟩=0)(hN:∀q,bad q→q<w.heap.size)(f1:Off bad v)(f2:Off bad u)(f3:Off bad vc)(hk:kd=2):
  Calls Tryz.prog 35 #[.agg (rM v p u d mo ba vc op oh ot st fe fp fh ft lo),.agg #[J kd,J num,J dv,J a,J ct,.bool wr,y]] w fun e w'=>HapC bad ⟨zs,⟨p,r,d⟩,⟨mo,ba,l,op,oh,ot,st,fe,fp,fh,ft,lo⟩⟩ ⟨kd,num,dv,a,ct,wr,ds⟩ e w'∧Below w.heap.size w w':=by
 subst hk
 have HM:Hid (Sl w v zs):=hs
 have HR:Hid (Sl w u r):=hr
 have HL:Hid (Ls w vc l):=h
 have HD:Hid (Sl w y ds):=hd
 have HE:Hid (chkM _=0):=hE
 have HN:Hid (∀q,bad q→q<w.heap.size):=hN
 have F1:Hid (Off bad v):=f1
 have F2:Hid (Off bad u):=f2
 have F3:Hid (Off bad vc):=f3
 obtain⟨ma,mn,mc,rfl⟩:∃a k c,v=.slice a k c:=let ⟨a,c,e,_⟩:=hs;⟨a,_,c,e⟩
 obtain⟨ra,rn,rc,rfl⟩:∃a k c,u=.slice a k c:=let ⟨a,c,e,_⟩:=hr;⟨a,_,c,e⟩
 obtain⟨va,vn,vk,rfl⟩:∃a k c,vc=.slice a k c:=let ⟨a,c,e,_⟩:=h;⟨a,_,c,e⟩
 obtain⟨da,dn,dc,rfl⟩:∃a k c,y=.slice a k c:=let ⟨a,c,e,_⟩:=hd;⟨a,_,c,e⟩
 clear hs hr h hd hE hN f1 f2 f3
 have X0:=((((Box.newAt (w:=w) (n:=w.heap.size) rfl 33 (rM (.slice ma mn mc) p (.slice ra rn rc) d mo ba (.slice va vn vk) op oh ot st fe fp fh ft lo)).past (.cells #[J 2,J num,J dv,J a,J ct,.bool wr,.slice da dn dc] 37)).past (.cells zM 33)).past (.cells zT 40)).past (.cells zT 40)
 have X1:=(((Box.newAt (w:=(w.alloc (.cells (rM (.slice ma mn mc) p (.slice ra rn rc) d mo ba (.slice va vn vk) op oh ot st fe fp fh ft lo) 33))) (n:=w.heap.size+1) (by simp) 37 #[J 2,J num,J dv,J a,J ct,.bool wr,.slice da dn dc]).past (.cells zM 33)).past (.cells zT 40)).past (.cells zT 40)
 have X2:=((Box.newAt (w:=((w.alloc (.cells (rM (.slice ma mn mc) p (.slice ra rn rc) d mo ba (.slice va vn vk) op oh ot st fe fp fh ft lo) 33)).alloc (.cells #[J 2,J num,J dv,J a,J ct,.bool wr,.slice da dn dc] 37))) (n:=w.heap.size+1+1) (by simp) 33 zM).past (.cells zT 40)).past (.cells zT 40)
 have X3:=(Box.newAt (w:=(((w.alloc (.cells (rM (.slice ma mn mc) p (.slice ra rn rc) d mo ba (.slice va vn vk) op oh ot st fe fp fh ft lo) 33)).alloc (.cells #[J 2,J num,J dv,J a,J ct,.bool wr,.slice da dn dc] 37)).alloc (.cells zM 33))) (n:=w.heap.size+1+1+1) (by simp) 40 zT).past (.cells zT 40)
 have X4:=Box.newAt (w:=((((w.alloc (.cells (rM (.slice ma mn mc) p (.slice ra rn rc) d mo ba (.slice va vn vk) op oh ot st fe fp fh ft lo) 33)).alloc (.cells #[J 2,J num,J dv,J a,J ct,.bool wr,.slice da dn dc] 37)).alloc (.cells zM 33)).alloc (.cells zT 40))) (n:=w.heap.size+1+1+1+1) (by simp) 40 zT
 have BW:Hid (Below w.heap.size w (((((w.alloc (.cells (rM (.slice ma mn mc) p (.slice ra rn rc) d mo ba (.slice va vn vk) op oh ot st fe fp fh ft lo) 33)).alloc (.cells #[J 2,J num,J dv,J a,J ct,.bool wr,.slice da dn dc] 37)).alloc (.cells zM 33)).alloc (.cells zT 40)).alloc (.cells zT 40))):=aA (aA (aA (aA (aA (Below.refl w.heap.size w) _) _) _) _) _
 have hsz:(((((w.alloc (.cells (rM (.slice ma mn mc) p (.slice ra rn rc) d mo ba (.slice va vn vk) op oh ot st fe fp fh ft lo) 33)).alloc (.cells #[J 2,J num,J dv,J a,J ct,.bool wr,.slice da dn dc] 37)).alloc (.cells zM 33)).alloc (.cells zT 40)).alloc (.cells zT 40)).heap.size=w.heap.size+1+1+1+1+1:=by simp
 go_enter Tryz.func35,Tryz.ntmps35
 go_upto_region 2 with fail
 generalize (((((w.alloc (.cells (rM (.slice ma mn mc) p (.slice ra rn rc) d mo ba (.slice va vn vk) op oh ot st fe fp fh ft lo) 33)).alloc (.cells #[J 2,J num,J dv,J a,J ct,.bool wr,.slice da dn dc] 37)).alloc (.cells zM 33)).alloc (.cells zT 40)).alloc (.cells zT 40))=W at *
 have HSZ:Hid (W.heap.size=w.heap.size+1+1+1+1+1):=hsz
 clear hsz
 obtain⟨⟨k0,k1,k2,k3,k4,k5,k6⟩,sH⟩:=X1.seven
 have HST:Hid (hpE ⟨zs,⟨p,r,d⟩,⟨mo,ba,l,op,oh,ot,st,fe,fp,fh,ft,lo⟩⟩ ⟨2,num,dv,a,ct,wr,ds⟩=obE zs ⟨mo,ba,l,op,oh,ot,st,fe,fp,fh,ft,lo⟩):=by
  show _=_
  rw[hpE,if_pos HE.out]
  rfl
 obtain⟨⟨i0,i1,i2,i3⟩,⟨j0,j1,j2,j3,j4,j5,j6,j7,j8,j9,j10,j11⟩,s0⟩:=X0.sixteen
 go_wp2_with fail
 refine (xR _ zs mo ba op oh ot fe fp fh ft st lo _ l _ (HM.out.keep BW.out) (HL.out.keep BW.out)).mono ?_
 rintro e w1 ⟨mo1,ba1,op1,oh1,ot1,fe1,fp1,fh1,ft1,st1,lo1,a3,c3,l1,rfl,hG,h3,hF3,b1⟩
 clear i0 i1 i2 i3 j0 j1 j2 j3 j4 j5 j6 j7 j8 j9 j10 j11 s0
 clear k0 k1 k2 k3 k4 k5 k6 sH
 obtain⟨z,hz⟩:∃z,obE zs ⟨mo,ba,l,op,oh,ot,st,fe,fp,fh,ft,lo⟩=z:=⟨_,rfl⟩
 have HZ:Hid (hpE ⟨zs,⟨p,r,d⟩,⟨mo,ba,l,op,oh,ot,st,fe,fp,fh,ft,lo⟩⟩ ⟨2,num,dv,a,ct,wr,ds⟩=z):=HST.out.trans hz
 have HG:Hid (z=0→hpR ⟨zs,⟨p,r,d⟩,⟨mo,ba,l,op,oh,ot,st,fe,fp,fh,ft,lo⟩⟩ ⟨2,num,dv,a,ct,wr,ds⟩=(⟨zs,⟨p,r,d⟩,⟨mo1,ba1,l1,op1,oh1,ot1,st1,fe1,fp1,fh1,ft1,lo1⟩⟩,⟨false,[],0,[]⟩)):=fun h0=>by
  rw[hpR,if_pos (HZ.out.trans h0),hpG]
  dsimp only
  rw[if_neg (by decide),if_pos rfl,hG]
  rfl
 rw[hz]
 clear hz hG HST
 obtain⟨n3,hn3⟩:∃k,l1.length=k:=⟨_,rfl⟩
 rw[hn3] at h3 hF3 ⊢
 clear hn3
 have hFS3:Fresh (w.heap.size+1+1+1+1+1) (.slice a3 n3 c3):=by rw[←HSZ.out];exact hF3
 have hWz:=HSZ.out
 have hW1:W.heap.size≤w1.heap.size:=b1.size
 have X0:=X0.keep b1
 have X2:=X2.keep b1
 have X3:=X3.keep b1
 have X4:=X4.keep b1
 have B1:Hid (Below w.heap.size w w1):=aB BW.out b1
 have K2:KeptB (fun q=>q=w.heap.size) w1 ((((((((((((w1.setCell ⟨w.heap.size,4,none⟩ (J mo1)).setCell ⟨w.heap.size,5,none⟩ (J ba1)).setCell ⟨w.heap.size,6,none⟩ (.slice a3 n3 c3)).setCell ⟨w.heap.size,7,none⟩ (J op1)).setCell ⟨w.heap.size,8,none⟩ (J oh1)).setCell ⟨w.heap.size,9,none⟩ (J ot1)).setCell ⟨w.heap.size,10,none⟩ (.bool st1)).setCell ⟨w.heap.size,11,none⟩ (J fe1)).setCell ⟨w.heap.size,12,none⟩ (J fp1)).setCell ⟨w.heap.size,13,none⟩ (J fh1)).setCell ⟨w.heap.size,14,none⟩ (J ft1)).setCell ⟨w.heap.size,15,none⟩ (.bool lo1)):=by
  (repeat (first|with_reducible exact KeptB.refl _ _|with_reducible refine KeptB.drew ?_|with_reducible refine KeptB.alloc ?_ _|(with_reducible refine KeptB.setCell ?_ ?_ _;rotate_left;(focus (dsimp only;omega)))))
 have B2:Hid (Below w.heap.size w ((((((((((((w1.setCell ⟨w.heap.size,4,none⟩ (J mo1)).setCell ⟨w.heap.size,5,none⟩ (J ba1)).setCell ⟨w.heap.size,6,none⟩ (.slice a3 n3 c3)).setCell ⟨w.heap.size,7,none⟩ (J op1)).setCell ⟨w.heap.size,8,none⟩ (J oh1)).setCell ⟨w.heap.size,9,none⟩ (J ot1)).setCell ⟨w.heap.size,10,none⟩ (.bool st1)).setCell ⟨w.heap.size,11,none⟩ (J fe1)).setCell ⟨w.heap.size,12,none⟩ (J fp1)).setCell ⟨w.heap.size,13,none⟩ (J fh1)).setCell ⟨w.heap.size,14,none⟩ (J ft1)).setCell ⟨w.heap.size,15,none⟩ (.bool lo1))):=by
  show Below _ _ _
  (repeat (first|with_reducible exact B1.out|with_reducible refine Below.drew ?_|(with_reducible refine aX ?_ ?_ _ _ _ _ _ _ _ _ _ _ _ _ _ _ _ _;(focus omega))|(with_reducible refine aZ ?_ ?_ _ _ _ _;(focus omega))|(with_reducible refine aI ?_ ?_ _;(focus (dsimp only;omega)))))
 have PH:Hid (∀w',KeptB (fun q=>q=w.heap.size+1+1∨q=w.heap.size+1+1+1) ((((((((((((w1.setCell ⟨w.heap.size,4,none⟩ (J mo1)).setCell ⟨w.heap.size,5,none⟩ (J ba1)).setCell ⟨w.heap.size,6,none⟩ (.slice a3 n3 c3)).setCell ⟨w.heap.size,7,none⟩ (J op1)).setCell ⟨w.heap.size,8,none⟩ (J oh1)).setCell ⟨w.heap.size,9,none⟩ (J ot1)).setCell ⟨w.heap.size,10,none⟩ (.bool st1)).setCell ⟨w.heap.size,11,none⟩ (J fe1)).setCell ⟨w.heap.size,12,none⟩ (J fp1)).setCell ⟨w.heap.size,13,none⟩ (J fh1)).setCell ⟨w.heap.size,14,none⟩ (J ft1)).setCell ⟨w.heap.size,15,none⟩ (.bool lo1)) w'→Below w.heap.size w w'→hpE ⟨zs,⟨p,r,d⟩,⟨mo,ba,l,op,oh,ot,st,fe,fp,fh,ft,lo⟩⟩ ⟨2,num,dv,a,ct,wr,ds⟩=0→HapG bad ⟨zs,⟨p,r,d⟩,⟨mo,ba,l,op,oh,ot,st,fe,fp,fh,ft,lo⟩⟩ ⟨2,num,dv,a,ct,wr,ds⟩ w' (.slice ma mn mc) p (.slice ra rn rc) d mo1 ba1 op1 oh1 ot1 fe1 fp1 fh1 ft1 st1 lo1 (.slice a3 n3 c3) false (.slice none 0 0) 0 (.slice none 0 0)):=fun w' hk hb h0=>
  ⟨zs,r,l1,[],[],HG.out (HZ.out.symm.trans h0),HM.out.keep hb,HR.out.keep hb,(h3.kept K2 (fun q hq=>by have:=hFS3 q hq;omega)).kept hk (fun q hq=>by have:=hFS3 q hq;omega),Sl.nil _ none 0,Ts.nothing _,F1.out,F2.out,hFS3.off (fun q hb=>by have:=HN.out q hb;omega),Off.none _ 0 0,Off.none _ 0 0⟩
 have Y0:Box ((((((((((((w1.setCell ⟨w.heap.size,4,none⟩ (J mo1)).setCell ⟨w.heap.size,5,none⟩ (J ba1)).setCell ⟨w.heap.size,6,none⟩ (.slice a3 n3 c3)).setCell ⟨w.heap.size,7,none⟩ (J op1)).setCell ⟨w.heap.size,8,none⟩ (J oh1)).setCell ⟨w.heap.size,9,none⟩ (J ot1)).setCell ⟨w.heap.size,10,none⟩ (.bool st1)).setCell ⟨w.heap.size,11,none⟩ (J fe1)).setCell ⟨w.heap.size,12,none⟩ (J fp1)).setCell ⟨w.heap.size,13,none⟩ (J fh1)).setCell ⟨w.heap.size,14,none⟩ (J ft1)).setCell ⟨w.heap.size,15,none⟩ (.bool lo1)) w.heap.size 33 (rM (.slice ma mn mc) p (.slice ra rn rc) d mo1 ba1 (.slice a3 n3 c3) op1 oh1 ot1 st1 fe1 fp1 fh1 ft1 lo1):=X0.setBrM _ _ _ _ _ _ _ _ _ _ _ _
 have Y2:=X2.kept K2 (by omega)
 have Y3:=X3.kept K2 (by omega)
 have Y4:=X4.kept K2 (by omega)
 have mk:=X0.marksOf
 obtain⟨⟨i0,i1,i2,i3⟩,⟨j0,j1,j2,j3,j4,j5,j6,j7,j8,j9,j10,j11⟩,s0⟩:=X0.sixteen
 clear h3 hF3 hFS3 b1 X0 X1 X2 X3 X4 K2
 go_upto_region 12 with fail
 clear mk
 clear i0 i1 i2 i3 j0 j1 j2 j3 j4 j5 j6 j7 j8 j9 j10 j11 s0
 generalize ((((((((((((w1.setCell ⟨w.heap.size,4,none⟩ (J mo1)).setCell ⟨w.heap.size,5,none⟩ (J ba1)).setCell ⟨w.heap.size,6,none⟩ (.slice a3 n3 c3)).setCell ⟨w.heap.size,7,none⟩ (J op1)).setCell ⟨w.heap.size,8,none⟩ (J oh1)).setCell ⟨w.heap.size,9,none⟩ (J ot1)).setCell ⟨w.heap.size,10,none⟩ (.bool st1)).setCell ⟨w.heap.size,11,none⟩ (J fe1)).setCell ⟨w.heap.size,12,none⟩ (J fp1)).setCell ⟨w.heap.size,13,none⟩ (J fh1)).setCell ⟨w.heap.size,14,none⟩ (J ft1)).setCell ⟨w.heap.size,15,none⟩ (.bool lo1))=w2 at *
 have X0:=Y0
 have X2:=Y2
 have X3:=Y3
 have X4:=Y4
 clear Y0 Y2 Y3 Y4
 obtain⟨⟨i0,i1,i2,i3⟩,⟨j0,j1,j2,j3,j4,j5,j6,j7,j8,j9,j10,j11⟩,s0⟩:=X0.sixteen
 obtain⟨⟨q0,q1,q2,q3⟩,⟨g0,g1,g2,g3,g4,g5,g6,g7,g8,g9,g10,g11⟩,s2⟩:=X2.sixteen
 have mk:=X2.marksOf
 obtain⟨t0,t1,t2,t3,mf0,mf1,mf2,mf3,s3⟩:=X3.four
 obtain⟨z0,z1,z2,z3,-,-,-,-,s4⟩:=X4.four
 clear X0 X2 X3 X4
 have n02:¬w.heap.size=w.heap.size+1+1:=by omega
 have n03:¬w.heap.size=w.heap.size+1+1+1:=by omega
 have n20:¬w.heap.size+1+1=w.heap.size:=by omega
 have n23:¬w.heap.size+1+1=w.heap.size+1+1+1:=by omega
 have n24:¬w.heap.size+1+1=w.heap.size+1+1+1+1:=by omega
 have n30:¬w.heap.size+1+1+1=w.heap.size:=by omega
 have n32:¬w.heap.size+1+1+1=w.heap.size+1+1:=by omega
 have n34:¬w.heap.size+1+1+1=w.heap.size+1+1+1+1:=by omega
 have n42:¬w.heap.size+1+1+1+1=w.heap.size+1+1:=by omega
 have n43:¬w.heap.size+1+1+1+1=w.heap.size+1+1+1:=by omega
 go_region
 all_goals
  go_wp2
  refine bodyPost_ret (v:=.tuple #[.agg (rM (.slice ma mn mc) p (.slice ra rn rc) d mo1 ba1 (.slice a3 n3 c3) op1 oh1 ot1 st1 fe1 fp1 fh1 ft1 lo1),.agg zT,J z]) (by simp[results,Tryz.results35,go_sem, *]) rfl ⟨⟨_,_,_,_,_,_,_,_,_,_,_,_,_,_,_,_,_,_,_,_,_,_,_,_,_,_,_,_,_,_,cK HZ.out.symm,fun h0=>PH.out _ ?_ ?_ h0⟩,?_⟩
  ·(repeat (first|with_reducible exact KeptB.refl _ _|with_reducible refine KeptB.drew ?_|with_reducible refine KeptB.alloc ?_ _|(with_reducible refine KeptB.setCell ?_ ?_ _;rotate_left;(focus (dsimp only;omega)))))
  ·(repeat (first|with_reducible exact B2.out|with_reducible refine Below.drew ?_|(with_reducible refine aX ?_ ?_ _ _ _ _ _ _ _ _ _ _ _ _ _ _ _ _;(focus omega))|(with_reducible refine aZ ?_ ?_ _ _ _ _;(focus omega))|(with_reducible refine aI ?_ ?_ _;(focus (dsimp only;omega)))))
  ·(repeat (first|with_reducible exact B2.out|with_reducible refine Below.drew ?_|(with_reducible refine aX ?_ ?_ _ _ _ _ _ _ _ _ _ _ _ _ _ _ _ _;(focus omega))|(with_reducible refine aZ ?_ ?_ _ _ _ _;(focus omega))|(with_reducible refine aI ?_ ?_ _;(focus (dsimp only;omega)))))
end Go.Proofs.YthlhocneggcekaaGreat
