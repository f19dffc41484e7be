/-
  Laid together: MHap3, MWithout, MHap4.
-/
import Derived.Test.YthlhocneggcekaaGreatD32
namespace Go.Proofs.YthlhocneggcekaaGreat
open Go.RowKit
set_option maxRecDepth 10000 in
set_option maxHeartbeats 8000000 in
theorem aA4 (v:Value)(zs:List Int)(p:Int)(u:Value)(r:List Int)(d:Bool)(mo ba op oh ot fe fp fh ft:Int)(st lo:Bool)(vc:Value)(l:List Ln)(kd num dv a ct:Int)(wr:Bool)(y:Value)(ds:List Int)(bad:Nat→Prop)(w:World)(hs:Sl w v zs)(hr:Sl w u r)(h:Ls w vc l)(hd:Sl w y ds)(hE:chkM ⟨zs,⟨p,r,d⟩,⟨mo,ba,l,op,oh,ot,st,fe,fp,fh,ft,lo⟩⟩=0)(hN:∀q,bad q→q<w.heap.size)(f1:Off bad v)(f2:Off bad u)(f3:Off bad vc)(hk:kd=3):
  Calls Tryz.prog 35 #[.agg (rM v p u d mo ba vc op oh ot st fe fp fh ft lo),.agg #[J kd,J num,J dv,J a,J ct,.bool wr,y]] w fun e w'=>HapC bad ⟨zs,⟨p,r,d⟩,⟨mo,ba,l,op,oh,ot,st,fe,fp,fh,ft,lo⟩⟩ ⟨kd,num,dv,a,ct,wr,ds⟩ e w'∧Below w.heap.size w w':=by
 subst hk
 have HM:Hid (Sl w v zs):=hs
 have HR:Hid (Sl w u r):=hr
 have HL:Hid (Ls w vc l):=h
 have HD:Hid (Sl w y ds):=hd
 have HE:Hid (chkM _=0):=hE
 have HN:Hid (∀q,bad q→q<w.heap.size):=hN
 have F1:Hid (Off bad v):=f1
 have F2:Hid (Off bad u):=f2
 have F3:Hid (Off bad vc):=f3
 obtain⟨ma,mn,mc,rfl⟩:∃a k c,v=.slice a k c:=let ⟨a,c,e,_⟩:=hs;⟨a,_,c,e⟩
 obtain⟨ra,rn,rc,rfl⟩:∃a k c,u=.slice a k c:=let ⟨a,c,e,_⟩:=hr;⟨a,_,c,e⟩
 obtain⟨va,vn,vk,rfl⟩:∃a k c,vc=.slice a k c:=let ⟨a,c,e,_⟩:=h;⟨a,_,c,e⟩
 obtain⟨da,dn,dc,rfl⟩:∃a k c,y=.slice a k c:=let ⟨a,c,e,_⟩:=hd;⟨a,_,c,e⟩
 clear hs hr h hd hE hN f1 f2 f3
 have X0:=((((Box.newAt (w:=w) (n:=w.heap.size) rfl 33 (rM (.slice ma mn mc) p (.slice ra rn rc) d mo ba (.slice va vn vk) op oh ot st fe fp fh ft lo)).past (.cells #[J 3,J num,J dv,J a,J ct,.bool wr,.slice da dn dc] 37)).past (.cells zM 33)).past (.cells zT 40)).past (.cells zT 40)
 have X1:=(((Box.newAt (w:=(w.alloc (.cells (rM (.slice ma mn mc) p (.slice ra rn rc) d mo ba (.slice va vn vk) op oh ot st fe fp fh ft lo) 33))) (n:=w.heap.size+1) (by simp) 37 #[J 3,J num,J dv,J a,J ct,.bool wr,.slice da dn dc]).past (.cells zM 33)).past (.cells zT 40)).past (.cells zT 40)
 have X2:=((Box.newAt (w:=((w.alloc (.cells (rM (.slice ma mn mc) p (.slice ra rn rc) d mo ba (.slice va vn vk) op oh ot st fe fp fh ft lo) 33)).alloc (.cells #[J 3,J num,J dv,J a,J ct,.bool wr,.slice da dn dc] 37))) (n:=w.heap.size+1+1) (by simp) 33 zM).past (.cells zT 40)).past (.cells zT 40)
 have X3:=(Box.newAt (w:=(((w.alloc (.cells (rM (.slice ma mn mc) p (.slice ra rn rc) d mo ba (.slice va vn vk) op oh ot st fe fp fh ft lo) 33)).alloc (.cells #[J 3,J num,J dv,J a,J ct,.bool wr,.slice da dn dc] 37)).alloc (.cells zM 33))) (n:=w.heap.size+1+1+1) (by simp) 40 zT).past (.cells zT 40)
 have X4:=Box.newAt (w:=((((w.alloc (.cells (rM (.slice ma mn mc) p (.slice ra rn rc) d mo ba (.slice va vn vk) op oh ot st fe fp fh ft lo) 33)).alloc (.cells #[J 3,J num,J dv,J a,J ct,.bool wr,.slice da dn dc] 37)).alloc (.cells zM 33)).alloc (.cells zT 40))) (n:=w.heap.size+1+1+1+1) (by simp) 40 zT
 have BW:Hid (Below w.heap.size w (((((w.alloc (.cells (rM (.slice ma mn mc) p (.slice ra rn rc) d mo ba (.slice va vn vk) op oh ot st fe fp fh ft lo) 33)).alloc (.cells #[J 3,J num,J dv,J a,J ct,.bool wr,.slice da dn dc] 37)).alloc (.cells zM 33)).alloc (.cells zT 40)).alloc (.cells zT 40))):=aA (aA (aA (aA (aA (Below.refl w.heap.size w) _) _) _) _) _
 have hsz:(((((w.alloc (.cells (rM (.slice ma mn mc) p (.slice ra rn rc) d mo ba (.slice va vn vk) op oh ot st fe fp fh ft lo) 33)).alloc (.cells #[J 3,J num,J dv,J a,J ct,.bool wr,.slice da dn dc] 37)).alloc (.cells zM 33)).alloc (.cells zT 40)).alloc (.cells zT 40)).heap.size=w.heap.size+1+1+1+1+1:=by simp
 go_enter Tryz.func35,Tryz.ntmps35
 go_upto_region 2 with fail
 generalize (((((w.alloc (.cells (rM (.slice ma mn mc) p (.slice ra rn rc) d mo ba (.slice va vn vk) op oh ot st fe fp fh ft lo) 33)).alloc (.cells #[J 3,J num,J dv,J a,J ct,.bool wr,.slice da dn dc] 37)).alloc (.cells zM 33)).alloc (.cells zT 40)).alloc (.cells zT 40))=W at *
 have HSZ:Hid (W.heap.size=w.heap.size+1+1+1+1+1):=hsz
 clear hsz
 obtain⟨⟨k0,k1,k2,k3,k4,k5,k6⟩,sH⟩:=X1.seven
 have HST:Hid (hpE ⟨zs,⟨p,r,d⟩,⟨mo,ba,l,op,oh,ot,st,fe,fp,fh,ft,lo⟩⟩ ⟨3,num,dv,a,ct,wr,ds⟩=doE zs ⟨mo,ba,l,op,oh,ot,st,fe,fp,fh,ft,lo⟩ dv a ct wr ds):=by
  obtain⟨q1,q2,q3⟩:=bW HE.out
  show _=_
  rw[hpE,if_pos HE.out,doE,if_pos (dW q1 q3)]
  rfl
 obtain⟨⟨i0,i1,i2,i3⟩,⟨j0,j1,j2,j3,j4,j5,j6,j7,j8,j9,j10,j11⟩,s0⟩:=X0.sixteen
 go_wp2_with fail
 refine (do_any _ zs mo ba op oh ot fe fp fh ft st lo _ l dv a ct wr _ ds _ (HM.out.keep BW.out) (HL.out.keep BW.out) (HD.out.keep BW.out)).mono ?_
 rintro e w1 ⟨a1,n1,c1,mo1,ba1,op1,oh1,ot1,fe1,fp1,fh1,ft1,st1,lo1,a3,c3,l1,a4,c4,a5,c5,dat1,tch1,zs1,f1,rfl,hG,h1,h3,h4,h5,b1,hF1,hF3,hF4,hF5⟩
 clear i0 i1 i2 i3 j0 j1 j2 j3 j4 j5 j6 j7 j8 j9 j10 j11 s0
 clear k0 k1 k2 k3 k4 k5 k6 sH
 obtain⟨z,hz⟩:∃z,doE zs ⟨mo,ba,l,op,oh,ot,st,fe,fp,fh,ft,lo⟩ dv a ct wr ds=z:=⟨_,rfl⟩
 have HZ:Hid (hpE ⟨zs,⟨p,r,d⟩,⟨mo,ba,l,op,oh,ot,st,fe,fp,fh,ft,lo⟩⟩ ⟨3,num,dv,a,ct,wr,ds⟩=z):=HST.out.trans hz
 obtain⟨bb,hbb⟩:∃bb,(decide (z=0)&&decide (f1=0))=bb:=⟨_,rfl⟩
 have HG:Hid (z=0→hpR ⟨zs,⟨p,r,d⟩,⟨mo,ba,l,op,oh,ot,st,fe,fp,fh,ft,lo⟩⟩ ⟨3,num,dv,a,ct,wr,ds⟩=(⟨zs1,⟨p,r,d⟩,⟨mo1,ba1,l1,op1,oh1,ot1,st1,fe1,fp1,fh1,ft1,lo1⟩⟩,⟨bb,dat1,f1,tch1⟩)):=fun h0=>by
  rw[hpR,if_pos (HZ.out.trans h0),hpG]
  dsimp only
  rw[if_neg (by decide),if_neg (by decide),if_pos rfl,hG,←hbb,h0]
  rfl
 rw[hz,hbb]
 clear hz hG HST hbb
 obtain⟨n3,hn3⟩:∃k,l1.length=k:=⟨_,rfl⟩
 obtain⟨n4,hn4⟩:∃k,dat1.length=k:=⟨_,rfl⟩
 obtain⟨n5,hn5⟩:∃k,tch1.length=k:=⟨_,rfl⟩
 rw[hn3] at h3 hF3 ⊢
 rw[hn4] at h4 hF4 ⊢
 rw[hn5] at h5 hF5 ⊢
 clear hn3 hn4 hn5
 have hFS1:Fresh (w.heap.size+1+1+1+1+1) (.slice a1 n1 c1):=by rw[←HSZ.out];exact hF1
 have hFS3:Fresh (w.heap.size+1+1+1+1+1) (.slice a3 n3 c3):=by rw[←HSZ.out];exact hF3
 have hFS4:Fresh (w.heap.size+1+1+1+1+1) (.slice a4 n4 c4):=by rw[←HSZ.out];exact hF4
 have hFS5:Fresh (w.heap.size+1+1+1+1+1) (.slice a5 n5 c5):=by rw[←HSZ.out];exact hF5
 have hWz:=HSZ.out
 have hW1:W.heap.size≤w1.heap.size:=b1.size
 have X0:=X0.keep b1
 have X2:=X2.keep b1
 have X3:=X3.keep b1
 have X4:=X4.keep b1
 have B1:Hid (Below w.heap.size w w1):=aB BW.out b1
 have K2:KeptB (fun q=>q=w.heap.size∨q=w.heap.size+1+1+1+1) w1 (((((((((((((((((w1.setCell ⟨w.heap.size,0,none⟩ (.slice a1 n1 c1)).setCell ⟨w.heap.size,4,none⟩ (J mo1)).setCell ⟨w.heap.size,5,none⟩ (J ba1)).setCell ⟨w.heap.size,6,none⟩ (.slice a3 n3 c3)).setCell ⟨w.heap.size,7,none⟩ (J op1)).setCell ⟨w.heap.size,8,none⟩ (J oh1)).setCell ⟨w.heap.size,9,none⟩ (J ot1)).setCell ⟨w.heap.size,10,none⟩ (.bool st1)).setCell ⟨w.heap.size,11,none⟩ (J fe1)).setCell ⟨w.heap.size,12,none⟩ (J fp1)).setCell ⟨w.heap.size,13,none⟩ (J fh1)).setCell ⟨w.heap.size,14,none⟩ (J ft1)).setCell ⟨w.heap.size,15,none⟩ (.bool lo1)).setCell ⟨w.heap.size+1+1+1+1,0,none⟩ (.bool bb)).setCell ⟨w.heap.size+1+1+1+1,1,none⟩ (.slice a4 n4 c4)).setCell ⟨w.heap.size+1+1+1+1,2,none⟩ (J f1)).setCell ⟨w.heap.size+1+1+1+1,3,none⟩ (.slice a5 n5 c5)):=by
  (repeat (first|with_reducible exact KeptB.refl _ _|with_reducible refine KeptB.drew ?_|with_reducible refine KeptB.alloc ?_ _|(with_reducible refine KeptB.setCell ?_ ?_ _;rotate_left;(focus (dsimp only;omega)))))
 have K3:KeptB (fun q=>q=w.heap.size) w1 (((((((((((((w1.setCell ⟨w.heap.size,0,none⟩ (.slice a1 n1 c1)).setCell ⟨w.heap.size,4,none⟩ (J mo1)).setCell ⟨w.heap.size,5,none⟩ (J ba1)).setCell ⟨w.heap.size,6,none⟩ (.slice a3 n3 c3)).setCell ⟨w.heap.size,7,none⟩ (J op1)).setCell ⟨w.heap.size,8,none⟩ (J oh1)).setCell ⟨w.heap.size,9,none⟩ (J ot1)).setCell ⟨w.heap.size,10,none⟩ (.bool st1)).setCell ⟨w.heap.size,11,none⟩ (J fe1)).setCell ⟨w.heap.size,12,none⟩ (J fp1)).setCell ⟨w.heap.size,13,none⟩ (J fh1)).setCell ⟨w.heap.size,14,none⟩ (J ft1)).setCell ⟨w.heap.size,15,none⟩ (.bool lo1)):=by
  (repeat (first|with_reducible exact KeptB.refl _ _|with_reducible refine KeptB.drew ?_|with_reducible refine KeptB.alloc ?_ _|(with_reducible refine KeptB.setCell ?_ ?_ _;rotate_left;(focus (dsimp only;omega)))))
 have B2:Hid (Below w.heap.size w (((((((((((((((((w1.setCell ⟨w.heap.size,0,none⟩ (.slice a1 n1 c1)).setCell ⟨w.heap.size,4,none⟩ (J mo1)).setCell ⟨w.heap.size,5,none⟩ (J ba1)).setCell ⟨w.heap.size,6,none⟩ (.slice a3 n3 c3)).setCell ⟨w.heap.size,7,none⟩ (J op1)).setCell ⟨w.heap.size,8,none⟩ (J oh1)).setCell ⟨w.heap.size,9,none⟩ (J ot1)).setCell ⟨w.heap.size,10,none⟩ (.bool st1)).setCell ⟨w.heap.size,11,none⟩ (J fe1)).setCell ⟨w.heap.size,12,none⟩ (J fp1)).setCell ⟨w.heap.size,13,none⟩ (J fh1)).setCell ⟨w.heap.size,14,none⟩ (J ft1)).setCell ⟨w.heap.size,15,none⟩ (.bool lo1)).setCell ⟨w.heap.size+1+1+1+1,0,none⟩ (.bool bb)).setCell ⟨w.heap.size+1+1+1+1,1,none⟩ (.slice a4 n4 c4)).setCell ⟨w.heap.size+1+1+1+1,2,none⟩ (J f1)).setCell ⟨w.heap.size+1+1+1+1,3,none⟩ (.slice a5 n5 c5))):=by
  show Below _ _ _
  (repeat (first|with_reducible exact B1.out|with_reducible refine Below.drew ?_|(with_reducible refine aX ?_ ?_ _ _ _ _ _ _ _ _ _ _ _ _ _ _ _ _;(focus omega))|(with_reducible refine aZ ?_ ?_ _ _ _ _;(focus omega))|(with_reducible refine aI ?_ ?_ _;(focus (dsimp only;omega)))))
 have PH:Hid (∀w',KeptB (fun q=>q=w.heap.size+1+1∨q=w.heap.size+1+1+1) (((((((((((((((((w1.setCell ⟨w.heap.size,0,none⟩ (.slice a1 n1 c1)).setCell ⟨w.heap.size,4,none⟩ (J mo1)).setCell ⟨w.heap.size,5,none⟩ (J ba1)).setCell ⟨w.heap.size,6,none⟩ (.slice a3 n3 c3)).setCell ⟨w.heap.size,7,none⟩ (J op1)).setCell ⟨w.heap.size,8,none⟩ (J oh1)).setCell ⟨w.heap.size,9,none⟩ (J ot1)).setCell ⟨w.heap.size,10,none⟩ (.bool st1)).setCell ⟨w.heap.size,11,none⟩ (J fe1)).setCell ⟨w.heap.size,12,none⟩ (J fp1)).setCell ⟨w.heap.size,13,none⟩ (J fh1)).setCell ⟨w.heap.size,14,none⟩ (J ft1)).setCell ⟨w.heap.size,15,none⟩ (.bool lo1)).setCell ⟨w.heap.size+1+1+1+1,0,none⟩ (.bool bb)).setCell ⟨w.heap.size+1+1+1+1,1,none⟩ (.slice a4 n4 c4)).setCell ⟨w.heap.size+1+1+1+1,2,none⟩ (J f1)).setCell ⟨w.heap.size+1+1+1+1,3,none⟩ (.slice a5 n5 c5)) w'→Below w.heap.size w w'→hpE ⟨zs,⟨p,r,d⟩,⟨mo,ba,l,op,oh,ot,st,fe,fp,fh,ft,lo⟩⟩ ⟨3,num,dv,a,ct,wr,ds⟩=0→HapG bad ⟨zs,⟨p,r,d⟩,⟨mo,ba,l,op,oh,ot,st,fe,fp,fh,ft,lo⟩⟩ ⟨3,num,dv,a,ct,wr,ds⟩ w' (.slice a1 n1 c1) p (.slice ra rn rc) d mo1 ba1 op1 oh1 ot1 fe1 fp1 fh1 ft1 st1 lo1 (.slice a3 n3 c3) bb (.slice a4 n4 c4) f1 (.slice a5 n5 c5)):=fun w' hk hb h0=>
  ⟨zs1,r,l1,dat1,tch1,HG.out (HZ.out.symm.trans h0),(h1.kept K2 (fun q hq=>by have:=hFS1 q hq;omega)).kept hk (fun q hq=>by have:=hFS1 q hq;omega),HR.out.keep hb,(h3.kept K2 (fun q hq=>by have:=hFS3 q hq;omega)).kept hk (fun q hq=>by have:=hFS3 q hq;omega),(h4.kept K2 (fun q hq=>by have:=hFS4 q hq;omega)).kept hk (fun q hq=>by have:=hFS4 q hq;omega),(h5.kept K2 (fun q hq=>by have:=hFS5 q hq;omega)).kept hk (fun q hq=>by have:=hFS5 q hq;omega),hFS1.off (fun q hb=>by have:=HN.out q hb;omega),F2.out,hFS3.off (fun q hb=>by have:=HN.out q hb;omega),hFS4.off (fun q hb=>by have:=HN.out q hb;omega),hFS5.off (fun q hb=>by have:=HN.out q hb;omega)⟩
 have Y0:Box (((((((((((((((((w1.setCell ⟨w.heap.size,0,none⟩ (.slice a1 n1 c1)).setCell ⟨w.heap.size,4,none⟩ (J mo1)).setCell ⟨w.heap.size,5,none⟩ (J ba1)).setCell ⟨w.heap.size,6,none⟩ (.slice a3 n3 c3)).setCell ⟨w.heap.size,7,none⟩ (J op1)).setCell ⟨w.heap.size,8,none⟩ (J oh1)).setCell ⟨w.heap.size,9,none⟩ (J ot1)).setCell ⟨w.heap.size,10,none⟩ (.bool st1)).setCell ⟨w.heap.size,11,none⟩ (J fe1)).setCell ⟨w.heap.size,12,none⟩ (J fp1)).setCell ⟨w.heap.size,13,none⟩ (J fh1)).setCell ⟨w.heap.size,14,none⟩ (J ft1)).setCell ⟨w.heap.size,15,none⟩ (.bool lo1)).setCell ⟨w.heap.size+1+1+1+1,0,none⟩ (.bool bb)).setCell ⟨w.heap.size+1+1+1+1,1,none⟩ (.slice a4 n4 c4)).setCell ⟨w.heap.size+1+1+1+1,2,none⟩ (J f1)).setCell ⟨w.heap.size+1+1+1+1,3,none⟩ (.slice a5 n5 c5)) w.heap.size 33 (rM (.slice a1 n1 c1) p (.slice ra rn rc) d mo1 ba1 (.slice a3 n3 c3) op1 oh1 ot1 st1 fe1 fp1 fh1 ft1 lo1):=((((((X0.set 0 _).setBrM _ _ _ _ _ _ _ _ _ _ _ _).other (p:=⟨w.heap.size+1+1+1+1,0,none⟩) (by dsimp only;omega) _).other (p:=⟨w.heap.size+1+1+1+1,1,none⟩) (by dsimp only;omega) _).other (p:=⟨w.heap.size+1+1+1+1,2,none⟩) (by dsimp only;omega) _).other (p:=⟨w.heap.size+1+1+1+1,3,none⟩) (by dsimp only;omega) _)
 have Y2:=X2.kept K2 (by omega)
 have Y3:=X3.kept K2 (by omega)
 have Y4:Box (((((((((((((((((w1.setCell ⟨w.heap.size,0,none⟩ (.slice a1 n1 c1)).setCell ⟨w.heap.size,4,none⟩ (J mo1)).setCell ⟨w.heap.size,5,none⟩ (J ba1)).setCell ⟨w.heap.size,6,none⟩ (.slice a3 n3 c3)).setCell ⟨w.heap.size,7,none⟩ (J op1)).setCell ⟨w.heap.size,8,none⟩ (J oh1)).setCell ⟨w.heap.size,9,none⟩ (J ot1)).setCell ⟨w.heap.size,10,none⟩ (.bool st1)).setCell ⟨w.heap.size,11,none⟩ (J fe1)).setCell ⟨w.heap.size,12,none⟩ (J fp1)).setCell ⟨w.heap.size,13,none⟩ (J fh1)).setCell ⟨w.heap.size,14,none⟩ (J ft1)).setCell ⟨w.heap.size,15,none⟩ (.bool lo1)).setCell ⟨w.heap.size+1+1+1+1,0,none⟩ (.bool bb)).setCell ⟨w.heap.size+1+1+1+1,1,none⟩ (.slice a4 n4 c4)).setCell ⟨w.heap.size+1+1+1+1,2,none⟩ (J f1)).setCell ⟨w.heap.size+1+1+1+1,3,none⟩ (.slice a5 n5 c5)) (w.heap.size+1+1+1+1) 40 #[.bool bb,.slice a4 n4 c4,J f1,.slice a5 n5 c5]:=(X4.kept K3 (by omega)).set4 _ _ _ _
 have mk:=X0.marksOf
 obtain⟨⟨i0,i1,i2,i3⟩,⟨j0,j1,j2,j3,j4,j5,j6,j7,j8,j9,j10,j11⟩,s0⟩:=X0.sixteen
 obtain⟨y0,y1,y2,y3,f10,f11,f12,f13,s4⟩:=X4.four
 have n04:¬w.heap.size=w.heap.size+1+1+1+1:=by omega
 have n40:¬w.heap.size+1+1+1+1=w.heap.size:=by omega
 clear h1 h3 h4 h5 hF1 hF3 hF4 hF5 hFS1 hFS3 hFS4 hFS5 b1 X0 X1 X2 X3 X4 K2 K3
 go_upto_region 12 with fail
 clear mk y0 y1 y2 y3 f10 f11 f12 f13 s4
 clear i0 i1 i2 i3 j0 j1 j2 j3 j4 j5 j6 j7 j8 j9 j10 j11 s0
 generalize (((((((((((((((((w1.setCell ⟨w.heap.size,0,none⟩ (.slice a1 n1 c1)).setCell ⟨w.heap.size,4,none⟩ (J mo1)).setCell ⟨w.heap.size,5,none⟩ (J ba1)).setCell ⟨w.heap.size,6,none⟩ (.slice a3 n3 c3)).setCell ⟨w.heap.size,7,none⟩ (J op1)).setCell ⟨w.heap.size,8,none⟩ (J oh1)).setCell ⟨w.heap.size,9,none⟩ (J ot1)).setCell ⟨w.heap.size,10,none⟩ (.bool st1)).setCell ⟨w.heap.size,11,none⟩ (J fe1)).setCell ⟨w.heap.size,12,none⟩ (J fp1)).setCell ⟨w.heap.size,13,none⟩ (J fh1)).setCell ⟨w.heap.size,14,none⟩ (J ft1)).setCell ⟨w.heap.size,15,none⟩ (.bool lo1)).setCell ⟨w.heap.size+1+1+1+1,0,none⟩ (.bool bb)).setCell ⟨w.heap.size+1+1+1+1,1,none⟩ (.slice a4 n4 c4)).setCell ⟨w.heap.size+1+1+1+1,2,none⟩ (J f1)).setCell ⟨w.heap.size+1+1+1+1,3,none⟩ (.slice a5 n5 c5))=w2 at *
 have X0:=Y0
 have X2:=Y2
 have X3:=Y3
 have X4:=Y4
 clear Y0 Y2 Y3 Y4 n04 n40
 obtain⟨⟨i0,i1,i2,i3⟩,⟨j0,j1,j2,j3,j4,j5,j6,j7,j8,j9,j10,j11⟩,s0⟩:=X0.sixteen
 obtain⟨⟨q0,q1,q2,q3⟩,⟨g0,g1,g2,g3,g4,g5,g6,g7,g8,g9,g10,g11⟩,s2⟩:=X2.sixteen
 have mk:=X2.marksOf
 obtain⟨t0,t1,t2,t3,mf0,mf1,mf2,mf3,s3⟩:=X3.four
 obtain⟨z0,z1,z2,z3,-,-,-,-,s4⟩:=X4.four
 clear X0 X2 X3 X4
 have n02:¬w.heap.size=w.heap.size+1+1:=by omega
 have n03:¬w.heap.size=w.heap.size+1+1+1:=by omega
 have n20:¬w.heap.size+1+1=w.heap.size:=by omega
 have n23:¬w.heap.size+1+1=w.heap.size+1+1+1:=by omega
 have n24:¬w.heap.size+1+1=w.heap.size+1+1+1+1:=by omega
 have n30:¬w.heap.size+1+1+1=w.heap.size:=by omega
 have n32:¬w.heap.size+1+1+1=w.heap.size+1+1:=by omega
 have n34:¬w.heap.size+1+1+1=w.heap.size+1+1+1+1:=by omega
 have n42:¬w.heap.size+1+1+1+1=w.heap.size+1+1:=by omega
 have n43:¬w.heap.size+1+1+1+1=w.heap.size+1+1+1:=by omega
 go_region
 all_goals
  go_wp2
  refine bodyPost_ret (v:=.tuple #[.agg (rM (.slice a1 n1 c1) p (.slice ra rn rc) d mo1 ba1 (.slice a3 n3 c3) op1 oh1 ot1 st1 fe1 fp1 fh1 ft1 lo1),.agg #[.bool bb,.slice a4 n4 c4,J f1,.slice a5 n5 c5],J z]) (by simp[results,Tryz.results35,go_sem, *]) rfl ⟨⟨_,_,_,_,_,_,_,_,_,_,_,_,_,_,_,_,_,_,_,_,_,_,_,_,_,_,_,_,_,_,cK HZ.out.symm,fun h0=>PH.out _ ?_ ?_ h0⟩,?_⟩
  ·(repeat (first|with_reducible exact KeptB.refl _ _|with_reducible refine KeptB.drew ?_|with_reducible refine KeptB.alloc ?_ _|(with_reducible refine KeptB.setCell ?_ ?_ _;rotate_left;(focus (dsimp only;omega)))))
  ·(repeat (first|with_reducible exact B2.out|with_reducible refine Below.drew ?_|(with_reducible refine aX ?_ ?_ _ _ _ _ _ _ _ _ _ _ _ _ _ _ _ _;(focus omega))|(with_reducible refine aZ ?_ ?_ _ _ _ _;(focus omega))|(with_reducible refine aI ?_ ?_ _;(focus (dsimp only;omega)))))
  ·(repeat (first|with_reducible exact B2.out|with_reducible refine Below.drew ?_|(with_reducible refine aX ?_ ?_ _ _ _ _ _ _ _ _ _ _ _ _ _ _ _ _;(focus omega))|(with_reducible refine aZ ?_ ?_ _ _ _ _;(focus omega))|(with_reducible refine aI ?_ ?_ _;(focus (dsimp only;omega)))))
theorem sP (v:Value)(l:List Ln)(n:Int)(w:World)(h:Ls w v l)(hn:¬(0≤n∧n<l.length)):
  Calls Tryz.prog 68 #[v,J n] w fun e w'=>e=.returned (.tuple #[.slice none 0 0,J 4])∧w'=w:=by
 obtain⟨va,vk,rfl,-⟩:=h.shape
 go_enter Tryz.func68,Tryz.ntmps68
 by_cases h0:n<0
 ·go_wp2
  refine bodyPost_ret (v:=.tuple #[.slice none 0 0,J 4]) (by simp[results,Tryz.results68]) rfl ⟨rfl,rfl⟩
 ·have h1:(l.length:Int)≤n:=by omega
  clear hn
  go_wp2
  refine bodyPost_ret (v:=.tuple #[.slice none 0 0,J 4]) (by simp[results,Tryz.results68]) rfl ⟨rfl,rfl⟩
set_option maxRecDepth 10000 in
set_option maxHeartbeats 4000000 in
theorem uI (v:Value)(l:List Ln)(K:Nat)(w:World)(h:Ls w v l)(hK:K<l.length)(h6:l.length≤6):
  Calls Tryz.prog 68 #[v,J K] w fun e w'=>∃a c,e=.returned (.tuple #[.slice a (l.eraseIdx K).length c,J 0])∧Ls w' (.slice a (l.eraseIdx K).length c) (l.eraseIdx K)∧Fresh w.heap.size (.slice a (l.eraseIdx K).length c)∧Below w.heap.size w w':=by
 have HL:Hid (Ls w v l):=h
 obtain⟨va,vk,rfl,-⟩:=h.shape
 obtain⟨lb,lo',hva⟩:∃lb lo',va=some ⟨lb,lo',none⟩:=by
  obtain⟨a',c',e,-,-,q⟩:=HL.out
  simp only[Value.slice.injEq] at e
  rcases q with q|⟨b',o',q,-⟩
  ·rw[q] at hK;simp at hK
  ·exact⟨b',o',by rw[e.1,q]⟩
 subst hva
 have hvk:l.length≤vk∧vk≤maxLen:=by
  obtain⟨a',c',e,q1,q2,-⟩:=HL.out
  simp only[Value.slice.injEq] at e
  rw[e.2.2];exact⟨q1,q2⟩
 obtain⟨hv1,hv2⟩:=hvk
 unfold maxLen at hv2
 have hKv:K≤vk:=by omega
 have hK1:K+1≤l.length:=by omega
 have hK2:(0:Int)≤(K:Int)+1:=by omega
 have hK3:(K:Int)+1≤(l.length:Int):=by omega
 have hK4:(K:Int)<(l.length:Int):=by omega
 have hwK:IntKind.i64.wrap ((K:Int)+1)=(K:Int)+1:=by rw[IntKind.wrap_i64];omega
 clear h
 go_enter Tryz.func68,Tryz.ntmps68
 go_wp2_with fail
 refine wp_region_held_drew (S:=fun w'=>Below w.heap.size w w') (by kernel_rfl) (Below.drew (Below.refl _ _)) (fun hHeld=>?_)
 refine tkH 1 rfl ?_
 refine tkH 2 rfl ?_
 refine tkH 3 rfl ?_
 refine tkH 5 rfl ?_
 refine tkH 6 rfl ?_
 refine tkH 7 rfl ?_
 refine tkH 8 rfl ?_
 obtain⟨ad,had⟩:∃ad:Option Addr,(if vk=K+1 then some ⟨lb,lo',none⟩ else some ⟨lb,lo'+(K+1)*5,none⟩)=ad:=⟨_,rfl⟩
 rw[had]
 have HAD:Hid ((if vk=K+1 then some ⟨lb,lo',none⟩ else some ⟨lb,lo'+(K+1)*5,none⟩)=ad):=had
 clear had
 refine aE (i:=0) (by kernel_rfl) (by rfl) (fun K' hK'=>?_)
 go_simp
 refine hK'.out _ _ ?_ (fun hHeld2=>?_)
 ·exact aA hHeld _
 clear hK' K'
 have H1:Hid (OwnL (w.drew.alloc (.cells #[] 52)) w.heap.size (.slice (some ⟨w.heap.size,0,none⟩) 0 0) []):=OwnL.lit w.drew w.heap.size (Nat.le_refl _)
 refine aE (i:=4) (by kernel_rfl) (by rfl) (fun K' hK'=>?_)
 refine bQ rfl (.tmp 14) (.tmp 17) rfl w.heap.size _ _ [] (l.take K) rfl rfl H1.out ((HL.out.keep hHeld2).take (by omega)) (by simp;omega) (by simp) (.inl ⟨_,_,_,rfl⟩) ?_
 intro g cap w2 hO2 hgr hb hat
 have hHeld3:Below w.heap.size w w2:=gO hHeld2 H1.out hgr
 have hmin:min K l.length=K:=by omega
 have htk:(l.take K).length=K:=by rw[List.length_take,hmin]
 have hO2:OwnL w2 w.heap.size (.slice (some ⟨g,0,none⟩) K cap) (l.take K):=by
  have q:=hO2
  rw[List.nil_append,htk] at q
  exact q
 go_simp
 refine hK'.out _ _ hHeld3 (fun _=>?_)
 clear hK' K' hat hb hgr
 refine aE (i:=9) (by kernel_rfl) (by rfl) (fun K' hK'=>?_)
 have qe:=(HL.out.keep hHeld3).cutEnd hK1
 rw[HAD.out] at qe
 have hlt:(l.take K).length+(l.drop (K+1)).length≤1000:=by simp;omega
 have hd:(l.drop (K+1)).length=l.length-(K+1):=by simp
 refine bQ rfl (.tmp 18) (.tmp 22) rfl w.heap.size _ _ (l.take K) (l.drop (K+1)) rfl rfl hO2 qe hlt hHeld3.size (.inl ⟨_,_,_,rfl⟩) ?_
 intro g2 cap2 w3 hO3 hgr hb hat
 have hHeld4:Below w.heap.size w w3:=gO hHeld3 hO2 hgr
 have hER:l.take K++l.drop (K+1)=l.eraseIdx K:=(List.eraseIdx_eq_take_drop_succ l K).symm
 rw[hER] at hO3 ⊢
 have HO:Hid (OwnL w3 w.heap.size (.slice (some ⟨g2,0,none⟩) (l.eraseIdx K).length cap2) (l.eraseIdx K)):=hO3
 have HB:Hid (Below w.heap.size w w3):=hHeld4
 go_simp
 refine hK'.out _ _ hHeld4 (fun _=>?_)
 clear hK' K' hat hb hgr hER hlt hd qe hmin htk hO2 hO3 hHeld hHeld2 hHeld3
 have hHeld:=hHeld4
 clear hHeld4
 refine tkH 10 rfl ?_
 refine tkH 11 rfl ?_
 refine wpAnyH_done (by kernel_rfl) ?_ _
 go_wp2
 refine bodyPost_ret (v:=.tuple #[.slice (some ⟨g2,0,none⟩) (l.eraseIdx K).length cap2,J 0]) (by simp[results,Tryz.results68]) rfl ⟨_,_,rfl,HO.out.ls,HO.out.base,HB.out⟩
set_option maxRecDepth 10000 in
set_option maxHeartbeats 8000000 in
theorem nL (v:Value)(zs:List Int)(p:Int)(u:Value)(r:List Int)(d:Bool)(mo ba op oh ot fe fp fh ft:Int)(st lo:Bool)(vc:Value)(l:List Ln)(kd num dv a ct:Int)(wr:Bool)(y:Value)(ds:List Int)(bad:Nat→Prop)(w:World)(hs:Sl w v zs)(hr:Sl w u r)(h:Ls w vc l)(hd:Sl w y ds)(hE:chkM ⟨zs,⟨p,r,d⟩,⟨mo,ba,l,op,oh,ot,st,fe,fp,fh,ft,lo⟩⟩=0)(hN:∀q,bad q→q<w.heap.size)(f1:Off bad v)(f2:Off bad u)(f3:Off bad vc)(hk:kd=4)(hne:0≤num∧num<l.length):
  Calls Tryz.prog 35 #[.agg (rM v p u d mo ba vc op oh ot st fe fp fh ft lo),.agg #[J kd,J num,J dv,J a,J ct,.bool wr,y]] w fun e w'=>HapC bad ⟨zs,⟨p,r,d⟩,⟨mo,ba,l,op,oh,ot,st,fe,fp,fh,ft,lo⟩⟩ ⟨kd,num,dv,a,ct,wr,ds⟩ e w'∧Below w.heap.size w w':=by
 subst hk
 obtain⟨K,rfl⟩:∃K:Nat,num=K:=⟨num.toNat,by omega⟩
 have HM:Hid (Sl w v zs):=hs
 have HR:Hid (Sl w u r):=hr
 have HL:Hid (Ls w vc l):=h
 have HD:Hid (Sl w y ds):=hd
 have HE:Hid (chkM _=0):=hE
 have HN:Hid (∀q,bad q→q<w.heap.size):=hN
 have F1:Hid (Off bad v):=f1
 have F2:Hid (Off bad u):=f2
 have F3:Hid (Off bad vc):=f3
 obtain⟨ma,mn,mc,rfl⟩:∃a k c,v=.slice a k c:=let ⟨a,c,e,_⟩:=hs;⟨a,_,c,e⟩
 obtain⟨ra,rn,rc,rfl⟩:∃a k c,u=.slice a k c:=let ⟨a,c,e,_⟩:=hr;⟨a,_,c,e⟩
 obtain⟨va,vn,vk,rfl⟩:∃a k c,vc=.slice a k c:=let ⟨a,c,e,_⟩:=h;⟨a,_,c,e⟩
 obtain⟨da,dn,dc,rfl⟩:∃a k c,y=.slice a k c:=let ⟨a,c,e,_⟩:=hd;⟨a,_,c,e⟩
 clear hs hr h hd hE hN f1 f2 f3
 have X0:=((((Box.newAt (w:=w) (n:=w.heap.size) rfl 33 (rM (.slice ma mn mc) p (.slice ra rn rc) d mo ba (.slice va vn vk) op oh ot st fe fp fh ft lo)).past (.cells #[J 4,J K,J dv,J a,J ct,.bool wr,.slice da dn dc] 37)).past (.cells zM 33)).past (.cells zT 40)).past (.cells zT 40)
 have X1:=(((Box.newAt (w:=(w.alloc (.cells (rM (.slice ma mn mc) p (.slice ra rn rc) d mo ba (.slice va vn vk) op oh ot st fe fp fh ft lo) 33))) (n:=w.heap.size+1) (by simp) 37 #[J 4,J K,J dv,J a,J ct,.bool wr,.slice da dn dc]).past (.cells zM 33)).past (.cells zT 40)).past (.cells zT 40)
 have X2:=((Box.newAt (w:=((w.alloc (.cells (rM (.slice ma mn mc) p (.slice ra rn rc) d mo ba (.slice va vn vk) op oh ot st fe fp fh ft lo) 33)).alloc (.cells #[J 4,J K,J dv,J a,J ct,.bool wr,.slice da dn dc] 37))) (n:=w.heap.size+1+1) (by simp) 33 zM).past (.cells zT 40)).past (.cells zT 40)
 have X3:=(Box.newAt (w:=(((w.alloc (.cells (rM (.slice ma mn mc) p (.slice ra rn rc) d mo ba (.slice va vn vk) op oh ot st fe fp fh ft lo) 33)).alloc (.cells #[J 4,J K,J dv,J a,J ct,.bool wr,.slice da dn dc] 37)).alloc (.cells zM 33))) (n:=w.heap.size+1+1+1) (by simp) 40 zT).past (.cells zT 40)
 have X4:=Box.newAt (w:=((((w.alloc (.cells (rM (.slice ma mn mc) p (.slice ra rn rc) d mo ba (.slice va vn vk) op oh ot st fe fp fh ft lo) 33)).alloc (.cells #[J 4,J K,J dv,J a,J ct,.bool wr,.slice da dn dc] 37)).alloc (.cells zM 33)).alloc (.cells zT 40))) (n:=w.heap.size+1+1+1+1) (by simp) 40 zT
 have BW:Hid (Below w.heap.size w (((((w.alloc (.cells (rM (.slice ma mn mc) p (.slice ra rn rc) d mo ba (.slice va vn vk) op oh ot st fe fp fh ft lo) 33)).alloc (.cells #[J 4,J K,J dv,J a,J ct,.bool wr,.slice da dn dc] 37)).alloc (.cells zM 33)).alloc (.cells zT 40)).alloc (.cells zT 40))):=aA (aA (aA (aA (aA (Below.refl w.heap.size w) _) _) _) _) _
 have hsz:(((((w.alloc (.cells (rM (.slice ma mn mc) p (.slice ra rn rc) d mo ba (.slice va vn vk) op oh ot st fe fp fh ft lo) 33)).alloc (.cells #[J 4,J K,J dv,J a,J ct,.bool wr,.slice da dn dc] 37)).alloc (.cells zM 33)).alloc (.cells zT 40)).alloc (.cells zT 40)).heap.size=w.heap.size+1+1+1+1+1:=by simp
 go_enter Tryz.func35,Tryz.ntmps35
 go_upto_region 2 with fail
 generalize (((((w.alloc (.cells (rM (.slice ma mn mc) p (.slice ra rn rc) d mo ba (.slice va vn vk) op oh ot st fe fp fh ft lo) 33)).alloc (.cells #[J 4,J K,J dv,J a,J ct,.bool wr,.slice da dn dc] 37)).alloc (.cells zM 33)).alloc (.cells zT 40)).alloc (.cells zT 40))=W at *
 have HSZ:Hid (W.heap.size=w.heap.size+1+1+1+1+1):=hsz
 clear hsz
 obtain⟨⟨k0,k1,k2,k3,k4,k5,k6⟩,sH⟩:=X1.seven
 have hK:K<l.length:=by omega
 have HZ:Hid (hpE ⟨zs,⟨p,r,d⟩,⟨mo,ba,l,op,oh,ot,st,fe,fp,fh,ft,lo⟩⟩ ⟨4,(K:Int),dv,a,ct,wr,ds⟩=0):=by show _=_;rw[hpE,if_pos HE.out];dsimp only;rw[if_neg (by decide),if_neg (by decide),if_neg (by decide),if_pos rfl,if_pos hne]
 have h6:l.length≤6:=by
  obtain⟨-,-,q⟩:=bW HE.out
  have q:=aW.1 (bK q).2.2.2.1
  exact q.1
 obtain⟨⟨i0,i1,i2,i3⟩,⟨j0,j1,j2,j3,j4,j5,j6,j7,j8,j9,j10,j11⟩,s0⟩:=X0.sixteen
 go_wp2_with fail
 refine (uI _ l K _ (HL.out.keep BW.out) hK h6).mono ?_
 rintro e w1 ⟨a9,c9,rfl,hO,hF,b1⟩
 clear hne h6 hK
 clear i0 i1 i2 i3 j0 j1 j2 j3 j4 j5 j6 j7 j8 j9 j10 j11 s0
 clear k0 k1 k2 k3 k4 k5 k6 sH
 have HG:Hid (hpR ⟨zs,⟨p,r,d⟩,⟨mo,ba,l,op,oh,ot,st,fe,fp,fh,ft,lo⟩⟩ ⟨4,(K:Int),dv,a,ct,wr,ds⟩=(⟨zs,⟨p,r,d⟩,⟨mo,ba,l.eraseIdx K,op,oh,ot,st,fe,fp,fh,ft,lo⟩⟩,⟨false,[],0,[]⟩)):=by
  show _=_
  rw[hpR,if_pos HZ.out,hpG]
  dsimp only
  rw[if_neg (by decide),if_neg (by decide),if_neg (by decide)]
  rfl
 obtain⟨ll,hll⟩:∃ll,l.eraseIdx K=ll:=⟨_,rfl⟩
 rw[hll] at HG hO hF ⊢
 clear hll
 obtain⟨ln9,hln⟩:∃k,ll.length=k:=⟨_,rfl⟩
 rw[hln] at hO hF ⊢
 clear hln
 have hFS:Fresh (w.heap.size+1+1+1+1+1) (.slice a9 ln9 c9):=by rw[←HSZ.out];exact hF
 have hWz:=HSZ.out
 have hW1:W.heap.size≤w1.heap.size:=b1.size
 have X0:=X0.keep b1
 have X2:=X2.keep b1
 have X3:=X3.keep b1
 have X4:=X4.keep b1
 have B1:Hid (Below w.heap.size w w1):=aB BW.out b1
 have K2:KeptB (fun q=>q=w.heap.size) w1 (w1.setCell ⟨w.heap.size,6,none⟩ (.slice a9 ln9 c9)):=by
  (repeat (first|with_reducible exact KeptB.refl _ _|with_reducible refine KeptB.drew ?_|with_reducible refine KeptB.alloc ?_ _|(with_reducible refine KeptB.setCell ?_ ?_ _;rotate_left;(focus (dsimp only;omega)))))
 have B2:Hid (Below w.heap.size w (w1.setCell ⟨w.heap.size,6,none⟩ (.slice a9 ln9 c9))):=aI (p:=⟨w.heap.size,6,none⟩) (Nat.le_refl _) B1.out _
 have PH:Hid (∀w',KeptB (fun q=>q=w.heap.size+1+1∨q=w.heap.size+1+1+1) (w1.setCell ⟨w.heap.size,6,none⟩ (.slice a9 ln9 c9)) w'→Below w.heap.size w w'→hpE ⟨zs,⟨p,r,d⟩,⟨mo,ba,l,op,oh,ot,st,fe,fp,fh,ft,lo⟩⟩ ⟨4,(K:Int),dv,a,ct,wr,ds⟩=0→HapG bad ⟨zs,⟨p,r,d⟩,⟨mo,ba,l,op,oh,ot,st,fe,fp,fh,ft,lo⟩⟩ ⟨4,(K:Int),dv,a,ct,wr,ds⟩ w' (.slice ma mn mc) p (.slice ra rn rc) d mo ba op oh ot fe fp fh ft st lo (.slice a9 ln9 c9) false (.slice none 0 0) 0 (.slice none 0 0)):=fun w' hk hb _=>
  ⟨zs,r,ll,[],[],HG.out,HM.out.keep hb,HR.out.keep hb,(hO.kept K2 (fun q hq=>by have:=hFS q hq;omega)).kept hk (fun q hq=>by have:=hFS q hq;omega),Sl.nil _ none 0,Ts.nothing _,F1.out,F2.out,hFS.off (fun q hb=>by have:=HN.out q hb;omega),Off.none _ 0 0,Off.none _ 0 0⟩
 have Y0:Box (w1.setCell ⟨w.heap.size,6,none⟩ (.slice a9 ln9 c9)) w.heap.size 33 (rM (.slice ma mn mc) p (.slice ra rn rc) d mo ba (.slice a9 ln9 c9) op oh ot st fe fp fh ft lo):=X0.set 6 _
 have Y2:=X2.kept K2 (by omega)
 have Y3:=X3.kept K2 (by omega)
 have Y4:=X4.kept K2 (by omega)
 have mk:=X0.marksOf
 obtain⟨⟨i0,i1,i2,i3⟩,⟨j0,j1,j2,j3,j4,j5,j6,j7,j8,j9,j10,j11⟩,s0⟩:=X0.sixteen
 go_upto_region 12 with fail
 clear mk
 clear i0 i1 i2 i3 j0 j1 j2 j3 j4 j5 j6 j7 j8 j9 j10 j11 s0
 clear X0 X1 X2 X3 X4 K2 hO hF hFS b1
 generalize (w1.setCell ⟨w.heap.size,6,none⟩ (.slice a9 ln9 c9))=w2 at *
 have X0:=Y0
 have X2:=Y2
 have X3:=Y3
 have X4:=Y4
 clear Y0 Y2 Y3 Y4
 obtain⟨⟨i0,i1,i2,i3⟩,⟨j0,j1,j2,j3,j4,j5,j6,j7,j8,j9,j10,j11⟩,s0⟩:=X0.sixteen
 obtain⟨⟨q0,q1,q2,q3⟩,⟨g0,g1,g2,g3,g4,g5,g6,g7,g8,g9,g10,g11⟩,s2⟩:=X2.sixteen
 have mk:=X2.marksOf
 obtain⟨t0,t1,t2,t3,mf0,mf1,mf2,mf3,s3⟩:=X3.four
 obtain⟨z0,z1,z2,z3,-,-,-,-,s4⟩:=X4.four
 clear X0 X2 X3 X4
 have n02:¬w.heap.size=w.heap.size+1+1:=by omega
 have n03:¬w.heap.size=w.heap.size+1+1+1:=by omega
 have n20:¬w.heap.size+1+1=w.heap.size:=by omega
 have n23:¬w.heap.size+1+1=w.heap.size+1+1+1:=by omega
 have n24:¬w.heap.size+1+1=w.heap.size+1+1+1+1:=by omega
 have n30:¬w.heap.size+1+1+1=w.heap.size:=by omega
 have n32:¬w.heap.size+1+1+1=w.heap.size+1+1:=by omega
 have n34:¬w.heap.size+1+1+1=w.heap.size+1+1+1+1:=by omega
 have n42:¬w.heap.size+1+1+1+1=w.heap.size+1+1:=by omega
 have n43:¬w.heap.size+1+1+1+1=w.heap.size+1+1+1:=by omega
 go_region
 all_goals
  go_wp2
  refine bodyPost_ret (v:=.tuple #[.agg (rM (.slice ma mn mc) p (.slice ra rn rc) d mo ba (.slice a9 ln9 c9) op oh ot st fe fp fh ft lo),.agg zT,J 0]) (by simp[results,Tryz.results35,go_sem, *]) rfl ⟨⟨_,_,_,_,_,_,_,_,_,_,_,_,_,_,_,_,_,_,_,_,_,_,_,_,_,_,_,_,_,_,cK HZ.out.symm,fun h0=>PH.out _ ?_ ?_ h0⟩,?_⟩
  ·(repeat (first|with_reducible exact KeptB.refl _ _|with_reducible refine KeptB.drew ?_|with_reducible refine KeptB.alloc ?_ _|(with_reducible refine KeptB.setCell ?_ ?_ _;rotate_left;(focus (dsimp only;omega)))))
  ·(repeat (first|with_reducible exact B2.out|with_reducible refine Below.drew ?_|(with_reducible refine aX ?_ ?_ _ _ _ _ _ _ _ _ _ _ _ _ _ _ _ _;(focus omega))|(with_reducible refine aZ ?_ ?_ _ _ _ _;(focus omega))|(with_reducible refine aI ?_ ?_ _;(focus (dsimp only;omega)))))
  ·(repeat (first|with_reducible exact B2.out|with_reducible refine Below.drew ?_|(with_reducible refine aX ?_ ?_ _ _ _ _ _ _ _ _ _ _ _ _ _ _ _ _;(focus omega))|(with_reducible refine aZ ?_ ?_ _ _ _ _;(focus omega))|(with_reducible refine aI ?_ ?_ _;(focus (dsimp only;omega)))))
end Go.Proofs.YthlhocneggcekaaGreat
