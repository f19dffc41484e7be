/-
  Laid together: Do1.
-/
import Derived.Test.YthlhocneggcekaaGreatD17
namespace Go.Proofs.YthlhocneggcekaaGreat
open Go.RowKit
theorem pR {w:World}{g:Nat}{zs:List Int}(h:Box w g 3 (intCells zs))(hl:zs.length=512):Sl w (.slice (some ⟨g,0,none⟩) 512 512) zs:=
 bG h (bX _) hl.symm (by rw[hl];simp[maxLen])
theorem wM {d:Int}{fw:Bool}{ds:List Int}{o E x nx:Nat}{k':Int}{s:St}{c:Br}(hxE:x<E)(ho:o≤x)(hx:x=o∨x%8=0)(hn:(x/8+1)*8=nx)(hg:goT s.zs s.b d ((x/8:Nat):Int) fw=(c,k',0)):
  runW d fw ds o (E-x) x 0 s=runW d fw ds o (E-nx) nx 0 (wds d fw ds o k' (min (E-x) (8-x%8)) x ⟨s.zs,c,s.dat,s.tch⟩):=by
 rw[zP (by omega) ho hx hg]
 by_cases h:E≤nx
 ·rw[show E-x-min (E-x) (8-x%8)=0 by omega,show E-nx=0 by omega]
  rfl
 ·rw[show E-x-min (E-x) (8-x%8)=E-nx by omega,show x+min (E-x) (8-x%8)=nx by omega]
  exact aBw (.inr (.inr (by omega))) _ _
def RelD (N g M base:Nat)(d:Int)(fw:Bool)(ds:List Int)(o cnt:Nat)(mo ba op oh ot fe fp fh ft:Int)(st lo:Bool)(R:St × Int)(W:World)(x:Nat)(wx:World):Prop:=
 ∃zj lj dat tch va vk vd vt,Box wx g 3 (intCells zj)∧Box wx (N+1) 31 (rB mo ba (.slice va (List.length lj) vk) op oh ot st fe fp fh ft lo)∧Ls wx (.slice va lj.length vk) lj∧
  Box wx (M+1) 40 #[.bool false,vd,J 0,vt]∧OwnI wx base vd dat∧OwnT wx base vt tch∧
  runW d fw ds o (o+cnt-x) x 0 ⟨zj,⟨mo,ba,lj,op,oh,ot,st,fe,fp,fh,ft,lo⟩,dat,tch⟩=R∧GoodS ⟨zj,⟨mo,ba,lj,op,oh,ot,st,fe,fp,fh,ft,lo⟩,dat,tch⟩∧dat.length≤x-o∧tch.length≤x-o∧(x=o∨Fresh W.heap.size (.slice va lj.length vk))∧
  KeptB (fun q=>q=g∨q=N+1∨q=M+1) W wx
abbrev DoOut (zs:List Int)(b:Br)(d a n:Int)(fw:Bool)(ds:List Int)(w:World)(e:Ending)(w':World):Prop:=
 ∃ma1 mn1 mc1 mo1 ba1 op1 oh1 ot1 fe1 fp1 fh1 ft1 st1 lo1 va1 vk1 l1 da1 dc1 ta1 tc1 dat1 tch1 ms1 f1,e=.returned (.tuple #[.agg #[.slice ma1 mn1 mc1],.agg (rB mo1 ba1 (.slice va1 l1.length vk1) op1 oh1 ot1 st1 fe1 fp1 fh1 ft1 lo1),.agg #[.bool (decide (doE zs b d a n fw ds=0)&&decide (f1=0)),.slice da1 (List.length dat1) dc1,J f1,.slice ta1 (List.length tch1) tc1],J (doE zs b d a n fw ds)])∧
  doR zs b d a n fw ds=(⟨ms1,⟨mo1,ba1,l1,op1,oh1,ot1,st1,fe1,fp1,fh1,ft1,lo1⟩,dat1,tch1⟩,f1)∧Sl w' (.slice ma1 mn1 mc1) ms1∧Ls w' (.slice va1 l1.length vk1) l1∧Sl w' (.slice da1 dat1.length dc1) dat1∧Ts w' (.slice ta1 tch1.length tc1) tch1∧Below w.heap.size w w'∧
  Fresh w.heap.size (.slice ma1 mn1 mc1)∧Fresh w.heap.size (.slice va1 l1.length vk1)∧Fresh w.heap.size (.slice da1 dat1.length dc1)∧Fresh w.heap.size (.slice ta1 tch1.length tc1)
theorem gB {w:World}{n:Nat}(u0 u1 u2 u3 u4 u5 u6 u7 u8 u9 u10 u11:Value):
  KeptB (fun q=>q=n) w ((((((((((((w.setCell ⟨n,0,none⟩ u0).setCell ⟨n,1,none⟩ u1).setCell ⟨n,2,none⟩ u2).setCell ⟨n,3,none⟩ u3).setCell ⟨n,4,none⟩ u4).setCell ⟨n,5,none⟩ u5).setCell ⟨n,6,none⟩ u6).setCell ⟨n,7,none⟩ u7).setCell ⟨n,8,none⟩ u8).setCell ⟨n,9,none⟩ u9).setCell ⟨n,10,none⟩ u10).setCell ⟨n,11,none⟩ u11):=
 (((((((((((((KeptB.refl (fun q=>q=n) w).setCell (p:=⟨n,0,none⟩) (.inl rfl) u0).setCell (p:=⟨n,1,none⟩) (.inl rfl) u1).setCell (p:=⟨n,2,none⟩) (.inl rfl) u2).setCell (p:=⟨n,3,none⟩) (.inl rfl) u3).setCell (p:=⟨n,4,none⟩) (.inl rfl) u4).setCell (p:=⟨n,5,none⟩) (.inl rfl) u5).setCell (p:=⟨n,6,none⟩) (.inl rfl) u6).setCell (p:=⟨n,7,none⟩) (.inl rfl) u7).setCell (p:=⟨n,8,none⟩) (.inl rfl) u8).setCell (p:=⟨n,9,none⟩) (.inl rfl) u9).setCell (p:=⟨n,10,none⟩) (.inl rfl) u10).setCell (p:=⟨n,11,none⟩) (.inl rfl) u11)
theorem wN {w:World}{n:Nat}(u0 u1 u2 u3:Value):KeptB (fun q=>q=n) w ((((w.setCell ⟨n,0,none⟩ u0).setCell ⟨n,1,none⟩ u1).setCell ⟨n,2,none⟩ u2).setCell ⟨n,3,none⟩ u3):=
 ((((KeptB.refl (fun q=>q=n) w).setCell (p:=⟨n,0,none⟩) (.inl rfl) u0).setCell (p:=⟨n,1,none⟩) (.inl rfl) u1).setCell (p:=⟨n,2,none⟩) (.inl rfl) u2).setCell (p:=⟨n,3,none⟩) (.inl rfl) u3
set_option maxRecDepth 10000 in
set_option maxHeartbeats 8000000 in
theorem do_any (v:Value)(zs:List Int)(mo ba op oh ot fe fp fh ft:Int)(st lo:Bool)(vc:Value)(l:List Ln)(d a n:Int)(fw:Bool)(u:Value)(ds:List Int)(w:World)(hs:Sl w v zs)(h:Ls w vc l)(hd:Sl w u ds):
  Calls Tryz.prog 67 #[.agg #[v],.agg (rB mo ba vc op oh ot st fe fp fh ft lo),.agg #[J d,J a,J n,.bool fw,u]] w fun e w'=>DoOut zs ⟨mo,ba,l,op,oh,ot,st,fe,fp,fh,ft,lo⟩ d a n fw ds w e w':=by
 have HS:Hid (Ls w vc l):=h
 obtain⟨va,vk,rfl,-⟩:=h.shape
 have HM:Hid (Sl w v zs):=hs
 obtain⟨ma,mc,rfl⟩:=hs.shape
 have HD:Hid (Sl w u ds):=hd
 obtain⟨da,dc,rfl⟩:=hd.shape
 clear h hs hd
 go_enter Tryz.func67,Tryz.ntmps67
 go_wp2_with fail
 have B0:Hid (Below w.heap.size w _):=aA (aA (aA (aA (aA (aA (Below.refl w.heap.size w) (.cells #[.slice ma zs.length mc] 24)) (.cells (rB mo ba (.slice va l.length vk) op oh ot st fe fp fh ft lo) 31)) (.cells #[J d,J a,J n,.bool fw,.slice da ds.length dc] 35)) (.cells #[.slice none 0 0] 24)) (.cells zB 31)) (.cells zT 40)
 refine (pI _ zs mo ba op oh ot fe fp fh ft st lo (.slice va l.length vk) l d a n fw _ ds _ (HM.out.keep B0.out) (HS.out.keep B0.out) (HD.out.keep B0.out)).mono ?_
 rintro e w1 ⟨rfl,b1⟩
 have X0:=((((((Box.newAt (n:=w.heap.size) rfl 24 #[.slice ma zs.length mc]).past _).past _).past _).past _).past _).keep b1
 have X1:=(((((Box.newAt (n:=w.heap.size+1) (by simp) 31 (rB mo ba (.slice va l.length vk) op oh ot st fe fp fh ft lo)).past _).past _).past _).past _).keep b1
 have X2:=((((Box.newAt (n:=w.heap.size+1+1) (by simp) 35 #[J d,J a,J n,.bool fw,.slice da ds.length dc]).past _).past _).past _).keep b1
 have X3:=(((Box.newAt (n:=w.heap.size+1+1+1) (by simp) 24 #[.slice none 0 0]).past _).past _).keep b1
 have X4:=((Box.newAt (n:=w.heap.size+1+1+1+1) (by simp) 31 zB).past _).keep b1
 have X5:=(Box.newAt (n:=w.heap.size+1+1+1+1+1) (by simp) 40 zT).keep b1
 have B1:Hid (Below w.heap.size w w1):=aB B0.out b1
 clear b1 B0
 by_cases hE:doE zs ⟨mo,ba,l,op,oh,ot,st,fe,fp,fh,ft,lo⟩ d a n fw ds=0
 rotate_left
 ·have HR:Hid (doR zs ⟨mo,ba,l,op,oh,ot,st,fe,fp,fh,ft,lo⟩ d a n fw ds=(⟨[],B0,[],[]⟩,0)):=if_neg hE
  obtain⟨E,hEE⟩:∃E,doE zs ⟨mo,ba,l,op,oh,ot,st,fe,fp,fh,ft,lo⟩ d a n fw ds=E:=⟨_,rfl⟩
  rw[hEE] at hE ⊢
  have HEE:Hid (_=_):=hEE
  have hq:(E !=0)=true:=by simpa using hE
  have HDN:Hid (decide (E=0)=false):=decide_eq_false hE
  clear hEE hE X0 X1 X2
  obtain⟨r0,r1,s3⟩:=X3.one
  obtain⟨⟨u0,u1,u2,u3,u4,u5,u6,u7,u8,u9,u10,u11⟩,s4⟩:=X4.twelve
  obtain⟨y0,y1,y2,y3,y4,y5,y6,y7,y8,y9,y10,y11⟩:=X4.marks
  obtain⟨t0,t1,t2,t3,f0,f1,f2,f3,s5⟩:=X5.four
  go_wp2
  refine bodyPost_ret (v:=.tuple #[.agg #[.slice none 0 0],.agg zB,.agg zT,J E]) (by simp[results,Tryz.results67,go_sem, *]) rfl ⟨_,_,_,_,_,_,_,_,_,_,_,_,_,_,_,_,[],_,_,_,_,[],[],[],0,by rw[HEE.out,HDN.out];rfl,HR.out,Sl.nil _ _ _,Ls.nothing _,Sl.nil _ _ _,Ts.nothing _,?_,Fresh.none _ _ _,Fresh.none _ _ _,Fresh.none _ _ _,Fresh.none _ _ _⟩
  (repeat (first|with_reducible exact B1.out|with_reducible refine aA ?_ _|(with_reducible refine aJ ?_ ?_ _ _ _ _ _ _ _ _ _ _ _ _;(focus omega))|(with_reducible refine aI ?_ ?_ _;(focus (dsimp only;omega)))))
 have HE:Hid (doE zs ⟨mo,ba,l,op,oh,ot,st,fe,fp,fh,ft,lo⟩ d a n fw ds=0):=hE
 rw[hE]
 obtain⟨hz,hb,hc⟩:=pA hE
 obtain⟨⟨n1,n2⟩,⟨d1,d2⟩,⟨a1,a2⟩,hln,hal⟩:=lV hc
 obtain⟨o,rfl⟩:∃o:Nat,a=o:=⟨a.toNat,by omega⟩
 obtain⟨cnt,rfl⟩:∃c:Nat,n=c:=⟨n.toNat,by omega⟩
 have HR:Hid (doR zs ⟨mo,ba,l,op,oh,ot,st,fe,fp,fh,ft,lo⟩ d o cnt fw ds=runW d fw ds o cnt o 0 ⟨zs,⟨mo,ba,l,op,oh,ot,st,fe,fp,fh,ft,lo⟩,[],[]⟩):=by show _=_;rw[doR,if_pos hE];simp
 have HZ:Hid (chk zs=0∧chkB ⟨mo,ba,l,op,oh,ot,st,fe,fp,fh,ft,lo⟩=0):=⟨hz,hb⟩
 have HN:Hid (zs.length=512):=(bF hz).1
 have HDV:Hid (0≤d∧d≤7):=⟨d1,d2⟩
 have HDS:Hid (fw=true→ds.length=cnt):=by
  intro e
  rw[e,needA,if_pos rfl] at hln
  omega
 have HAL:Hid (ds.all wordB=true):=hal
 have hcn:1≤cnt:=by omega
 have hc20:cnt≤20:=by omega
 have hoc:o+cnt≤512:=by omega
 clear hE hz hb hc n1 n2 d1 d2 a1 a2 hln hal
 obtain⟨R,hR⟩:∃R,runW d fw ds o cnt o 0 ⟨zs,⟨mo,ba,l,op,oh,ot,st,fe,fp,fh,ft,lo⟩,[],[]⟩=R:=⟨_,rfl⟩
 rw[hR] at HR
 have HRW:Hid (runW d fw ds o cnt o 0 ⟨zs,⟨mo,ba,l,op,oh,ot,st,fe,fp,fh,ft,lo⟩,[],[]⟩=R):=hR
 clear hR
 obtain⟨qm,-,s0⟩:=X0.one
 go_wp2_with fail
 refine (rL _ zs _ (HM.out.keep B1.out) HN.out).mono ?_
 rintro e w2 ⟨g,rfl,hg2,hgn,b2⟩
 clear qm s0 X0
 have g1:w1.heap.size≤g:=hgn
 have X1:=(X1.keep b2).past (.cells #[.slice (some ⟨g,0,none⟩) 512 512] 24) |>.past (.cells zT 40)
 have X2:=(X2.keep b2).past (.cells #[.slice (some ⟨g,0,none⟩) 512 512] 24) |>.past (.cells zT 40)
 have X3:=(X3.keep b2).past (.cells #[.slice (some ⟨g,0,none⟩) 512 512] 24) |>.past (.cells zT 40)
 have X4:=(X4.keep b2).past (.cells #[.slice (some ⟨g,0,none⟩) 512 512] 24) |>.past (.cells zT 40)
 have h5:w.heap.size+1+1+1+1+1<w1.heap.size:=X5.lt
 have X5:=(X5.keep b2).past (.cells #[.slice (some ⟨g,0,none⟩) 512 512] 24) |>.past (.cells zT 40)
 have XG:Box ((w2.alloc (.cells #[.slice (some ⟨g,0,none⟩) 512 512] 24)).alloc (.cells zT 40)) g 3 (intCells zs):=(Box.past hg2 _).past _
 have XM:=(Box.newAt (w:=w2) rfl 24 #[.slice (some ⟨g,0,none⟩) 512 512]).past (.cells zT 40)
 have XT:=Box.newAt (w:=w2.alloc (.cells #[.slice (some ⟨g,0,none⟩) 512 512] 24)) (n:=w2.heap.size+1) (by simp) 40 zT
 have hgl:g<w2.heap.size:=Box.lt hg2
 have BW:Hid (Below w.heap.size w ((w2.alloc (.cells #[.slice (some ⟨g,0,none⟩) 512 512] 24)).alloc (.cells zT 40))):=aA (aA (aB B1.out b2) _) _
 have HW1:Hid (w.heap.size≤w1.heap.size):=B1.out.size
 clear b2 B1 hg2 hgn
 obtain⟨c0,c1,c2,c3,c4⟩:=X2.blk.five
 have s2:=X2.lt
 go_wp2_with fail
 generalize ((w2.alloc (.cells #[.slice (some ⟨g,0,none⟩) 512 512] 24)).alloc (.cells zT 40))=W at *
 have hgM:g<w2.heap.size:=hgl
 generalize w2.heap.size=M at *
 have hMW:M+1<W.heap.size:=XT.lt
 have hNg:w.heap.size+1+1+1+1+1<g:=by omega
 clear hgl h5 g1 HW1
 have HLW:Hid (Ls W (.slice va l.length vk) l):=HS.out.keep BW.out
 have HDW:Hid (Sl W (.slice da ds.length dc) ds):=HD.out.keep BW.out
 have HDB:Hid (ds=[]∨∀q,(Value.slice da ds.length dc).ownBlock=some q→q<w.heap.size):=HD.out.block
 have HR0:Hid (RelD w.heap.size g M W.heap.size d fw ds o cnt mo ba op oh ot fe fp fh ft st lo R W o W):=
  ⟨zs,l,[],[],va,vk,.slice none 0 0,.slice none 0 0,XG,X1,HLW.out,XT,OwnI.nothing _ _,OwnT.nothing _ _,by rw[show o+cnt-o=cnt by omega];exact HRW.out,HZ.out,by simp,by simp,.inl rfl,KeptB.refl _ _⟩
 clear XG X1 HLW XT HRW HZ c0 c1 c2 c3 c4 s2 HS HD HM HN
 go_loopw [14,15,16,17] (fun s14 _ _ _ wx=>∃x:Nat,s14=J x∧o≤x∧x≤o+cnt+7∧(x=o∨x%8=0)∧RelD w.heap.size g M W.heap.size d fw ds o cnt mo ba op oh ot fe fp fh ft st lo R W x wx) (fun s14 _ _ _ _=>o+cnt+8-(intOf s14).toNat)
 case atStart=>exact⟨o,rfl,Nat.le_refl _,by omega,.inl rfl,HR0.out⟩
 case round=>
  clear HR0
  obtain⟨x,rfl,hox,hxc,hxp,zj,lj,dat,tch,va,vk,vd,vt,XG,XB,hL,XT,hOI,hOT,hRun,hGood,hdl,htl,hfr,hKB⟩:=hrel
  obtain⟨da',dc',rfl⟩:=hOI.shape
  obtain⟨ta',tc',rfl⟩:=hOT.shape
  have HXP:Hid (x=o∨x%8=0):=hxp
  have HXG:Hid (Box wr g 3 (intCells zj)):=XG
  have HL:Hid (Ls wr _ lj):=hL
  have HOI:Hid (OwnI wr _ _ dat):=hOI
  have HOT:Hid (OwnT wr _ _ tch):=hOT
  have HRun:Hid (_=R):=hRun
  have HG:Hid (GoodS _):=hGood
  have HKB:Hid (KeptB _ W wr):=hKB
  have HFR:Hid (x=o∨Fresh W.heap.size (.slice va lj.length vk)):=hfr
  clear hfr
  have HZL:Hid (zj.length=512):=(bF hGood.1).1
  have XAr:=X2.kept hKB (by rintro (h|h|h) <;> omega)
  have XMr:=XM.kept hKB (by rintro (h|h|h) <;> omega)
  have X3r:=X3.kept hKB (by rintro (h|h|h) <;> omega)
  have X4r:=X4.kept hKB (by rintro (h|h|h) <;> omega)
  have X5r:=X5.kept hKB (by rintro (h|h|h) <;> omega)
  have hWr:W.heap.size≤wr.heap.size:=hKB.size
  clear hxp XG hL hOI hOT hRun hGood hKB
  by_cases hlt:x<o+cnt
  ·have hlt1:(x:Int)<(o:Int)+(cnt:Int):=by omega
   obtain⟨pg,hpg⟩:∃pg:Nat,(x:Int)/8=pg:=⟨x/8,by omega⟩
   have HPG:Hid (x/8=pg):=by show _=_;omega
   have hpg6:0≤(pg:Int)∧(pg:Int)≤63:=by omega
   obtain⟨⟨c,k',f⟩,hg⟩:∃r,goT zj ⟨mo,ba,lj,op,oh,ot,st,fe,fp,fh,ft,lo⟩ d (pg:Int) fw=r:=⟨_,rfl⟩
   have hth:thE zj ⟨mo,ba,lj,op,oh,ot,st,fe,fp,fh,ft,lo⟩ d (pg:Int)=0:=tA HG.out.1 HG.out.2 HDV.out hpg6
   obtain⟨g1,g2,g3,g4,l1,rfl⟩:=lQ hth hg
   have HTH:Hid (thE zj ⟨mo,ba,lj,op,oh,ot,st,fe,fp,fh,ft,lo⟩ d (pg:Int)=0):=hth
   have HGO:Hid (goT zj ⟨mo,ba,lj,op,oh,ot,st,fe,fp,fh,ft,lo⟩ d (pg:Int) fw=(⟨mo,ba,l1,op,oh,ot,st,fe,fp,fh,ft,lo⟩,k',f)):=hg
   have HTR:Hid (thR zj ⟨mo,ba,lj,op,oh,ot,st,fe,fp,fh,ft,lo⟩ d (pg:Int) fw=(⟨mo,ba,l1,op,oh,ot,st,fe,fp,fh,ft,lo⟩,k',f)):=by show _=_;rw[thR,if_pos hth];exact hg
   have HG1:Hid (chkB ⟨mo,ba,l1,op,oh,ot,st,fe,fp,fh,ft,lo⟩=0):=g1
   have HGB:Hid (¬f=0→l1=lj):=fun hf=>by have:=g2 hf;simp only[Br.with,Br.mk.injEq,true_and,and_true] at this;exact this
   have HK:Hid (0≤k'∧k'≤63):=g3
   have HF:Hid (0≤f∧f≤5):=g4
   clear hg hth g1 g2 g3 g4 hpg6
   obtain⟨c0,c1,c2,c3,c4⟩:=XAr.blk.five
   have sA:=XAr.lt
   obtain⟨m0,m1,sM⟩:=XMr.one
   obtain⟨⟨q0,q1,q2,q3,q4,q5,q6,q7,q8,q9,q10,q11⟩,sB⟩:=XB.twelve
   go_wp2_with fail
   refine (rK (pR HXG.out HZL.out) HL.out HTH.out HTR.out).mono ?_
   rintro e w5 ⟨va5,vk5,rfl,hL5,b5,hF5⟩
   clear c0 c1 c2 c3 c4 sA m0 m1 sM q0 q1 q2 q3 q4 q5 q6 q7 q8 q9 q10 q11 sB
   have hW5:W.heap.size≤w5.heap.size:=Nat.le_trans hWr b5.size
   have hr5:wr.heap.size≤w5.heap.size:=b5.size
   have XA5:=XAr.keep b5
   have XM5:=XMr.keep b5
   have XB5:=XB.keep b5
   have XT5:=XT.keep b5
   have X35:=X3r.keep b5
   have X45:=X4r.keep b5
   have X55:=X5r.keep b5
   have HXG5:Hid (Box w5 g 3 (intCells zj)):=HXG.out.keep b5
   have HOI5:Hid (OwnI w5 _ _ dat):=HOI.out.keep fun q hq=>b5.block q (HOI.out.lt q hq)
   have HOT5:Hid (OwnT w5 _ _ tch):=HOT.out.keep fun q hq=>b5.block q (HOT.out.lt q hq)
   have HL5:Hid (Ls w5 _ l1):=hL5
   have HF5:Hid (Fresh wr.heap.size (.slice va5 l1.length vk5)):=hF5
   have HK5:Hid (KeptB _ W w5):=HKB.out.below b5
   have HRI:Hid (∀q,(Value.slice da' dat.length dc').ownBlock=some q→q<wr.heap.size):=HOI.out.lt
   have HRT:Hid (∀q,(Value.slice ta' tch.length tc').ownBlock=some q→q<wr.heap.size):=HOT.out.lt
   clear b5 XAr XMr XB XT X3r X4r X5r HXG HOI HOT hL5 hF5 HL HKB
   have K12:KeptB (fun q=>q=w.heap.size+1) w5 ((((((((((((w5.setCell ⟨w.heap.size+1,0,none⟩ (J mo)).setCell ⟨w.heap.size+1,1,none⟩ (J ba)).setCell ⟨w.heap.size+1,2,none⟩ (.slice va5 l1.length vk5)).setCell ⟨w.heap.size+1,3,none⟩ (J op)).setCell ⟨w.heap.size+1,4,none⟩ (J oh)).setCell ⟨w.heap.size+1,5,none⟩ (J ot)).setCell ⟨w.heap.size+1,6,none⟩ (.bool st)).setCell ⟨w.heap.size+1,7,none⟩ (J fe)).setCell ⟨w.heap.size+1,8,none⟩ (J fp)).setCell ⟨w.heap.size+1,9,none⟩ (J fh)).setCell ⟨w.heap.size+1,10,none⟩ (J ft)).setCell ⟨w.heap.size+1,11,none⟩ (.bool lo)):=gB _ _ _ _ _ _ _ _ _ _ _ _
   have XA6:=XA5.kept K12 (by omega)
   have XM6:=XM5.kept K12 (by omega)
   have XT6:=XT5.kept K12 (by omega)
   have X36:=X35.kept K12 (by omega)
   have X46:=X45.kept K12 (by omega)
   have X56:=X55.kept K12 (by omega)
   have XB6:Box ((((((((((((w5.setCell ⟨w.heap.size+1,0,none⟩ (J mo)).setCell ⟨w.heap.size+1,1,none⟩ (J ba)).setCell ⟨w.heap.size+1,2,none⟩ (.slice va5 l1.length vk5)).setCell ⟨w.heap.size+1,3,none⟩ (J op)).setCell ⟨w.heap.size+1,4,none⟩ (J oh)).setCell ⟨w.heap.size+1,5,none⟩ (J ot)).setCell ⟨w.heap.size+1,6,none⟩ (.bool st)).setCell ⟨w.heap.size+1,7,none⟩ (J fe)).setCell ⟨w.heap.size+1,8,none⟩ (J fp)).setCell ⟨w.heap.size+1,9,none⟩ (J fh)).setCell ⟨w.heap.size+1,10,none⟩ (J ft)).setCell ⟨w.heap.size+1,11,none⟩ (.bool lo)) (w.heap.size+1) 31 (rB mo ba (.slice va5 l1.length vk5) op oh ot st fe fp fh ft lo):=XB5.set12 _ _ _ _ _ _ _ _ _ _ _ _
   have HXG6:Hid (Box ((((((((((((w5.setCell ⟨w.heap.size+1,0,none⟩ (J mo)).setCell ⟨w.heap.size+1,1,none⟩ (J ba)).setCell ⟨w.heap.size+1,2,none⟩ (.slice va5 l1.length vk5)).setCell ⟨w.heap.size+1,3,none⟩ (J op)).setCell ⟨w.heap.size+1,4,none⟩ (J oh)).setCell ⟨w.heap.size+1,5,none⟩ (J ot)).setCell ⟨w.heap.size+1,6,none⟩ (.bool st)).setCell ⟨w.heap.size+1,7,none⟩ (J fe)).setCell ⟨w.heap.size+1,8,none⟩ (J fp)).setCell ⟨w.heap.size+1,9,none⟩ (J fh)).setCell ⟨w.heap.size+1,10,none⟩ (J ft)).setCell ⟨w.heap.size+1,11,none⟩ (.bool lo)) g 3 (intCells zj)):=HXG5.out.kept K12 (by omega)
   have HOI6:Hid (OwnI ((((((((((((w5.setCell ⟨w.heap.size+1,0,none⟩ (J mo)).setCell ⟨w.heap.size+1,1,none⟩ (J ba)).setCell ⟨w.heap.size+1,2,none⟩ (.slice va5 l1.length vk5)).setCell ⟨w.heap.size+1,3,none⟩ (J op)).setCell ⟨w.heap.size+1,4,none⟩ (J oh)).setCell ⟨w.heap.size+1,5,none⟩ (J ot)).setCell ⟨w.heap.size+1,6,none⟩ (.bool st)).setCell ⟨w.heap.size+1,7,none⟩ (J fe)).setCell ⟨w.heap.size+1,8,none⟩ (J fp)).setCell ⟨w.heap.size+1,9,none⟩ (J fh)).setCell ⟨w.heap.size+1,10,none⟩ (J ft)).setCell ⟨w.heap.size+1,11,none⟩ (.bool lo)) _ _ dat):=HOI5.out.kept K12 (fun q hq e=>by have:=HOI5.out.base q hq;omega)
   have HOT6:Hid (OwnT ((((((((((((w5.setCell ⟨w.heap.size+1,0,none⟩ (J mo)).setCell ⟨w.heap.size+1,1,none⟩ (J ba)).setCell ⟨w.heap.size+1,2,none⟩ (.slice va5 l1.length vk5)).setCell ⟨w.heap.size+1,3,none⟩ (J op)).setCell ⟨w.heap.size+1,4,none⟩ (J oh)).setCell ⟨w.heap.size+1,5,none⟩ (J ot)).setCell ⟨w.heap.size+1,6,none⟩ (.bool st)).setCell ⟨w.heap.size+1,7,none⟩ (J fe)).setCell ⟨w.heap.size+1,8,none⟩ (J fp)).setCell ⟨w.heap.size+1,9,none⟩ (J fh)).setCell ⟨w.heap.size+1,10,none⟩ (J ft)).setCell ⟨w.heap.size+1,11,none⟩ (.bool lo)) _ _ tch):=HOT5.out.kept K12 (fun q hq e=>by have:=HOT5.out.base q hq;omega)
   have HL6:Hid (Ls ((((((((((((w5.setCell ⟨w.heap.size+1,0,none⟩ (J mo)).setCell ⟨w.heap.size+1,1,none⟩ (J ba)).setCell ⟨w.heap.size+1,2,none⟩ (.slice va5 l1.length vk5)).setCell ⟨w.heap.size+1,3,none⟩ (J op)).setCell ⟨w.heap.size+1,4,none⟩ (J oh)).setCell ⟨w.heap.size+1,5,none⟩ (J ot)).setCell ⟨w.heap.size+1,6,none⟩ (.bool st)).setCell ⟨w.heap.size+1,7,none⟩ (J fe)).setCell ⟨w.heap.size+1,8,none⟩ (J fp)).setCell ⟨w.heap.size+1,9,none⟩ (J fh)).setCell ⟨w.heap.size+1,10,none⟩ (J ft)).setCell ⟨w.heap.size+1,11,none⟩ (.bool lo)) _ l1):=HL5.out.kept K12 (fun q hq e=>by have:=HF5.out q hq;omega)
   have HK6:Hid (KeptB (fun q=>q=g∨q=w.heap.size+1∨q=M+1) W ((((((((((((w5.setCell ⟨w.heap.size+1,0,none⟩ (J mo)).setCell ⟨w.heap.size+1,1,none⟩ (J ba)).setCell ⟨w.heap.size+1,2,none⟩ (.slice va5 l1.length vk5)).setCell ⟨w.heap.size+1,3,none⟩ (J op)).setCell ⟨w.heap.size+1,4,none⟩ (J oh)).setCell ⟨w.heap.size+1,5,none⟩ (J ot)).setCell ⟨w.heap.size+1,6,none⟩ (.bool st)).setCell ⟨w.heap.size+1,7,none⟩ (J fe)).setCell ⟨w.heap.size+1,8,none⟩ (J fp)).setCell ⟨w.heap.size+1,9,none⟩ (J fh)).setCell ⟨w.heap.size+1,10,none⟩ (J ft)).setCell ⟨w.heap.size+1,11,none⟩ (.bool lo))):=HK5.out.trans K12 (fun q _ h=>.inr (.inl h))
   have hW6:w5.heap.size≤((((((((((((w5.setCell ⟨w.heap.size+1,0,none⟩ (J mo)).setCell ⟨w.heap.size+1,1,none⟩ (J ba)).setCell ⟨w.heap.size+1,2,none⟩ (.slice va5 l1.length vk5)).setCell ⟨w.heap.size+1,3,none⟩ (J op)).setCell ⟨w.heap.size+1,4,none⟩ (J oh)).setCell ⟨w.heap.size+1,5,none⟩ (J ot)).setCell ⟨w.heap.size+1,6,none⟩ (.bool st)).setCell ⟨w.heap.size+1,7,none⟩ (J fe)).setCell ⟨w.heap.size+1,8,none⟩ (J fp)).setCell ⟨w.heap.size+1,9,none⟩ (J fh)).setCell ⟨w.heap.size+1,10,none⟩ (J ft)).setCell ⟨w.heap.size+1,11,none⟩ (.bool lo)).heap.size:=K12.size
   clear K12 HXG5 HOI5 HOT5 HL5 HK5 XA5 XM5 XT5 X35 X45 X55
   obtain⟨⟨q0,q1,q2,q3,q4,q5,q6,q7,q8,q9,q10,q11⟩,sB⟩:=XB5.twelve
   obtain⟨y0,y1,y2,y3,y4,y5,y6,y7,y8,y9,y10,y11⟩:=XB5.marks
   go_upto_region 11 with fail
   clear q0 q1 q2 q3 q4 q5 q6 q7 q8 q9 q10 q11 sB y0 y1 y2 y3 y4 y5 y6 y7 y8 y9 y10 y11 XB5
   generalize ((((((((((((w5.setCell ⟨w.heap.size+1,0,none⟩ (J mo)).setCell ⟨w.heap.size+1,1,none⟩ (J ba)).setCell ⟨w.heap.size+1,2,none⟩ (.slice va5 l1.length vk5)).setCell ⟨w.heap.size+1,3,none⟩ (J op)).setCell ⟨w.heap.size+1,4,none⟩ (J oh)).setCell ⟨w.heap.size+1,5,none⟩ (J ot)).setCell ⟨w.heap.size+1,6,none⟩ (.bool st)).setCell ⟨w.heap.size+1,7,none⟩ (J fe)).setCell ⟨w.heap.size+1,8,none⟩ (J fp)).setCell ⟨w.heap.size+1,9,none⟩ (J fh)).setCell ⟨w.heap.size+1,10,none⟩ (J ft)).setCell ⟨w.heap.size+1,11,none⟩ (.bool lo))=w6 at *
   have HLB:Hid (∀q,(Value.slice va5 l1.length vk5).ownBlock=some q→wr.heap.size≤q):=HF5.out
   by_cases hf:f=0
   ·subst hf
    have HSD6:Hid (Sl w6 (.slice da ds.length dc) ds):=HDW.out.keptO HK6.out (HDB.out.imp id fun h q hq=>by have:=h q hq;rintro (e|e|e) <;> omega)
    obtain⟨nx,hnx⟩:∃nx,(x/8+1)*8=nx:=⟨_,rfl⟩
    have HNX:Hid ((x/8+1)*8=nx):=hnx
    have hnx1:x<nx:=by omega
    have hnx2:nx≤x+8:=by omega
    have hnx3:nx%8=0:=by omega
    clear hnx
    obtain⟨c0,c1,c2,c3,c4⟩:=XA6.blk.five
    have sA:=XA6.lt
    obtain⟨m0,m1,sM⟩:=XM6.one
    obtain⟨t0,t1,t2,t3,f0,f1,f2,f3,sT⟩:=XT6.four
    go_wp2_with fail
    refine (mU g zj d o cnt fw _ ds x k' false _ dat 0 _ tch W.heap.size ⟨mo,ba,l1,op,oh,ot,st,fe,fp,fh,ft,lo⟩ _ HXG6.out HZL.out (by omega) (by omega) HSD6.out (HDB.out.imp id fun h q hq=>by have:=h q hq;exact⟨by omega,by omega⟩) HOI6.out HOT6.out HK.out hoc hox hlt HDS.out (by omega) (by omega)).mono ?_
    rintro e w7 ⟨zn,datn,tchn,vd7,vt7,rfl,hwd,XG7,hOI7,hOT7,hrd,hrt,hK7⟩
    obtain⟨da7,dc7,rfl⟩:=hOI7.shape
    obtain⟨ta7,tc7,rfl⟩:=hOT7.shape
    clear c0 c1 c2 c3 c4 sA m0 m1 sM t0 t1 t2 t3 f0 f1 f2 f3 sT
    have hmy:∀n,n<W.heap.size→n≠g→¬(n=g∨(Value.slice da' dat.length dc').ownBlock=some n∨(Value.slice ta' tch.length tc').ownBlock=some n):=by
     rintro n hn hng (h|h|h)
     ·exact hng h
     ·have:=HOI6.out.base n h;omega
     ·have:=HOT6.out.base n h;omega
    have XT7:=XT6.kept hK7 (hmy _ (by omega) (by omega))
    have XB7:=XB6.kept hK7 (hmy _ (by omega) (by omega))
    have HXG7:Hid (Box w7 g 3 (intCells zn)):=XG7
    have HOI7:Hid (OwnI w7 _ _ datn):=hOI7
    have HOT7:Hid (OwnT w7 _ _ tchn):=hOT7
    have HL7:Hid (Ls w7 _ l1):=HL6.out.kept hK7 (by
     rintro q hq (h|h|h)
     ·have:=HLB.out q hq;omega
     ·have:=HLB.out q hq;have:=HRI.out q h;omega
     ·have:=HLB.out q hq;have:=HRT.out q h;omega)
    have HK7:Hid (KeptB (fun q=>q=g∨q=w.heap.size+1∨q=M+1) W w7):=HK6.out.trans hK7 (by
     rintro q hq (h|h|h)
     ·exact .inl h
     ·have:=HOI6.out.base q h;omega
     ·have:=HOT6.out.base q h;omega)
    have hW7:W.heap.size≤w7.heap.size:=HK7.out.size
    have HWD:Hid (_=_):=hwd
    clear hmy hwd hrd hrt hK7 XG7 hOI7 hOT7 XT6 XB6 XA6 XM6 X36 X46 X56 HXG6 HOI6 HOT6 HL6 HK6 HSD6 HLB
    have K4:KeptB (fun q=>q=M+1) w7 ((((w7.setCell ⟨M+1,0,none⟩ (.bool false)).setCell ⟨M+1,1,none⟩ (.slice da7 datn.length dc7)).setCell ⟨M+1,2,none⟩ (J 0)).setCell ⟨M+1,3,none⟩ (.slice ta7 tchn.length tc7)):=wN _ _ _ _
    have HREL:Hid (RelD w.heap.size g M W.heap.size d fw ds o cnt mo ba op oh ot fe fp fh ft st lo R W nx ((((w7.setCell ⟨M+1,0,none⟩ (.bool false)).setCell ⟨M+1,1,none⟩ (.slice da7 datn.length dc7)).setCell ⟨M+1,2,none⟩ (J 0)).setCell ⟨M+1,3,none⟩ (.slice ta7 tchn.length tc7))):=by
     have hws:=uY (d:=d) (wr:=fw) (ds:=ds) (o:=o) (k:=k') (min (o+cnt-x) (8-x%8)) x ⟨zj,⟨mo,ba,l1,op,oh,ot,st,fe,fp,fh,ft,lo⟩,dat,tch⟩
     have hwt:=qQ (d:=d) (wr:=fw) (ds:=ds) (o:=o) (k:=k') (min (o+cnt-x) (8-x%8)) x ⟨zj,⟨mo,ba,l1,op,oh,ot,st,fe,fp,fh,ft,lo⟩,dat,tch⟩
     have hgd:=qO (d:=d) (wr:=fw) (ds:=ds) (o:=o) (k:=k') (min (o+cnt-x) (8-x%8)) x ⟨zj,⟨mo,ba,l1,op,oh,ot,st,fe,fp,fh,ft,lo⟩,dat,tch⟩ ⟨HG.out.1,HG1.out⟩ (fun i hi e=>iY HAL.out (by have:=HDS.out e;omega))
     rw[HWD.out] at hws hwt hgd
     simp only at hws hwt
     refine⟨zn,l1,datn,tchn,va5,vk5,_,_,HXG7.out.kept K4 (by omega),XB7.kept K4 (by omega),HL7.out.kept K4 (fun q hq e=>by have:=HF5.out q hq;omega),XT7.set4 _ _ _ _,HOI7.out.kept K4 (fun q hq e=>by have:=HOI7.out.base q hq;omega),HOT7.out.kept K4 (fun q hq e=>by have:=HOT7.out.base q hq;omega),?_,hgd,?_,by have:=HNX.out;omega,.inr (HF5.out.mono hWr),HK7.out.trans K4 (fun q _ h=>.inr (.inr h))⟩
     ·have hpn:=wM (d:=d) (fw:=fw) (ds:=ds) (o:=o) (E:=o+cnt) (x:=x) (nx:=nx) (k':=k') (s:=⟨zj,⟨mo,ba,lj,op,oh,ot,st,fe,fp,fh,ft,lo⟩,dat,tch⟩) (c:=⟨mo,ba,l1,op,oh,ot,st,fe,fp,fh,ft,lo⟩) hlt hox HXP.out HNX.out (by rw[HPG.out];exact HGO.out)
      simp only at hpn
      rw[HWD.out] at hpn
      rw[←hpn];exact HRun.out
     ·have:=HNX.out
      cases fw <;> simp at hwt <;> omega
    obtain⟨t0,t1,t2,t3,f0,f1,f2,f3,sT⟩:=XT7.four
    go_wp2_with fail
    refine (gJ (x:=x) (by omega) HNX.out).mono ?_
    rintro e w8 ⟨rfl,rfl⟩
    go_wp2
    exact⟨⟨nx,rfl,by omega,by omega,.inr hnx3,HREL.out⟩,by simp[intOf];omega⟩
   ·have hpg6:0≤(pg:Int)∧(pg:Int)≤63:=by omega
    have HTE:Hid (tlE zj ⟨mo,ba,l1,op,oh,ot,st,fe,fp,fh,ft,lo⟩ f d (pg:Int)=0):=by
     show _=_
     rw[tlE,if_pos (dW HG.out.1 HG1.out),fE,if_pos ⟨by have:=HF.out;omega,HDV.out,hpg6⟩]
    obtain⟨ms,hms⟩:∃ms,tlM zj ⟨mo,ba,l1,op,oh,ot,st,fe,fp,fh,ft,lo⟩ f d (pg:Int) fw=ms:=⟨_,rfl⟩
    obtain⟨⟨mo2,ba2,l2,op2,oh2,ot2,st2,fe2,fp2,fh2,ft2,lo2⟩,hBB⟩:∃BB,tlB zj ⟨mo,ba,l1,op,oh,ot,st,fe,fp,fh,ft,lo⟩ f d (pg:Int)=BB:=⟨_,rfl⟩
    have HRR:Hid (R=(⟨ms,⟨mo2,ba2,l2,op2,oh2,ot2,st2,fe2,fp2,fh2,ft2,lo2⟩,dat,tch⟩,f)):=by
     show _=_
     rw[←HRun.out,show o+cnt-x=(o+cnt-x-1)+1 by omega,iJ (s:=⟨zj,⟨mo,ba,lj,op,oh,ot,st,fe,fp,fh,ft,lo⟩,dat,tch⟩) (c:=⟨mo,ba,l1,op,oh,ot,st,fe,fp,fh,ft,lo⟩) (k':=k') (f:=f) HXP.out (by rw[HPG.out];exact HGO.out) hf]
     simp only[HPG.out,hms,hBB]
    have HMS:Hid (_=ms):=hms
    have HBB:Hid (_=_):=hBB
    have hfq:(f !=0)=true:=by simpa using hf
    clear hms hBB hpg6
    have K1:KeptB (fun q=>q=M+1) w6 (w6.setCell ⟨M+1,2,none⟩ (J f)):=(KeptB.refl (fun q=>q=M+1) w6).setCell (p:=⟨M+1,2,none⟩) (.inl rfl) _
    have XT7:Box (w6.setCell ⟨M+1,2,none⟩ (J f)) (M+1) 40 #[.bool false,.slice da' dat.length dc',J f,.slice ta' tch.length tc']:=XT6.set 2 _
    have XA7:=XA6.kept K1 (by omega)
    have XM7:=XM6.kept K1 (by omega)
    have XB7:=XB6.kept K1 (by omega)
    have X37:=X36.kept K1 (by omega)
    have X47:=X46.kept K1 (by omega)
    have X57:=X56.kept K1 (by omega)
    have HXG7:Hid (Box (w6.setCell ⟨M+1,2,none⟩ (J f)) g 3 (intCells zj)):=HXG6.out.kept K1 (by omega)
    have HL7:Hid (Ls (w6.setCell ⟨M+1,2,none⟩ (J f)) _ l1):=HL6.out.kept K1 (fun q hq e=>by have:=HLB.out q hq;omega)
    have HI7:Hid (OwnI (w6.setCell ⟨M+1,2,none⟩ (J f)) _ _ dat):=HOI6.out.kept K1 (fun q hq e=>by have:=HOI6.out.base q hq;omega)
    have HT7:Hid (OwnT (w6.setCell ⟨M+1,2,none⟩ (J f)) _ _ tch):=HOT6.out.kept K1 (fun q hq e=>by have:=HOT6.out.base q hq;omega)
    have HK7:Hid (KeptB (fun q=>q=g∨q=w.heap.size+1∨q=M+1) W (w6.setCell ⟨M+1,2,none⟩ (J f))):=HK6.out.trans K1 (fun q _ h=>.inr (.inr h))
    obtain⟨c0,c1,c2,c3,c4⟩:=XA6.blk.five
    have sA:=XA6.lt
    obtain⟨m0,m1,sM⟩:=XM6.one
    obtain⟨⟨q0,q1,q2,q3,q4,q5,q6,q7,q8,q9,q10,q11⟩,sB⟩:=XB6.twelve
    obtain⟨t0,t1,t2,t3,f0,f1,f2,f3,sT⟩:=XT6.four
    have nMA:¬M+1=w.heap.size+1:=by omega
    have nMB:¬M+1=w.heap.size+1+1:=by omega
    clear K1
    go_wp2_with fail
    clear c0 c1 c2 c3 c4 sA m0 m1 sM q0 q1 q2 q3 q4 q5 q6 q7 q8 q9 q10 q11 sB t0 t1 t2 t3 f0 f1 f2 f3 sT XA6 XM6 XB6 X36 X46 X56 XT6 HXG6 HL6 HOI6 HOT6 HK6 XA7 nMB
    generalize (w6.setCell ⟨M+1,2,none⟩ (J f))=w7 at *
    have hW7:W.heap.size≤w7.heap.size:=HK7.out.size
    refine (aAj (pR HXG7.out HZL.out) HL7.out HTE.out HBB.out HMS.out).mono ?_
    rintro e w8 ⟨ma8,mc8,va2,vk2,rfl,hS8,hL8,b8,hFm,hFl⟩
    have B8:Hid (Below w.heap.size w w8):=(BW.out.trans (HK7.out.low (B:=w.heap.size) (by omega) (by rintro q hq (h|h|h) <;> omega))).trans (b8.mono (by omega))
    have XT8:=XT7.keep b8
    have XM8:=XM7.keep b8
    have XB8:=XB7.keep b8
    have X38:=X37.keep b8
    have X48:=X47.keep b8
    have X58:=X57.keep b8
    have HI8:Hid (OwnI w8 _ _ dat):=HI7.out.keep fun q hq=>b8.block q (HI7.out.lt q hq)
    have HT8:Hid (OwnT w8 _ _ tch):=HT7.out.keep fun q hq=>b8.block q (HT7.out.lt q hq)
    have HFM:Hid (Fresh W.heap.size (.slice ma8 ms.length mc8)):=hFm.mono hW7
    have HFL:Hid (Fresh W.heap.size (.slice va2 l2.length vk2)):=hFl.mono hW7
    have HS8:Hid (Sl w8 _ ms):=hS8
    have HL8:Hid (Ls w8 _ l2):=hL8
    clear b8 hFm hFl hS8 hL8 XT7 XM7 XB7 X37 X47 X57 HI7 HT7 HK7 HXG7 HL7 HTE HBB HMS
    obtain⟨m0,m1,sM⟩:=XM8.one
    obtain⟨⟨q0,q1,q2,q3,q4,q5,q6,q7,q8,q9,q10,q11⟩,sB⟩:=XB8.twelve
    obtain⟨y0,y1,y2,y3,y4,y5,y6,y7,y8,y9,y10,y11⟩:=XB8.marks
    have nMB:¬M=w.heap.size+1:=by omega
    go_upto_region 14 with fail
    clear m0 m1 sM q0 q1 q2 q3 q4 q5 q6 q7 q8 q9 q10 q11 sB y0 y1 y2 y3 y4 y5 y6 y7 y8 y9 y10 y11
    have K9:KeptB (fun q=>q=M∨q=w.heap.size+1) w8 (((((((((((((w8.setCell ⟨M,0,none⟩ (.slice ma8 ms.length mc8)).setCell ⟨w.heap.size+1,0,none⟩ (J mo2)).setCell ⟨w.heap.size+1,1,none⟩ (J ba2)).setCell ⟨w.heap.size+1,2,none⟩ (.slice va2 l2.length vk2)).setCell ⟨w.heap.size+1,3,none⟩ (J op2)).setCell ⟨w.heap.size+1,4,none⟩ (J oh2)).setCell ⟨w.heap.size+1,5,none⟩ (J ot2)).setCell ⟨w.heap.size+1,6,none⟩ (.bool st2)).setCell ⟨w.heap.size+1,7,none⟩ (J fe2)).setCell ⟨w.heap.size+1,8,none⟩ (J fp2)).setCell ⟨w.heap.size+1,9,none⟩ (J fh2)).setCell ⟨w.heap.size+1,10,none⟩ (J ft2)).setCell ⟨w.heap.size+1,11,none⟩ (.bool lo2)):=((KeptB.refl (fun q=>q=M∨q=w.heap.size+1) w8).setCell (p:=⟨M,0,none⟩) (.inl (.inl rfl)) _).trans (gB _ _ _ _ _ _ _ _ _ _ _ _) (fun q _ h=>.inr h)
    have XM9:Box (((((((((((((w8.setCell ⟨M,0,none⟩ (.slice ma8 ms.length mc8)).setCell ⟨w.heap.size+1,0,none⟩ (J mo2)).setCell ⟨w.heap.size+1,1,none⟩ (J ba2)).setCell ⟨w.heap.size+1,2,none⟩ (.slice va2 l2.length vk2)).setCell ⟨w.heap.size+1,3,none⟩ (J op2)).setCell ⟨w.heap.size+1,4,none⟩ (J oh2)).setCell ⟨w.heap.size+1,5,none⟩ (J ot2)).setCell ⟨w.heap.size+1,6,none⟩ (.bool st2)).setCell ⟨w.heap.size+1,7,none⟩ (J fe2)).setCell ⟨w.heap.size+1,8,none⟩ (J fp2)).setCell ⟨w.heap.size+1,9,none⟩ (J fh2)).setCell ⟨w.heap.size+1,10,none⟩ (J ft2)).setCell ⟨w.heap.size+1,11,none⟩ (.bool lo2)) M 24 #[.slice ma8 ms.length mc8]:=(XM8.set1 _).other12 (by omega) _ _ _ _ _ _ _ _ _ _ _ _
    have XB9:Box (((((((((((((w8.setCell ⟨M,0,none⟩ (.slice ma8 ms.length mc8)).setCell ⟨w.heap.size+1,0,none⟩ (J mo2)).setCell ⟨w.heap.size+1,1,none⟩ (J ba2)).setCell ⟨w.heap.size+1,2,none⟩ (.slice va2 l2.length vk2)).setCell ⟨w.heap.size+1,3,none⟩ (J op2)).setCell ⟨w.heap.size+1,4,none⟩ (J oh2)).setCell ⟨w.heap.size+1,5,none⟩ (J ot2)).setCell ⟨w.heap.size+1,6,none⟩ (.bool st2)).setCell ⟨w.heap.size+1,7,none⟩ (J fe2)).setCell ⟨w.heap.size+1,8,none⟩ (J fp2)).setCell ⟨w.heap.size+1,9,none⟩ (J fh2)).setCell ⟨w.heap.size+1,10,none⟩ (J ft2)).setCell ⟨w.heap.size+1,11,none⟩ (.bool lo2)) (w.heap.size+1) 31 (rB mo2 ba2 (.slice va2 l2.length vk2) op2 oh2 ot2 st2 fe2 fp2 fh2 ft2 lo2):=(XB8.other (p:=⟨M,0,none⟩) (by dsimp only;omega) _).set12 _ _ _ _ _ _ _ _ _ _ _ _
    have XT9:=XT8.kept K9 (by omega)
    have X39:=X38.kept K9 (by omega)
    have X49:=X48.kept K9 (by omega)
    have X59:=X58.kept K9 (by omega)
    have HS9:Hid (Sl (((((((((((((w8.setCell ⟨M,0,none⟩ (.slice ma8 ms.length mc8)).setCell ⟨w.heap.size+1,0,none⟩ (J mo2)).setCell ⟨w.heap.size+1,1,none⟩ (J ba2)).setCell ⟨w.heap.size+1,2,none⟩ (.slice va2 l2.length vk2)).setCell ⟨w.heap.size+1,3,none⟩ (J op2)).setCell ⟨w.heap.size+1,4,none⟩ (J oh2)).setCell ⟨w.heap.size+1,5,none⟩ (J ot2)).setCell ⟨w.heap.size+1,6,none⟩ (.bool st2)).setCell ⟨w.heap.size+1,7,none⟩ (J fe2)).setCell ⟨w.heap.size+1,8,none⟩ (J fp2)).setCell ⟨w.heap.size+1,9,none⟩ (J fh2)).setCell ⟨w.heap.size+1,10,none⟩ (J ft2)).setCell ⟨w.heap.size+1,11,none⟩ (.bool lo2)) (.slice ma8 ms.length mc8) ms):=HS8.out.kept K9 (fun q hq=>by have:=HFM.out q hq;omega)
    have HS9B:Hid (∀q,(Value.slice ma8 ms.length mc8).ownBlock=some q→¬(q=w.heap.size+1+1+1∨q=w.heap.size+1+1+1+1∨q=w.heap.size+1+1+1+1+1)):=fun q hq=>by have:=HFM.out q hq;omega
    have HL9:Hid (Ls (((((((((((((w8.setCell ⟨M,0,none⟩ (.slice ma8 ms.length mc8)).setCell ⟨w.heap.size+1,0,none⟩ (J mo2)).setCell ⟨w.heap.size+1,1,none⟩ (J ba2)).setCell ⟨w.heap.size+1,2,none⟩ (.slice va2 l2.length vk2)).setCell ⟨w.heap.size+1,3,none⟩ (J op2)).setCell ⟨w.heap.size+1,4,none⟩ (J oh2)).setCell ⟨w.heap.size+1,5,none⟩ (J ot2)).setCell ⟨w.heap.size+1,6,none⟩ (.bool st2)).setCell ⟨w.heap.size+1,7,none⟩ (J fe2)).setCell ⟨w.heap.size+1,8,none⟩ (J fp2)).setCell ⟨w.heap.size+1,9,none⟩ (J fh2)).setCell ⟨w.heap.size+1,10,none⟩ (J ft2)).setCell ⟨w.heap.size+1,11,none⟩ (.bool lo2)) (.slice va2 l2.length vk2) l2):=HL8.out.kept K9 (fun q hq=>by have:=HFL.out q hq;omega)
    have HL9B:Hid (∀q,(Value.slice va2 l2.length vk2).ownBlock=some q→¬(q=w.heap.size+1+1+1∨q=w.heap.size+1+1+1+1∨q=w.heap.size+1+1+1+1+1)):=fun q hq=>by have:=HFL.out q hq;omega
    have HI9:Hid (OwnI (((((((((((((w8.setCell ⟨M,0,none⟩ (.slice ma8 ms.length mc8)).setCell ⟨w.heap.size+1,0,none⟩ (J mo2)).setCell ⟨w.heap.size+1,1,none⟩ (J ba2)).setCell ⟨w.heap.size+1,2,none⟩ (.slice va2 l2.length vk2)).setCell ⟨w.heap.size+1,3,none⟩ (J op2)).setCell ⟨w.heap.size+1,4,none⟩ (J oh2)).setCell ⟨w.heap.size+1,5,none⟩ (J ot2)).setCell ⟨w.heap.size+1,6,none⟩ (.bool st2)).setCell ⟨w.heap.size+1,7,none⟩ (J fe2)).setCell ⟨w.heap.size+1,8,none⟩ (J fp2)).setCell ⟨w.heap.size+1,9,none⟩ (J fh2)).setCell ⟨w.heap.size+1,10,none⟩ (J ft2)).setCell ⟨w.heap.size+1,11,none⟩ (.bool lo2)) W.heap.size (.slice da' dat.length dc') dat):=HI8.out.kept K9 (fun q hq=>by have:=HI8.out.base q hq;omega)
    have HT9:Hid (OwnT (((((((((((((w8.setCell ⟨M,0,none⟩ (.slice ma8 ms.length mc8)).setCell ⟨w.heap.size+1,0,none⟩ (J mo2)).setCell ⟨w.heap.size+1,1,none⟩ (J ba2)).setCell ⟨w.heap.size+1,2,none⟩ (.slice va2 l2.length vk2)).setCell ⟨w.heap.size+1,3,none⟩ (J op2)).setCell ⟨w.heap.size+1,4,none⟩ (J oh2)).setCell ⟨w.heap.size+1,5,none⟩ (J ot2)).setCell ⟨w.heap.size+1,6,none⟩ (.bool st2)).setCell ⟨w.heap.size+1,7,none⟩ (J fe2)).setCell ⟨w.heap.size+1,8,none⟩ (J fp2)).setCell ⟨w.heap.size+1,9,none⟩ (J fh2)).setCell ⟨w.heap.size+1,10,none⟩ (J ft2)).setCell ⟨w.heap.size+1,11,none⟩ (.bool lo2)) W.heap.size (.slice ta' tch.length tc') tch):=HT8.out.kept K9 (fun q hq=>by have:=HT8.out.base q hq;omega)
    have HI9F:Hid (Fresh w.heap.size (.slice da' dat.length dc')):=fun q hq=>by have:=HI8.out.base q hq;omega
    have HT9F:Hid (Fresh w.heap.size (.slice ta' tch.length tc')):=fun q hq=>by have:=HT8.out.base q hq;omega
    have B9:Hid (Below w.heap.size w (((((((((((((w8.setCell ⟨M,0,none⟩ (.slice ma8 ms.length mc8)).setCell ⟨w.heap.size+1,0,none⟩ (J mo2)).setCell ⟨w.heap.size+1,1,none⟩ (J ba2)).setCell ⟨w.heap.size+1,2,none⟩ (.slice va2 l2.length vk2)).setCell ⟨w.heap.size+1,3,none⟩ (J op2)).setCell ⟨w.heap.size+1,4,none⟩ (J oh2)).setCell ⟨w.heap.size+1,5,none⟩ (J ot2)).setCell ⟨w.heap.size+1,6,none⟩ (.bool st2)).setCell ⟨w.heap.size+1,7,none⟩ (J fe2)).setCell ⟨w.heap.size+1,8,none⟩ (J fp2)).setCell ⟨w.heap.size+1,9,none⟩ (J fh2)).setCell ⟨w.heap.size+1,10,none⟩ (J ft2)).setCell ⟨w.heap.size+1,11,none⟩ (.bool lo2))):=aJ (by omega) (aI (p:=⟨M,0,none⟩) (by dsimp only;omega) B8.out _) _ _ _ _ _ _ _ _ _ _ _ _
    clear K9 XT8 XM8 XB8 X38 X48 X58 HI8 HT8 HS8 HL8 B8
    generalize (((((((((((((w8.setCell ⟨M,0,none⟩ (.slice ma8 ms.length mc8)).setCell ⟨w.heap.size+1,0,none⟩ (J mo2)).setCell ⟨w.heap.size+1,1,none⟩ (J ba2)).setCell ⟨w.heap.size+1,2,none⟩ (.slice va2 l2.length vk2)).setCell ⟨w.heap.size+1,3,none⟩ (J op2)).setCell ⟨w.heap.size+1,4,none⟩ (J oh2)).setCell ⟨w.heap.size+1,5,none⟩ (J ot2)).setCell ⟨w.heap.size+1,6,none⟩ (.bool st2)).setCell ⟨w.heap.size+1,7,none⟩ (J fe2)).setCell ⟨w.heap.size+1,8,none⟩ (J fp2)).setCell ⟨w.heap.size+1,9,none⟩ (J fh2)).setCell ⟨w.heap.size+1,10,none⟩ (J ft2)).setCell ⟨w.heap.size+1,11,none⟩ (.bool lo2))=w9 at *
    obtain⟨m0,m1,sM⟩:=XM9.one
    obtain⟨⟨q0,q1,q2,q3,q4,q5,q6,q7,q8,q9,q10,q11⟩,sB⟩:=XB9.twelve
    obtain⟨t0,t1,t2,t3,f0,f1,f2,f3,sT⟩:=XT9.four
    obtain⟨r0,r1,s3⟩:=X39.one
    obtain⟨⟨u0,u1,u2,u3,u4,u5,u6,u7,u8,u9,u10,u11⟩,s4⟩:=X49.twelve
    obtain⟨y0,y1,y2,y3,y4,y5,y6,y7,y8,y9,y10,y11⟩:=X49.marks
    obtain⟨v0,v1,v2,v3,x0,x1,x2,x3,s5⟩:=X59.four
    clear XM9 XB9 XT9 X39 X49 X59
    have n34:¬w.heap.size+1+1+1=w.heap.size+1:=by omega
    have n35:¬w.heap.size+1+1+1+1=w.heap.size+1:=by omega
    have n36:¬w.heap.size+1+1+1+1+1=w.heap.size+1:=by omega
    have n37:¬w.heap.size+1+1+1=M:=by omega
    have n38:¬w.heap.size+1+1+1+1=M:=by omega
    have n39:¬w.heap.size+1+1+1+1+1=M:=by omega
    have n40:¬w.heap.size+1+1+1=M+1:=by omega
    have n41:¬w.heap.size+1+1+1+1=M+1:=by omega
    have n42:¬w.heap.size+1+1+1+1+1=M+1:=by omega
    go_region
    all_goals
     go_wp2
     refine bodyPost_ret (v:=.tuple #[.agg #[.slice ma8 ms.length mc8],.agg (rB mo2 ba2 (.slice va2 l2.length vk2) op2 oh2 ot2 st2 fe2 fp2 fh2 ft2 lo2),.agg #[.bool false,.slice da' dat.length dc',J f,.slice ta' tch.length tc'],J 0]) (by simp[results,Tryz.results67,go_sem, *]) rfl ⟨_,_,_,_,_,_,_,_,_,_,_,_,_,_,_,_,l2,_,_,_,_,dat,tch,ms,f,by rw[HE.out,decide_eq_false hf];rfl,HR.out.trans HRR.out,?_,?_,?_,?_,?_,HFM.out.mono (by omega),HFL.out.mono (by omega),HI9F.out,HT9F.out⟩
     ·refine HS9.out.kept (may:=fun q=>q=w.heap.size+1+1+1∨q=w.heap.size+1+1+1+1∨q=w.heap.size+1+1+1+1+1) ?_ HS9B.out
      (repeat (first|with_reducible exact KeptB.refl _ _|with_reducible refine KeptB.drew ?_|(with_reducible refine KeptB.setCell ?_ ?_ _;rotate_left;(focus (dsimp only;omega)))))
     ·refine HL9.out.kept (may:=fun q=>q=w.heap.size+1+1+1∨q=w.heap.size+1+1+1+1∨q=w.heap.size+1+1+1+1+1) ?_ HL9B.out
      (repeat (first|with_reducible exact KeptB.refl _ _|with_reducible refine KeptB.drew ?_|(with_reducible refine KeptB.setCell ?_ ?_ _;rotate_left;(focus (dsimp only;omega)))))
     ·refine (HI9.out.sl (by unfold maxLen;omega)).kept (may:=fun q=>q=w.heap.size+1+1+1∨q=w.heap.size+1+1+1+1∨q=w.heap.size+1+1+1+1+1) ?_ (fun q hq=>by have:=HI9.out.base q hq;omega)
      (repeat (first|with_reducible exact KeptB.refl _ _|with_reducible refine KeptB.drew ?_|(with_reducible refine KeptB.setCell ?_ ?_ _;rotate_left;(focus (dsimp only;omega)))))
     ·refine HT9.out.ls.kept (may:=fun q=>q=w.heap.size+1+1+1∨q=w.heap.size+1+1+1+1∨q=w.heap.size+1+1+1+1+1) ?_ (fun q hq=>by have:=HT9.out.base q hq;omega)
      (repeat (first|with_reducible exact KeptB.refl _ _|with_reducible refine KeptB.drew ?_|(with_reducible refine KeptB.setCell ?_ ?_ _;rotate_left;(focus (dsimp only;omega)))))
     ·(repeat (first|with_reducible exact B9.out|with_reducible refine Below.drew ?_|(with_reducible refine aJ ?_ ?_ _ _ _ _ _ _ _ _ _ _ _ _;(focus omega))|(with_reducible refine aI ?_ ?_ _;(focus (dsimp only;omega)))))
  ·have nlt:¬(x:Int)<(o:Int)+(cnt:Int):=by omega
   have HRR:Hid (R=(⟨zj,⟨mo,ba,lj,op,oh,ot,st,fe,fp,fh,ft,lo⟩,dat,tch⟩,0)):=by
    show _=_
    rw[←HRun.out,show o+cnt-x=0 by omega];rfl
   have HFL:Hid (Fresh W.heap.size (.slice va lj.length vk)):=HFR.out.resolve_left (by omega)
   obtain⟨t0,t1,t2,t3,f0,f1,f2,f3,sT⟩:=XT.four
   go_upto_region 17 with fail
   clear t0 t1 t2 t3 f0 f1 f2 f3 sT
   have K9:KeptB (fun q=>q=M+1) wr (wr.setCell ⟨M+1,0,none⟩ (.bool true)):=(KeptB.refl (fun q=>q=M+1) wr).setCell (p:=⟨M+1,0,none⟩) (.inl rfl) _
   have XM9:=XMr.kept K9 (by omega)
   have XB9:=XB.kept K9 (by omega)
   have XT9:Box (wr.setCell ⟨M+1,0,none⟩ (.bool true)) (M+1) 40 #[.bool true,.slice da' dat.length dc',J 0,.slice ta' tch.length tc']:=XT.set 0 _
   have X39:=X3r.kept K9 (by omega)
   have X49:=X4r.kept K9 (by omega)
   have X59:=X5r.kept K9 (by omega)
   have HS9:Hid (Sl (wr.setCell ⟨M+1,0,none⟩ (.bool true)) (.slice (some ⟨g,0,none⟩) 512 512) zj):=pR (HXG.out.kept K9 (by omega)) HZL.out
   have HS9B:Hid (∀q,(Value.slice (some ⟨g,0,none⟩) 512 512).ownBlock=some q→¬(q=w.heap.size+1+1+1∨q=w.heap.size+1+1+1+1∨q=w.heap.size+1+1+1+1+1)):=fun q hq=>by simp[Value.ownBlock] at hq;omega
   have HL9:Hid (Ls (wr.setCell ⟨M+1,0,none⟩ (.bool true)) (.slice va lj.length vk) lj):=HL.out.kept K9 (fun q hq e=>by have:=HFL.out q hq;omega)
   have HL9B:Hid (∀q,(Value.slice va lj.length vk).ownBlock=some q→¬(q=w.heap.size+1+1+1∨q=w.heap.size+1+1+1+1∨q=w.heap.size+1+1+1+1+1)):=fun q hq=>by have:=HFL.out q hq;omega
   have HI9:Hid (OwnI (wr.setCell ⟨M+1,0,none⟩ (.bool true)) W.heap.size (.slice da' dat.length dc') dat):=HOI.out.kept K9 (fun q hq=>by have:=HOI.out.base q hq;omega)
   have HT9:Hid (OwnT (wr.setCell ⟨M+1,0,none⟩ (.bool true)) W.heap.size (.slice ta' tch.length tc') tch):=HOT.out.kept K9 (fun q hq=>by have:=HOT.out.base q hq;omega)
   have HI9F:Hid (Fresh w.heap.size (.slice da' dat.length dc')):=fun q hq=>by have:=HOI.out.base q hq;omega
   have HT9F:Hid (Fresh w.heap.size (.slice ta' tch.length tc')):=fun q hq=>by have:=HOT.out.base q hq;omega
   have B9:Hid (Below w.heap.size w (wr.setCell ⟨M+1,0,none⟩ (.bool true))):=aI (p:=⟨M+1,0,none⟩) (by dsimp only;omega) (BW.out.trans (HKB.out.low (B:=w.heap.size) (by omega) (by rintro q hq (h|h|h) <;> omega))) _
   clear K9 XT XMr XB X3r X4r X5r HOI HOT HL HXG HKB XAr
   generalize (wr.setCell ⟨M+1,0,none⟩ (.bool true))=w9 at *
   obtain⟨m0,m1,sM⟩:=XM9.one
   obtain⟨⟨q0,q1,q2,q3,q4,q5,q6,q7,q8,q9,q10,q11⟩,sB⟩:=XB9.twelve
   obtain⟨t0,t1,t2,t3,f0,f1,f2,f3,sT⟩:=XT9.four
   obtain⟨r0,r1,s3⟩:=X39.one
   obtain⟨⟨u0,u1,u2,u3,u4,u5,u6,u7,u8,u9,u10,u11⟩,s4⟩:=X49.twelve
   obtain⟨y0,y1,y2,y3,y4,y5,y6,y7,y8,y9,y10,y11⟩:=X49.marks
   obtain⟨v0,v1,v2,v3,x0,x1,x2,x3,s5⟩:=X59.four
   clear XM9 XB9 XT9 X39 X49 X59
   have n34:¬w.heap.size+1+1+1=w.heap.size+1:=by omega
   have n35:¬w.heap.size+1+1+1+1=w.heap.size+1:=by omega
   have n36:¬w.heap.size+1+1+1+1+1=w.heap.size+1:=by omega
   have n37:¬w.heap.size+1+1+1=M:=by omega
   have n38:¬w.heap.size+1+1+1+1=M:=by omega
   have n39:¬w.heap.size+1+1+1+1+1=M:=by omega
   have n40:¬w.heap.size+1+1+1=M+1:=by omega
   have n41:¬w.heap.size+1+1+1+1=M+1:=by omega
   have n42:¬w.heap.size+1+1+1+1+1=M+1:=by omega
   go_region
   all_goals
    go_wp2
    refine bodyPost_ret (v:=.tuple #[.agg #[.slice (some ⟨g,0,none⟩) 512 512],.agg (rB mo ba (.slice va lj.length vk) op oh ot st fe fp fh ft lo),.agg #[.bool true,.slice da' dat.length dc',J 0,.slice ta' tch.length tc'],J 0]) (by simp[results,Tryz.results67,go_sem, *]) rfl ⟨_,_,_,_,_,_,_,_,_,_,_,_,_,_,_,_,lj,_,_,_,_,dat,tch,zj,0,by rw[HE.out];rfl,HR.out.trans HRR.out,?_,?_,?_,?_,?_,bJ (by omega) _ _ _,HFL.out.mono (by omega),HI9F.out,HT9F.out⟩
    ·refine HS9.out.kept (may:=fun q=>q=w.heap.size+1+1+1∨q=w.heap.size+1+1+1+1∨q=w.heap.size+1+1+1+1+1) ?_ HS9B.out
     (repeat (first|with_reducible exact KeptB.refl _ _|with_reducible refine KeptB.drew ?_|(with_reducible refine KeptB.setCell ?_ ?_ _;rotate_left;(focus (dsimp only;omega)))))
    ·refine HL9.out.kept (may:=fun q=>q=w.heap.size+1+1+1∨q=w.heap.size+1+1+1+1∨q=w.heap.size+1+1+1+1+1) ?_ HL9B.out
     (repeat (first|with_reducible exact KeptB.refl _ _|with_reducible refine KeptB.drew ?_|(with_reducible refine KeptB.setCell ?_ ?_ _;rotate_left;(focus (dsimp only;omega)))))
    ·refine (HI9.out.sl (by unfold maxLen;omega)).kept (may:=fun q=>q=w.heap.size+1+1+1∨q=w.heap.size+1+1+1+1∨q=w.heap.size+1+1+1+1+1) ?_ (fun q hq=>by have:=HI9.out.base q hq;omega)
     (repeat (first|with_reducible exact KeptB.refl _ _|with_reducible refine KeptB.drew ?_|(with_reducible refine KeptB.setCell ?_ ?_ _;rotate_left;(focus (dsimp only;omega)))))
    ·refine HT9.out.ls.kept (may:=fun q=>q=w.heap.size+1+1+1∨q=w.heap.size+1+1+1+1∨q=w.heap.size+1+1+1+1+1) ?_ (fun q hq=>by have:=HT9.out.base q hq;omega)
     (repeat (first|with_reducible exact KeptB.refl _ _|with_reducible refine KeptB.drew ?_|(with_reducible refine KeptB.setCell ?_ ?_ _;rotate_left;(focus (dsimp only;omega)))))
    ·(repeat (first|with_reducible exact B9.out|with_reducible refine Below.drew ?_|(with_reducible refine aJ ?_ ?_ _ _ _ _ _ _ _ _ _ _ _ _;(focus omega))|(with_reducible refine aI ?_ ?_ _;(focus (dsimp only;omega)))))
end Go.Proofs.YthlhocneggcekaaGreat
