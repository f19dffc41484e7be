/-
  Laid together: HappenedX, HappenedY, HappenedW, HappenedZ, HappenedR.
-/
import Derived.Test.YthlhocneggcekaaGreatD30
import Derived.Test.YthlhocneggcekaaGreatD31
import Derived.Test.YthlhocneggcekaaGreatD32
import Derived.Test.YthlhocneggcekaaGreatDHappenedB
namespace Go.Proofs.YthlhocneggcekaaGreat
open Go.RowKit
set_option maxRecDepth 10000 in
set_option maxHeartbeats 8000000 in
theorem aDb {m:Mc}{x:Hp}{cs ch:Array Value}{w:World}(hm:IsM w m cs)(hx:IsH w x ch)(hE:chkM m=0)(hk:¬(1≤x.kind∧x.kind≤4)):HapQ m x cs ch w:=by
 obtain⟨zs,⟨p,r,d⟩,⟨mo,ba,l,op,oh,ot,st,fe,fp,fh,ft,lo⟩⟩:=m
 obtain⟨kd,num,dv,a,ct,wr,ds⟩:=x
 dsimp only at hk
 have HM:Hid (IsM w _ cs):=hm
 have HE:Hid (chkM _=0):=hE
 obtain⟨a1,n1,c1,a2,n2,c2,a3,n3,c3,hR,h1,h2,h3⟩:=hm
 obtain⟨da,dn,dc,hH,hd⟩:=hx
 dsimp only at hR h1 h2 h3 hH hd
 have HR:Hid (cs=_):=hR
 have HH:Hid (ch=_):=hH
 have H1:Hid (Sl w _ zs):=h1
 have H2:Hid (Sl w _ r):=h2
 have H3:Hid (Ls w _ l):=h3
 have HD:Hid (Sl w _ ds):=hd
 unfold HapQ
 clear hE hR hH h1 h2 h3 hd
 go_enter Tryz.func18,Tryz.ntmps18
 go_upto_region 3 with fail
 (try simp only[Value.cells])
 rw[aCv]
 obtain⟨A,bw⟩:=aCy w cs ch
 generalize fiveW w cs ch=W at *
 have BV:Hid (Below w.heap.size w W):=bw
 have A1:=A.x1
 rw[HH.out] at A1
 obtain⟨⟨k0,k1,k2,k3,k4,k5,k6⟩,sH⟩:=A1.seven
 have A0:=A.x0
 rw[HR.out] at A0
 obtain⟨⟨i0,i1,i2,i3⟩,⟨j0,j1,j2,j3,j4,j5,j6,j7,j8,j9,j10,j11⟩,s0⟩:=A0.sixteen
 clear A0 A1 bw
 have HF:Hid (hpE ⟨zs,⟨p,r,d⟩,⟨mo,ba,l,op,oh,ot,st,fe,fp,fh,ft,lo⟩⟩ ⟨kd,num,dv,a,ct,wr,ds⟩=3∧hpR ⟨zs,⟨p,r,d⟩,⟨mo,ba,l,op,oh,ot,st,fe,fp,fh,ft,lo⟩⟩ ⟨kd,num,dv,a,ct,wr,ds⟩=_):=mH (by rw[hpE,if_pos HE.out];dsimp only;rw[if_neg (by omega),if_neg (by omega),if_neg (by omega),if_neg (by omega)]) (by decide)
 have e1:(kd==1)=false:=by simp;omega
 have e2:(kd==2)=false:=by simp;omega
 have e3:(kd==3)=false:=by simp;omega
 have e4:(kd==4)=false:=by simp;omega
 go_wp2_with fail
 refine (aCu 3 _).mono ?_
 rintro _ w9 ⟨rfl,b9⟩
 have A:=A.keep b9
 have hb:=aB BV.out b9
 go_wp2_with (first
  | fail
  | (refine wpList_store_row rfl 33 _ _ rfl _ _ rfl rfl _ _ A.x2 (by rw[infoM,aCr.1]) rfl aCr.2 ?_)
  | (refine wpList_store_row rfl 40 _ _ rfl _ _ rfl rfl _ _ (A.x3.otherRow (by omega) _) (by rw[infoTo,aCs.1]) rfl aCs.2 ?_))
 exact aCx (by rfl) (by rfl) (by rfl) A.x2 A.x3 hb HF.out.1 HF.out.2 (sC _) (oG _) (fun _ _=>jK _) (aDf _ _ _ _)
set_option maxRecDepth 10000 in
set_option maxHeartbeats 8000000 in
theorem aDc {m:Mc}{x:Hp}{cs ch:Array Value}{w:World}(hm:IsM w m cs)(hx:IsH w x ch)(hE:chkM m=0)(hk:x.kind=1)(hdn:m.h.done=true):HapQ m x cs ch w:=by
 obtain⟨zs,⟨p,r,d⟩,⟨mo,ba,l,op,oh,ot,st,fe,fp,fh,ft,lo⟩⟩:=m
 obtain⟨kd,num,dv,a,ct,wr,ds⟩:=x
 dsimp only at hk hdn
 subst hk hdn
 have HM:Hid (IsM w _ cs):=hm
 have HE:Hid (chkM _=0):=hE
 obtain⟨a1,n1,c1,a2,n2,c2,a3,n3,c3,hR,h1,h2,h3⟩:=hm
 obtain⟨da,dn,dc,hH,hd⟩:=hx
 dsimp only at hR h1 h2 h3 hH hd
 have HR:Hid (cs=_):=hR
 have HH:Hid (ch=_):=hH
 have H1:Hid (Sl w _ zs):=h1
 have H2:Hid (Sl w _ r):=h2
 have H3:Hid (Ls w _ l):=h3
 have HD:Hid (Sl w _ ds):=hd
 unfold HapQ
 clear hE hR hH h1 h2 h3 hd
 go_enter Tryz.func18,Tryz.ntmps18
 go_upto_region 3 with fail
 (try simp only[Value.cells])
 rw[aCv]
 obtain⟨A,bw⟩:=aCy w cs ch
 generalize fiveW w cs ch=W at *
 have BV:Hid (Below w.heap.size w W):=bw
 have A1:=A.x1
 rw[HH.out] at A1
 obtain⟨⟨k0,k1,k2,k3,k4,k5,k6⟩,sH⟩:=A1.seven
 have A0:=A.x0
 rw[HR.out] at A0
 obtain⟨⟨i0,i1,i2,i3⟩,⟨j0,j1,j2,j3,j4,j5,j6,j7,j8,j9,j10,j11⟩,s0⟩:=A0.sixteen
 clear A0 A1 bw
 have HF:Hid (hpE ⟨zs,⟨p,r,true⟩,⟨mo,ba,l,op,oh,ot,st,fe,fp,fh,ft,lo⟩⟩ ⟨1,num,dv,a,ct,wr,ds⟩=6∧hpR ⟨zs,⟨p,r,true⟩,⟨mo,ba,l,op,oh,ot,st,fe,fp,fh,ft,lo⟩⟩ ⟨1,num,dv,a,ct,wr,ds⟩=_):=mH (by rw[hpE,if_pos HE.out];rfl) (by decide)
 go_wp2_with fail
 refine (aCu 6 _).mono ?_
 rintro _ w9 ⟨rfl,b9⟩
 have A:=A.keep b9
 have hb:=aB BV.out b9
 go_wp2_with (first
  | fail
  | (refine wpList_store_row rfl 33 _ _ rfl _ _ rfl rfl _ _ A.x2 (by rw[infoM,aCr.1]) rfl aCr.2 ?_)
  | (refine wpList_store_row rfl 40 _ _ rfl _ _ rfl rfl _ _ (A.x3.otherRow (by omega) _) (by rw[infoTo,aCs.1]) rfl aCs.2 ?_))
 exact aCx (by rfl) (by rfl) (by rfl) A.x2 A.x3 hb HF.out.1 HF.out.2 (sC _) (oG _) (fun _ _=>jK _) (aDf _ _ _ _)
set_option maxRecDepth 10000 in
set_option maxHeartbeats 8000000 in
theorem aDd {m:Mc}{x:Hp}{cs ch:Array Value}{w:World}(hm:IsM w m cs)(hx:IsH w x ch)(hE:chkM m=0)(hk:x.kind=1)(hdn:m.h.done=false):HapQ m x cs ch w:=by
 obtain⟨zs,⟨p,r,d⟩,⟨mo,ba,l,op,oh,ot,st,fe,fp,fh,ft,lo⟩⟩:=m
 obtain⟨kd,num,dv,a,ct,wr,ds⟩:=x
 dsimp only at hk hdn
 subst hk hdn
 have HM:Hid (IsM w _ cs):=hm
 have HE:Hid (chkM _=0):=hE
 obtain⟨a1,n1,c1,a2,n2,c2,a3,n3,c3,hR,h1,h2,h3⟩:=hm
 obtain⟨da,dn,dc,hH,hd⟩:=hx
 dsimp only at hR h1 h2 h3 hH hd
 have HR:Hid (cs=_):=hR
 have HH:Hid (ch=_):=hH
 have H1:Hid (Sl w _ zs):=h1
 have H2:Hid (Sl w _ r):=h2
 have H3:Hid (Ls w _ l):=h3
 have HD:Hid (Sl w _ ds):=hd
 unfold HapQ
 clear hE hR hH h1 h2 h3 hd
 go_enter Tryz.func18,Tryz.ntmps18
 go_upto_region 3 with fail
 (try simp only[Value.cells])
 rw[aCv]
 obtain⟨A,bw⟩:=aCy w cs ch
 generalize fiveW w cs ch=W at *
 have BV:Hid (Below w.heap.size w W):=bw
 have A1:=A.x1
 rw[HH.out] at A1
 obtain⟨⟨k0,k1,k2,k3,k4,k5,k6⟩,sH⟩:=A1.seven
 have A0:=A.x0
 rw[HR.out] at A0
 obtain⟨⟨i0,i1,i2,i3⟩,⟨j0,j1,j2,j3,j4,j5,j6,j7,j8,j9,j10,j11⟩,s0⟩:=A0.sixteen
 clear A0 A1 bw
 have HST:Hid (stE zs ⟨p,r,false⟩ ⟨mo,ba,l,op,oh,ot,st,fe,fp,fh,ft,lo⟩=0):=by
  obtain⟨b1,b2,b3⟩:=bW HE.out
  exact (tB b1 b2 b3).trans rfl
 go_wp2_with fail
 refine (stepped_anyN _ zs p _ r mo ba op oh ot fe fp fh ft st lo _ l _ (H1.out.keep BV.out) (H2.out.keep BV.out) (H3.out.keep BV.out) HST.out).mono ?_
 rintro _ w1 ⟨v1,zs1,p1,u1,r1,d1,mo1,ba1,op1,ot1,fp1,fh1,st1,lo1,rfl,g1,g2,hG,fv,fu,b1⟩
 have HG:Hid (hpE ⟨zs,⟨p,r,false⟩,⟨mo,ba,l,op,oh,ot,st,fe,fp,fh,ft,lo⟩⟩ ⟨1,num,dv,a,ct,wr,ds⟩=0∧hpR ⟨zs,⟨p,r,false⟩,⟨mo,ba,l,op,oh,ot,st,fe,fp,fh,ft,lo⟩⟩ ⟨1,num,dv,a,ct,wr,ds⟩=(⟨zs1,⟨p1,r1,d1⟩,⟨mo1,ba1,l,op1,oh,ot1,st1,fe,fp1,fh1,ft,lo1⟩⟩,T0)):=by
  have e0:hpE ⟨zs,⟨p,r,false⟩,⟨mo,ba,l,op,oh,ot,st,fe,fp,fh,ft,lo⟩⟩ ⟨1,num,dv,a,ct,wr,ds⟩=0:=by rw[hpE,if_pos HE.out];rfl
  refine⟨e0,?_⟩
  rw[hpR,if_pos e0,hpG]
  dsimp only
  rw[if_pos rfl,hG]
 have hgl:Hid (_∧_):=aCz (pD HG.out.1 HG.out.2).2.1
 have NW:Hid (NewL w.heap.size ⟨zs,⟨p,r,false⟩,⟨mo,ba,l,op,oh,ot,st,fe,fp,fh,ft,lo⟩⟩ ⟨zs1,⟨p1,r1,d1⟩,⟨mo1,ba1,l,op1,oh,ot1,st1,fe,fp1,fh1,ft,lo1⟩⟩ cs (rM v1 p1 u1 d1 mo1 ba1 (.slice a3 n3 c3) op1 oh ot1 st1 fe fp1 fh1 ft lo1)):=by
  intro bad hN ho
  rw[HR.out] at ho
  have hWs:=BV.out.size
  exact offL ((ho 0 _ rfl (by omega)).orFresh (fun q hq=>Nat.lt_of_lt_of_le (hN q hq) hWs) fv) ((ho 2 _ rfl (by omega)).orFresh (fun q hq=>Nat.lt_of_lt_of_le (hN q hq) hWs) fu) (fun hl=>ho 6 _ rfl (fun _=>hl))
 obtain⟨ma1,mc1,rfl⟩:=g1.shape
 obtain⟨ua1,uc1,rfl⟩:=g2.shape
 have A:=A.keep b1
 have BV:Hid (Below w.heap.size w w1):=aB BV.out b1
 have I0:=HM.out.keep BV.out
 have IM:IsM w1 ⟨zs1,⟨p1,r1,d1⟩,⟨mo1,ba1,l,op1,oh,ot1,st1,fe,fp1,fh1,ft,lo1⟩⟩ _:=⟨_,_,_,_,_,_,_,_,_,rfl,g1,g2,H3.out.keep BV.out⟩
 clear i0 i1 i2 i3 j0 j1 j2 j3 j4 j5 j6 j7 j8 j9 j10 j11 s0 k0 k1 k2 k3 k4 k5 k6 sH hG g1 g2 b1 fv fu
 have A0:=A.x0
 rw[HR.out] at A0
 obtain⟨⟨i0,i1,i2,i3⟩,⟨j0,j1,j2,j3,j4,j5,j6,j7,j8,j9,j10,j11⟩,s0⟩:=A0.sixteen
 have mk:=A0.marksOf
 clear A0
 go_upto_region 23 with fail
 refine gen16 (motive:=fun V=>Code.wp _ _ _ _ V) (by have q:=A;rw[HR.out] at q;exact q) (Nat.le_refl _) BV.out ?_
 intro V A2 BV2 K
 have hgl:=hgl.out
 have IM:=IM.stay hgl.1 hgl.2 K (by
  rintro q (rfl|rfl)
  ·exact .inl ⟨_,_,A.x0,I0⟩
  ·exact .inr ⟨_,_,A.x4,sC _⟩)
 have A:=A2
 have BV:=BV2
 have IT:=sC V
 have OT:=oG (fun q=>q<w.heap.size+5)
 clear i0 i1 i2 i3 j0 j1 j2 j3 j4 j5 j6 j7 j8 j9 j10 j11 s0 mk A2 BV2 K I0
 have bd:=Below.drew (Below.refl V.heap.size V)
 have A:=A.keep bd
 have IM:=IM.keep bd
 have IT:=IT.keep bd
 have BV:=Below.drew BV
 have hA5:=A.lt
 obtain⟨s1,o1⟩:=IM.size
 obtain⟨s2,o2⟩:=IT.size
 refine wp_region_held_drew (S:=Sr2 w.heap.size _ _) (by kernel_rfl) ⟨A.x0,A.x4⟩ (fun hHeld=>?_)
 refine aO (i:=0) (v:=.agg _) rfl (by kernel_rfl) (by kernel_rfl) (by kernel_rfl) (fun _ _ _ h=>h) (aS (by kernel_rfl) 33 _ rfl rfl (fun _ h=>h.a.loadM s1)) (by assumption) ?_
 simp only[nmz]
 refine aO (i:=1) (v:=.agg _) rfl (by kernel_rfl) (by kernel_rfl) (by kernel_rfl) (fun _ _ _ h=>h) (aS (by kernel_rfl) 40 _ rfl rfl (fun _ h=>h.b.loadT s2)) (by assumption) ?_
 simp only[nmz]
 refine aE (i:=2) (by kernel_rfl) (by rfl) (fun K hK=>?_)
 refine aF rfl 33 _ _ rfl _ _ rfl rfl _ _ (A.x2) (by rw[infoM,s1]) (aCr.1.trans s1.symm) o1 ?_
 refine hK.out _ _ ⟨hHeld.a.otherRow (by omega) _,hHeld.b.otherRow (by omega) _⟩ (fun hHeld2=>?_)
 clear hK K hHeld
 have hHeld:=hHeld2
 clear hHeld2
 simp only[Act.put]
 refine aE (i:=3) (by kernel_rfl) (by rfl) (fun K hK=>?_)
 refine aF rfl 40 _ _ rfl _ _ rfl rfl _ _ (A.x3.otherRow (by omega) _) (by rw[infoTo,s2]) (aCs.1.trans s2.symm) o2 ?_
 refine hK.out _ _ ⟨hHeld.a.otherRow (by omega) _,hHeld.b.otherRow (by omega) _⟩ (fun hHeld2=>?_)
 clear hK K hHeld
 have hHeld:=hHeld2
 clear hHeld2
 simp only[Act.put]
 refine tkH 4 rfl ?_
 refine wpAnyH_done (by kernel_rfl) ?_ _
 go_wp2_with fail
 exact aCx (by rfl) (by rfl) (by rfl) A.x2 A.x3 BV HG.out.1 HG.out.2 IT OT (fun _ K=>IM.stay hgl.1 hgl.2 K A.own) NW.out
set_option maxRecDepth 10000 in
set_option maxHeartbeats 8000000 in
theorem aC9 {m:Mc}{x:Hp}{cs ch:Array Value}{w:World}(hm:IsM w m cs)(hx:IsH w x ch)(hE:chkM m=0)(hk:x.kind=2):HapQ m x cs ch w:=by
 obtain⟨zs,⟨p,r,d⟩,⟨mo,ba,l,op,oh,ot,st,fe,fp,fh,ft,lo⟩⟩:=m
 obtain⟨kd,num,dv,a,ct,wr,ds⟩:=x
 dsimp only at hk
 subst hk
 have HM:Hid (IsM w _ cs):=hm
 have HE:Hid (chkM _=0):=hE
 obtain⟨a1,n1,c1,a2,n2,c2,a3,n3,c3,hR,h1,h2,h3⟩:=hm
 obtain⟨da,dn,dc,hH,hd⟩:=hx
 dsimp only at hR h1 h2 h3 hH hd
 have HR:Hid (cs=_):=hR
 have HH:Hid (ch=_):=hH
 have H1:Hid (Sl w _ zs):=h1
 have H2:Hid (Sl w _ r):=h2
 have H3:Hid (Ls w _ l):=h3
 have HD:Hid (Sl w _ ds):=hd
 unfold HapQ
 clear hE hR hH h1 h2 h3 hd
 go_enter Tryz.func18,Tryz.ntmps18
 go_upto_region 3 with fail
 (try simp only[Value.cells])
 rw[aCv]
 obtain⟨A,bw⟩:=aCy w cs ch
 generalize fiveW w cs ch=W at *
 have BV:Hid (Below w.heap.size w W):=bw
 have A1:=A.x1
 rw[HH.out] at A1
 obtain⟨⟨k0,k1,k2,k3,k4,k5,k6⟩,sH⟩:=A1.seven
 have A0:=A.x0
 rw[HR.out] at A0
 obtain⟨⟨i0,i1,i2,i3⟩,⟨j0,j1,j2,j3,j4,j5,j6,j7,j8,j9,j10,j11⟩,s0⟩:=A0.sixteen
 clear A0 A1 bw
 have HK:Hid (bothB zs ⟨mo,ba,l,op,oh,ot,st,fe,fp,fh,ft,lo⟩=0):=by
  obtain⟨b1,b2,b3⟩:=bW HE.out
  exact dW b1 b3
 have HEE:Hid (hpE ⟨zs,⟨p,r,d⟩,⟨mo,ba,l,op,oh,ot,st,fe,fp,fh,ft,lo⟩⟩ ⟨2,num,dv,a,ct,wr,ds⟩=obE zs ⟨mo,ba,l,op,oh,ot,st,fe,fp,fh,ft,lo⟩):=by show _=_;rw[hpE,if_pos HE.out];rfl
 go_wp2_with fail
 refine (obeyed_anyN _ zs mo ba op oh ot fe fp fh ft st lo _ l _ (H1.out.keep BV.out) (H3.out.keep BV.out) HK.out).mono ?_
 rintro _ w1 ⟨mo1,ba1,op1,oh1,ot1,fe1,fp1,fh1,ft1,st1,lo1,va1,vk1,l1,rfl,hOB,fl,hL1,b1⟩
 have NW:Hid (NewL w.heap.size ⟨zs,⟨p,r,d⟩,⟨mo,ba,l,op,oh,ot,st,fe,fp,fh,ft,lo⟩⟩ ⟨zs,⟨p,r,d⟩,⟨mo1,ba1,l1,op1,oh1,ot1,st1,fe1,fp1,fh1,ft1,lo1⟩⟩ cs (rM (.slice a1 n1 c1) p (.slice a2 n2 c2) d mo1 ba1 (.slice va1 l1.length vk1) op1 oh1 ot1 st1 fe1 fp1 fh1 ft1 lo1)):=by
  intro bad hN ho
  rw[HR.out] at ho
  have hWs:=BV.out.size
  refine offL (ho 0 _ rfl (by omega)) (ho 2 _ rfl (by omega)) (fun hl=>?_)
  rcases fl with e|e
  ·rw[e]
   refine ho 6 _ rfl (fun _ hl0=>hl ?_)
   obtain⟨_,_,e3,-⟩:=H3.out.shape
   simp only[Value.slice.injEq] at e e3
   have hl0:l=[]:=hl0
   rw[hl0] at e3
   exact List.length_eq_zero_iff.1 (e.2.1.trans e3.2.1)
  ·exact e.off (fun q hq=>Nat.lt_of_lt_of_le (hN q hq) hWs)
 clear fl
 obtain⟨z,hz⟩:∃z,obE zs ⟨mo,ba,l,op,oh,ot,st,fe,fp,fh,ft,lo⟩=z:=⟨_,rfl⟩
 rw[hz] at HEE ⊢
 have HOB:Hid (obB zs ⟨mo,ba,l,op,oh,ot,st,fe,fp,fh,ft,lo⟩=⟨mo1,ba1,l1,op1,oh1,ot1,st1,fe1,fp1,fh1,ft1,lo1⟩):=hOB
 have A:=(A.keep b1).past (.cells (rB mo1 ba1 (.slice va1 l1.length vk1) op1 oh1 ot1 st1 fe1 fp1 fh1 ft1 lo1) 31)
 have XB:=Box.newAt (w:=w1) (n:=w1.heap.size) rfl 31 (rB mo1 ba1 (.slice va1 l1.length vk1) op1 oh1 ot1 st1 fe1 fp1 fh1 ft1 lo1)
 have ba:=aA (Below.refl w1.heap.size w1) (.cells (rB mo1 ba1 (.slice va1 l1.length vk1) op1 oh1 ot1 st1 fe1 fp1 fh1 ft1 lo1) 31)
 have L1:=hL1.keep ba
 have BV:Hid (Below w.heap.size w (w1.alloc (.cells (rB mo1 ba1 (.slice va1 l1.length vk1) op1 oh1 ot1 st1 fe1 fp1 fh1 ft1 lo1) 31))):=aB (aB BV.out b1) ba
 clear i0 i1 i2 i3 j0 j1 j2 j3 j4 j5 j6 j7 j8 j9 j10 j11 s0 k0 k1 k2 k3 k4 k5 k6 sH hz hOB hL1 b1 ba
 go_upto_region 11 with fail
 generalize (w1.alloc (.cells (rB mo1 ba1 (.slice va1 l1.length vk1) op1 oh1 ot1 st1 fe1 fp1 fh1 ft1 lo1) 31))=w3 at *
 generalize w1.heap.size=n9 at *
 by_cases hne:z=0
 rotate_left
 ·have q:(z !=0)=true:=by simpa using hne
  have HF:Hid (hpE ⟨zs,⟨p,r,d⟩,⟨mo,ba,l,op,oh,ot,st,fe,fp,fh,ft,lo⟩⟩ ⟨2,num,dv,a,ct,wr,ds⟩=z∧hpR ⟨zs,⟨p,r,d⟩,⟨mo,ba,l,op,oh,ot,st,fe,fp,fh,ft,lo⟩⟩ ⟨2,num,dv,a,ct,wr,ds⟩=_):=mH HEE.out hne
  clear hne
  go_wp2_with fail
  refine (aCu z _).mono ?_
  rintro _ w9 ⟨rfl,b9⟩
  have A:=A.keep b9
  have hb:=aB BV.out b9
  go_wp2_with (first
   | fail
   | (refine wpList_store_row rfl 33 _ _ rfl _ _ rfl rfl _ _ A.x2 (by rw[infoM,aCr.1]) rfl aCr.2 ?_)
   | (refine wpList_store_row rfl 40 _ _ rfl _ _ rfl rfl _ _ (A.x3.otherRow (by omega) _) (by rw[infoTo,aCs.1]) rfl aCs.2 ?_))
  exact aCx (by rfl) (by rfl) (by rfl) A.x2 A.x3 hb HF.out.1 HF.out.2 (sC _) (oG _) (fun _ _=>jK _) (aDf _ _ _ _)
 subst hne
 have q:((0:Int) !=0)=false:=rfl
 have HG:Hid (hpE ⟨zs,⟨p,r,d⟩,⟨mo,ba,l,op,oh,ot,st,fe,fp,fh,ft,lo⟩⟩ ⟨2,num,dv,a,ct,wr,ds⟩=0∧hpR ⟨zs,⟨p,r,d⟩,⟨mo,ba,l,op,oh,ot,st,fe,fp,fh,ft,lo⟩⟩ ⟨2,num,dv,a,ct,wr,ds⟩=(⟨zs,⟨p,r,d⟩,⟨mo1,ba1,l1,op1,oh1,ot1,st1,fe1,fp1,fh1,ft1,lo1⟩⟩,T0)):=by
  refine⟨HEE.out,?_⟩
  rw[hpR,if_pos HEE.out,hpG]
  dsimp only
  rw[if_neg (by decide),if_pos rfl,HOB.out]
  (try rfl)
 have hgl:Hid (_∧_):=aCz (pD HG.out.1 HG.out.2).2.1
 have I0:=HM.out.keep BV.out
 have IM:IsM w3 ⟨zs,⟨p,r,d⟩,⟨mo1,ba1,l1,op1,oh1,ot1,st1,fe1,fp1,fh1,ft1,lo1⟩⟩ _:=⟨_,_,_,_,_,_,_,_,_,rfl,H1.out.keep BV.out,H2.out.keep BV.out,L1⟩
 have A0:=A.x0
 rw[HR.out] at A0
 obtain⟨⟨i0,i1,i2,i3⟩,⟨j0,j1,j2,j3,j4,j5,j6,j7,j8,j9,j10,j11⟩,s0⟩:=A0.sixteen
 have mk:=A0.marksOf
 obtain⟨⟨q0,q1,q2,q3,q4,q5,q6,q7,q8,q9,q10,q11⟩,sB⟩:=XB.twelve
 clear A0 XB L1
 go_upto_region 23 with fail
 refine gen12 (motive:=fun V=>Code.wp _ _ _ _ V) (by have q:=A;rw[HR.out] at q;exact q) (Nat.le_refl _) BV.out ?_
 intro V A2 BV2 K
 have hgl:=hgl.out
 have IM:=IM.stay hgl.1 hgl.2 K (by
  rintro q (rfl|rfl)
  ·exact .inl ⟨_,_,A.x0,I0⟩
  ·exact .inr ⟨_,_,A.x4,sC _⟩)
 have A:=A2
 have BV:=BV2
 have IT:=sC V
 have OT:=oG (fun q=>q<w.heap.size+5)
 clear i0 i1 i2 i3 j0 j1 j2 j3 j4 j5 j6 j7 j8 j9 j10 j11 s0 mk A2 BV2 K I0 q0 q1 q2 q3 q4 q5 q6 q7 q8 q9 q10 q11 sB
 have bd:=Below.drew (Below.refl V.heap.size V)
 have A:=A.keep bd
 have IM:=IM.keep bd
 have IT:=IT.keep bd
 have BV:=Below.drew BV
 have hA5:=A.lt
 obtain⟨s1,o1⟩:=IM.size
 obtain⟨s2,o2⟩:=IT.size
 refine wp_region_held_drew (S:=Sr2 w.heap.size _ _) (by kernel_rfl) ⟨A.x0,A.x4⟩ (fun hHeld=>?_)
 refine aO (i:=0) (v:=.agg _) rfl (by kernel_rfl) (by kernel_rfl) (by kernel_rfl) (fun _ _ _ h=>h) (aS (by kernel_rfl) 33 _ rfl rfl (fun _ h=>h.a.loadM s1)) (by assumption) ?_
 simp only[nmz]
 refine aO (i:=1) (v:=.agg _) rfl (by kernel_rfl) (by kernel_rfl) (by kernel_rfl) (fun _ _ _ h=>h) (aS (by kernel_rfl) 40 _ rfl rfl (fun _ h=>h.b.loadT s2)) (by assumption) ?_
 simp only[nmz]
 refine aE (i:=2) (by kernel_rfl) (by rfl) (fun K hK=>?_)
 refine aF rfl 33 _ _ rfl _ _ rfl rfl _ _ (A.x2) (by rw[infoM,s1]) (aCr.1.trans s1.symm) o1 ?_
 refine hK.out _ _ ⟨hHeld.a.otherRow (by omega) _,hHeld.b.otherRow (by omega) _⟩ (fun hHeld2=>?_)
 clear hK K hHeld
 have hHeld:=hHeld2
 clear hHeld2
 simp only[Act.put]
 refine aE (i:=3) (by kernel_rfl) (by rfl) (fun K hK=>?_)
 refine aF rfl 40 _ _ rfl _ _ rfl rfl _ _ (A.x3.otherRow (by omega) _) (by rw[infoTo,s2]) (aCs.1.trans s2.symm) o2 ?_
 refine hK.out _ _ ⟨hHeld.a.otherRow (by omega) _,hHeld.b.otherRow (by omega) _⟩ (fun hHeld2=>?_)
 clear hK K hHeld
 have hHeld:=hHeld2
 clear hHeld2
 simp only[Act.put]
 refine tkH 4 rfl ?_
 refine wpAnyH_done (by kernel_rfl) ?_ _
 go_wp2_with fail
 exact aCx (by rfl) (by rfl) (by rfl) A.x2 A.x3 BV HG.out.1 HG.out.2 IT OT (fun _ K=>IM.stay hgl.1 hgl.2 K A.own) NW.out
set_option maxRecDepth 10000 in
set_option maxHeartbeats 8000000 in
theorem aDe {m:Mc}{x:Hp}{cs ch:Array Value}{w:World}(hm:IsM w m cs)(hx:IsH w x ch)(hE:chkM m=0)(hk:x.kind=3):HapQ m x cs ch w:=by
 obtain⟨zs,⟨p,r,d⟩,⟨mo,ba,l,op,oh,ot,st,fe,fp,fh,ft,lo⟩⟩:=m
 obtain⟨kd,num,dv,a,ct,wr,ds⟩:=x
 dsimp only at hk
 subst hk
 have HM:Hid (IsM w _ cs):=hm
 have HE:Hid (chkM _=0):=hE
 obtain⟨a1,n1,c1,a2,n2,c2,a3,n3,c3,hR,h1,h2,h3⟩:=hm
 obtain⟨da,dn,dc,hH,hd⟩:=hx
 dsimp only at hR h1 h2 h3 hH hd
 have HR:Hid (cs=_):=hR
 have HH:Hid (ch=_):=hH
 have H1:Hid (Sl w _ zs):=h1
 have H2:Hid (Sl w _ r):=h2
 have H3:Hid (Ls w _ l):=h3
 have HD:Hid (Sl w _ ds):=hd
 unfold HapQ
 clear hE hR hH h1 h2 h3 hd
 go_enter Tryz.func18,Tryz.ntmps18
 go_upto_region 3 with fail
 (try simp only[Value.cells])
 rw[aCv]
 obtain⟨A,bw⟩:=aCy w cs ch
 generalize fiveW w cs ch=W at *
 have BV:Hid (Below w.heap.size w W):=bw
 have A1:=A.x1
 rw[HH.out] at A1
 obtain⟨⟨k0,k1,k2,k3,k4,k5,k6⟩,sH⟩:=A1.seven
 have A0:=A.x0
 rw[HR.out] at A0
 obtain⟨⟨i0,i1,i2,i3⟩,⟨j0,j1,j2,j3,j4,j5,j6,j7,j8,j9,j10,j11⟩,s0⟩:=A0.sixteen
 clear A0 A1 bw
 have HEE:Hid (hpE ⟨zs,⟨p,r,d⟩,⟨mo,ba,l,op,oh,ot,st,fe,fp,fh,ft,lo⟩⟩ ⟨3,num,dv,a,ct,wr,ds⟩=ckA dv a ct wr ds):=by show _=_;rw[hpE,if_pos HE.out];rfl
 go_wp2_with fail
 refine (jM dv a ct wr _ ds _ (HD.out.keep BV.out)).mono ?_
 rintro _ wq ⟨rfl,bq⟩
 obtain⟨z,hz⟩:∃z,ckA dv a ct wr ds=z:=⟨_,rfl⟩
 have HZ:Hid (ckA dv a ct wr ds=z):=hz
 rw[hz] at HEE ⊢
 have A:=A.keep bq
 have BV:Hid (Below w.heap.size w wq):=aB BV.out bq
 clear i0 i1 i2 i3 j0 j1 j2 j3 j4 j5 j6 j7 j8 j9 j10 j11 s0 k0 k1 k2 k3 k4 k5 k6 sH hz bq
 by_cases hne:z=0
 rotate_left
 ·have q:(z !=0)=true:=by simpa using hne
  have HF:Hid (hpE ⟨zs,⟨p,r,d⟩,⟨mo,ba,l,op,oh,ot,st,fe,fp,fh,ft,lo⟩⟩ ⟨3,num,dv,a,ct,wr,ds⟩=z∧hpR ⟨zs,⟨p,r,d⟩,⟨mo,ba,l,op,oh,ot,st,fe,fp,fh,ft,lo⟩⟩ ⟨3,num,dv,a,ct,wr,ds⟩=_):=mH HEE.out hne
  clear hne
  go_wp2_with fail
  refine (aCu z _).mono ?_
  rintro _ w9 ⟨rfl,b9⟩
  have A:=A.keep b9
  have hb:=aB BV.out b9
  go_wp2_with (first
   | fail
   | (refine wpList_store_row rfl 33 _ _ rfl _ _ rfl rfl _ _ A.x2 (by rw[infoM,aCr.1]) rfl aCr.2 ?_)
   | (refine wpList_store_row rfl 40 _ _ rfl _ _ rfl rfl _ _ (A.x3.otherRow (by omega) _) (by rw[infoTo,aCs.1]) rfl aCs.2 ?_))
  exact aCx (by rfl) (by rfl) (by rfl) A.x2 A.x3 hb HF.out.1 HF.out.2 (sC _) (oG _) (fun _ _=>jK _) (aDf _ _ _ _)
 subst hne
 have q:((0:Int) !=0)=false:=rfl
 have HDE:Hid (doE zs ⟨mo,ba,l,op,oh,ot,st,fe,fp,fh,ft,lo⟩ dv a ct wr ds=0):=by
  obtain⟨b1,b2,b3⟩:=bW HE.out
  exact zL b1 b3 HZ.out
 obtain⟨⟨e1,e2⟩,-,⟨e3,e4⟩,-,-⟩:=lV HZ.out
 obtain⟨Q,rfl⟩:∃Q:Nat,a=Q:=⟨a.toNat,by omega⟩
 obtain⟨C,rfl⟩:∃C:Nat,ct=C:=⟨ct.toNat,by omega⟩
 clear e1 e2 e3 e4
 have A1:=A.x1
 rw[HH.out] at A1
 obtain⟨⟨k0,k1,k2,k3,k4,k5,k6⟩,sH⟩:=A1.seven
 have A0:=A.x0
 rw[HR.out] at A0
 obtain⟨⟨i0,i1,i2,i3⟩,⟨j0,j1,j2,j3,j4,j5,j6,j7,j8,j9,j10,j11⟩,s0⟩:=A0.sixteen
 clear A0 A1
 go_wp2_with fail
 refine (asked_anyS _ zs mo ba op oh ot fe fp fh ft st lo _ l dv Q C wr _ ds _ (H1.out.keep BV.out) (H3.out.keep BV.out) (HD.out.keep BV.out) HDE.out).mono ?_
 rintro _ w1 ⟨ma1,mn1,mc1,mo1,ba1,op1,oh1,ot1,fe1,fp1,fh1,ft1,st1,lo1,va1,vk1,l1,da1,dc1,ta1,tc1,dat1,tch1,ms1,f1,rfl,hG,fm,fl,g1,g2,g3,g4,hf1,hf2,b1⟩
 have HG:Hid (hpE ⟨zs,⟨p,r,d⟩,⟨mo,ba,l,op,oh,ot,st,fe,fp,fh,ft,lo⟩⟩ ⟨3,num,dv,(Q:Int),(C:Int),wr,ds⟩=0∧hpR ⟨zs,⟨p,r,d⟩,⟨mo,ba,l,op,oh,ot,st,fe,fp,fh,ft,lo⟩⟩ ⟨3,num,dv,(Q:Int),(C:Int),wr,ds⟩=(⟨ms1,⟨p,r,d⟩,⟨mo1,ba1,l1,op1,oh1,ot1,st1,fe1,fp1,fh1,ft1,lo1⟩⟩,⟨decide (f1=0),dat1,f1,tch1⟩)):=by
  refine⟨HEE.out,?_⟩
  rw[hpR,if_pos HEE.out,hpG]
  dsimp only
  rw[if_neg (by decide),if_neg (by decide),if_pos rfl,hG]
 have hgl:Hid (_∧_):=aCz (pD HG.out.1 HG.out.2).2.1
 have hA5:=A.lt
 have NW:Hid (NewL w.heap.size ⟨zs,⟨p,r,d⟩,⟨mo,ba,l,op,oh,ot,st,fe,fp,fh,ft,lo⟩⟩ ⟨ms1,⟨p,r,d⟩,⟨mo1,ba1,l1,op1,oh1,ot1,st1,fe1,fp1,fh1,ft1,lo1⟩⟩ cs (rM (.slice ma1 mn1 mc1) p (.slice a2 n2 c2) d mo1 ba1 (.slice va1 l1.length vk1) op1 oh1 ot1 st1 fe1 fp1 fh1 ft1 lo1)):=by
  intro bad hN ho
  rw[HR.out] at ho
  have hWs:=BV.out.size
  refine offL (fm.off (fun q hq=>Nat.lt_of_lt_of_le (hN q hq) hWs)) (ho 2 _ rfl (by omega)) (fun hl q hq hbq=>?_)
  rcases (fl.resolve_left hl) q hq with ⟨h0,h1⟩|h1
  ·exact ho 6 _ rfl (fun _=>h0) q h1 hbq
  ·have:=hN q hbq
   omega
 have A:=A.keep b1
 have BV:Hid (Below w.heap.size w w1):=aB BV.out b1
 have I0:=HM.out.keep BV.out
 have IM:IsM w1 ⟨ms1,⟨p,r,d⟩,⟨mo1,ba1,l1,op1,oh1,ot1,st1,fe1,fp1,fh1,ft1,lo1⟩⟩ _:=⟨_,_,_,_,_,_,_,_,_,rfl,g1,H2.out.keep BV.out,g2⟩
 have IT:IsT w1 ⟨decide (f1=0),dat1,f1,tch1⟩ _:=⟨_,_,_,_,_,_,rfl,g3,g4⟩
 have OT:OffRow (fun q=>q<w.heap.size+5) #[.bool (decide (f1=0)),.slice da1 dat1.length dc1,J f1,.slice ta1 tch1.length tc1]:=offT (hf1.off (fun q hq=>by omega)) (hf2.off (fun q hq=>by omega))
 have OT:Hid _:=OT
 clear i0 i1 i2 i3 j0 j1 j2 j3 j4 j5 j6 j7 j8 j9 j10 j11 s0 k0 k1 k2 k3 k4 k5 k6 sH hG g1 g2 g3 g4 hf1 hf2 b1 fm fl
 have A0:=A.x0
 rw[HR.out] at A0
 obtain⟨⟨i0,i1,i2,i3⟩,⟨j0,j1,j2,j3,j4,j5,j6,j7,j8,j9,j10,j11⟩,s0⟩:=A0.sixteen
 have mk:=A0.marksOf
 obtain⟨y0,y1,y2,y3,f0,f1',f2,f3,s4⟩:=Box.four (a:=.bool false) (b:=.slice none 0 0) (c:=J 0) (d:=.slice none 0 0) A.x4
 clear A0
 have ne4:¬w.heap.size=w.heap.size+1+1+1+1:=by omega
 have ne5:¬w.heap.size+1+1+1+1=w.heap.size:=by omega
 go_upto_region 23 with fail
 refine gen17 (motive:=fun V=>Code.wp _ _ _ _ V) (by have q:=A;rw[HR.out] at q;exact q) (Nat.le_refl _) BV.out ?_
 intro V A2 BV2 K
 have hgl:=hgl.out
 have OT:=OT.out
 have IT:=IT.kept K OT (fun q hq=>by omega)
 have IM:=IM.stay hgl.1 hgl.2 K (by
  rintro q (rfl|rfl)
  ·exact .inl ⟨_,_,A.x0,I0⟩
  ·exact .inr ⟨_,_,A.x4,sC _⟩)
 have A:=A2
 have BV:=BV2
 clear i0 i1 i2 i3 j0 j1 j2 j3 j4 j5 j6 j7 j8 j9 j10 j11 s0 mk A2 BV2 K I0 y0 y1 y2 y3 f0 f1' f2 f3 s4
 have bd:=Below.drew (Below.refl V.heap.size V)
 have A:=A.keep bd
 have IM:=IM.keep bd
 have IT:=IT.keep bd
 have BV:=Below.drew BV
 have hA5:=A.lt
 obtain⟨s1,o1⟩:=IM.size
 obtain⟨s2,o2⟩:=IT.size
 refine wp_region_held_drew (S:=Sr2 w.heap.size _ _) (by kernel_rfl) ⟨A.x0,A.x4⟩ (fun hHeld=>?_)
 refine aO (i:=0) (v:=.agg _) rfl (by kernel_rfl) (by kernel_rfl) (by kernel_rfl) (fun _ _ _ h=>h) (aS (by kernel_rfl) 33 _ rfl rfl (fun _ h=>h.a.loadM s1)) (by assumption) ?_
 simp only[nmz]
 refine aO (i:=1) (v:=.agg _) rfl (by kernel_rfl) (by kernel_rfl) (by kernel_rfl) (fun _ _ _ h=>h) (aS (by kernel_rfl) 40 _ rfl rfl (fun _ h=>h.b.loadT s2)) (by assumption) ?_
 simp only[nmz]
 refine aE (i:=2) (by kernel_rfl) (by rfl) (fun K hK=>?_)
 refine aF rfl 33 _ _ rfl _ _ rfl rfl _ _ (A.x2) (by rw[infoM,s1]) (aCr.1.trans s1.symm) o1 ?_
 refine hK.out _ _ ⟨hHeld.a.otherRow (by omega) _,hHeld.b.otherRow (by omega) _⟩ (fun hHeld2=>?_)
 clear hK K hHeld
 have hHeld:=hHeld2
 clear hHeld2
 simp only[Act.put]
 refine aE (i:=3) (by kernel_rfl) (by rfl) (fun K hK=>?_)
 refine aF rfl 40 _ _ rfl _ _ rfl rfl _ _ (A.x3.otherRow (by omega) _) (by rw[infoTo,s2]) (aCs.1.trans s2.symm) o2 ?_
 refine hK.out _ _ ⟨hHeld.a.otherRow (by omega) _,hHeld.b.otherRow (by omega) _⟩ (fun hHeld2=>?_)
 clear hK K hHeld
 have hHeld:=hHeld2
 clear hHeld2
 simp only[Act.put]
 refine tkH 4 rfl ?_
 refine wpAnyH_done (by kernel_rfl) ?_ _
 go_wp2_with fail
 exact aCx (by rfl) (by rfl) (by rfl) A.x2 A.x3 BV HG.out.1 HG.out.2 IT OT (fun _ K=>IM.stay hgl.1 hgl.2 K A.own) NW.out
set_option maxRecDepth 10000 in
set_option maxHeartbeats 8000000 in
theorem aC2 {m:Mc}{x:Hp}{cs ch:Array Value}{w:World}(hm:IsM w m cs)(hx:IsH w x ch)(hE:chkM m=0)(hk:x.kind=4)(hn:¬(0≤x.num∧x.num<m.b.cache.length)):HapQ m x cs ch w:=by
 obtain⟨zs,⟨p,r,d⟩,⟨mo,ba,l,op,oh,ot,st,fe,fp,fh,ft,lo⟩⟩:=m
 obtain⟨kd,num,dv,a,ct,wr,ds⟩:=x
 dsimp only at hk hn
 subst hk
 have HM:Hid (IsM w _ cs):=hm
 have HE:Hid (chkM _=0):=hE
 obtain⟨a1,n1,c1,a2,n2,c2,a3,n3,c3,hR,h1,h2,h3⟩:=hm
 obtain⟨da,dn,dc,hH,hd⟩:=hx
 dsimp only at hR h1 h2 h3 hH hd
 obtain⟨_,_,e3,-⟩:=h3.shape
 simp only[Value.slice.injEq] at e3
 obtain⟨rfl,rfl,rfl⟩:=e3
 have HR:Hid (cs=_):=hR
 have HH:Hid (ch=_):=hH
 have H1:Hid (Sl w _ zs):=h1
 have H2:Hid (Sl w _ r):=h2
 have H3:Hid (Ls w _ l):=h3
 have HD:Hid (Sl w _ ds):=hd
 unfold HapQ
 clear hE hR hH h1 h2 h3 hd
 go_enter Tryz.func18,Tryz.ntmps18
 go_upto_region 3 with fail
 (try simp only[Value.cells])
 rw[aCv]
 obtain⟨A,bw⟩:=aCy w cs ch
 generalize fiveW w cs ch=W at *
 have BV:Hid (Below w.heap.size w W):=bw
 have A1:=A.x1
 rw[HH.out] at A1
 obtain⟨⟨k0,k1,k2,k3,k4,k5,k6⟩,sH⟩:=A1.seven
 have A0:=A.x0
 rw[HR.out] at A0
 obtain⟨⟨i0,i1,i2,i3⟩,⟨j0,j1,j2,j3,j4,j5,j6,j7,j8,j9,j10,j11⟩,s0⟩:=A0.sixteen
 clear A0 A1 bw
 have HF:Hid (hpE ⟨zs,⟨p,r,d⟩,⟨mo,ba,l,op,oh,ot,st,fe,fp,fh,ft,lo⟩⟩ ⟨4,num,dv,a,ct,wr,ds⟩=4∧hpR ⟨zs,⟨p,r,d⟩,⟨mo,ba,l,op,oh,ot,st,fe,fp,fh,ft,lo⟩⟩ ⟨4,num,dv,a,ct,wr,ds⟩=_):=mH (by rw[hpE,if_pos HE.out];dsimp only;rw[if_neg (by decide),if_neg (by decide),if_neg (by decide),if_pos rfl,if_neg hn]) (by decide)
 have hll:l.length≤9223372036854775807:=by
  obtain⟨_,_,_,q1,q2,_⟩:=H3.out
  unfold maxLen at q2
  omega
 have hwr:IntKind.i64.wrap ((l.length:Int)-1)=(l.length:Int)-1:=by rw[IntKind.wrap_i64];omega
 go_wp2_with fail
 refine (aD num 0 ((l.length:Int)-1) _).mono ?_
 rintro e wq ⟨rfl,hwq⟩
 replace hwq:=hwq.symm
 subst hwq
 rw[cH (by omega)]
 go_wp2_with fail
 refine (aCu 4 _).mono ?_
 rintro _ w9 ⟨rfl,b9⟩
 have A:=A.keep b9
 have hb:=aB BV.out b9
 go_wp2_with (first
  | fail
  | (refine wpList_store_row rfl 33 _ _ rfl _ _ rfl rfl _ _ A.x2 (by rw[infoM,aCr.1]) rfl aCr.2 ?_)
  | (refine wpList_store_row rfl 40 _ _ rfl _ _ rfl rfl _ _ (A.x3.otherRow (by omega) _) (by rw[infoTo,aCs.1]) rfl aCs.2 ?_))
 exact aCx (by rfl) (by rfl) (by rfl) A.x2 A.x3 hb HF.out.1 HF.out.2 (sC _) (oG _) (fun _ _=>jK _) (aDf _ _ _ _)
set_option maxRecDepth 10000 in
set_option maxHeartbeats 8000000 in
theorem aC3 {m:Mc}{x:Hp}{cs ch:Array Value}{w:World}(hm:IsM w m cs)(hx:IsH w x ch)(hE:chkM m=0)(hk:x.kind=4)(hn:0≤x.num∧x.num<m.b.cache.length):HapQ m x cs ch w:=by
 obtain⟨zs,⟨p,r,d⟩,⟨mo,ba,l,op,oh,ot,st,fe,fp,fh,ft,lo⟩⟩:=m
 obtain⟨kd,num,dv,a,ct,wr,ds⟩:=x
 dsimp only at hk hn
 subst hk
 have HM:Hid (IsM w _ cs):=hm
 have HE:Hid (chkM _=0):=hE
 obtain⟨a1,n1,c1,a2,n2,c2,a3,n3,c3,hR,h1,h2,h3⟩:=hm
 obtain⟨da,dn,dc,hH,hd⟩:=hx
 dsimp only at hR h1 h2 h3 hH hd
 obtain⟨_,_,e3,-⟩:=h3.shape
 simp only[Value.slice.injEq] at e3
 obtain⟨rfl,rfl,rfl⟩:=e3
 have HR:Hid (cs=_):=hR
 have HH:Hid (ch=_):=hH
 have H1:Hid (Sl w _ zs):=h1
 have H2:Hid (Sl w _ r):=h2
 have H3:Hid (Ls w _ l):=h3
 have HD:Hid (Sl w _ ds):=hd
 unfold HapQ
 clear hE hR hH h1 h2 h3 hd
 go_enter Tryz.func18,Tryz.ntmps18
 go_upto_region 3 with fail
 (try simp only[Value.cells])
 rw[aCv]
 obtain⟨A,bw⟩:=aCy w cs ch
 generalize fiveW w cs ch=W at *
 have BV:Hid (Below w.heap.size w W):=bw
 have A1:=A.x1
 rw[HH.out] at A1
 obtain⟨⟨k0,k1,k2,k3,k4,k5,k6⟩,sH⟩:=A1.seven
 have A0:=A.x0
 rw[HR.out] at A0
 obtain⟨⟨i0,i1,i2,i3⟩,⟨j0,j1,j2,j3,j4,j5,j6,j7,j8,j9,j10,j11⟩,s0⟩:=A0.sixteen
 clear bw
 obtain⟨K,rfl⟩:∃K:Nat,num=K:=⟨num.toNat,by omega⟩
 have hK:K<l.length:=by omega
 have HG0:Hid (hpE ⟨zs,⟨p,r,d⟩,⟨mo,ba,l,op,oh,ot,st,fe,fp,fh,ft,lo⟩⟩ ⟨4,(K:Int),dv,a,ct,wr,ds⟩=0):=by show _=_;rw[hpE,if_pos HE.out];dsimp only;rw[if_neg (by decide),if_neg (by decide),if_neg (by decide),if_pos rfl,if_pos hn]
 have hll:l.length≤9223372036854775807:=by
  obtain⟨_,_,_,q1,q2,_⟩:=H3.out
  unfold maxLen at q2
  omega
 have hwr:IntKind.i64.wrap ((l.length:Int)-1)=(l.length:Int)-1:=by rw[IntKind.wrap_i64];omega
 go_wp2_with fail
 refine (aD K 0 ((l.length:Int)-1) _).mono ?_
 rintro e wq ⟨rfl,hwq⟩
 replace hwq:=hwq.symm
 subst hwq
 rw[dR (by omega)]
 clear i0 i1 i2 i3 j0 j1 j2 j3 j4 j5 j6 j7 j8 j9 j10 j11 s0 k0 k1 k2 k3 k4 k5 k6 sH hwr hll
 obtain⟨lb,lo',hva⟩:∃lb lo',a3=some ⟨lb,lo',none⟩:=by
  obtain⟨a',c',e,-,-,q⟩:=H3.out
  simp only[Value.slice.injEq] at e
  rcases q with q|⟨b',o',q,-⟩
  ·rw[q] at hK;simp at hK
  ·exact⟨b',o',by rw[e.1,q]⟩
 subst hva
 have hvk:l.length≤c3∧c3≤maxLen:=by
  obtain⟨a',c',e,q1,q2,-⟩:=H3.out
  simp only[Value.slice.injEq] at e
  rw[e.2.2];exact⟨q1,q2⟩
 obtain⟨hv1,hv2⟩:=hvk
 unfold maxLen at hv2
 have hKv:K≤c3:=by omega
 have hK1:K+1≤l.length:=by omega
 have hK2:(0:Int)≤(K:Int)+1:=by omega
 have hK3:(K:Int)+1≤(l.length:Int):=by omega
 have hwK:IntKind.i64.wrap ((K:Int)+1)=(K:Int)+1:=by rw[IntKind.wrap_i64];omega
 have h10:l.length≤1000:=by
  obtain⟨-,-,q⟩:=bW HE.out
  have q:=aW.1 (bK q).2.2.2.1
  exact Nat.le_trans q.1 (by decide)
 go_wp2_with fail
 refine cA (by kernel_rfl) 17 (fun w'=>Below W.heap.size W w') (Below.drew (Below.refl _ _)) (fun hHeld=>?_)
 have CF:Cl (fun w'=>Below W.heap.size W w') _:=⟨fun wz hSz=>And.intro ((A0.keep hSz).sixteen) ((A1.keep hSz).seven)⟩
 refine tkL 0 rfl ?_
 refine tkL 1 rfl ?_
 refine tkL 2 rfl ?_
 refine tkL 3 rfl ?_
 refine tkL 4 rfl ?_
 refine tkL 5 rfl ?_
 refine tkL 6 rfl ?_
 refine tkL 7 rfl ?_
 refine tkL 8 rfl ?_
 refine tkL 9 rfl ?_
 refine tkL 10 rfl ?_
 refine tkL 11 rfl ?_
 refine tkL 12 rfl ?_
 obtain⟨ad,had⟩:∃ad:Option Addr,(if c3=K+1 then some ⟨lb,lo',none⟩ else some ⟨lb,lo'+(K+1)*5,none⟩)=ad:=⟨_,rfl⟩
 rw[had]
 have HAD:Hid ((if c3=K+1 then some ⟨lb,lo',none⟩ else some ⟨lb,lo'+(K+1)*5,none⟩)=ad):=had
 clear had
 refine bP (i:=13) (by kernel_rfl) (by rfl) (fun KK hKK=>?_)
 go_simp
 have hHeld3:=aA hHeld (.cells #[.slice (some ⟨lb,lo',none⟩) K c3,.slice ad (l.length-(K+1)) (c3-(K+1))] 27)
 have XP:=Box.newAt (w:=W.drew) (n:=W.heap.size) rfl 27 #[.slice (some ⟨lb,lo',none⟩) K c3,.slice ad (l.length-(K+1)) (c3-(K+1))]
 refine hKK.out _ _ (fun _=>hHeld3) ?_
 clear hKK KK
 refine bP (i:=14) (by kernel_rfl) (by rfl) (fun KK hKK=>?_)
 go_simp
 obtain⟨ll,hll2⟩:∃ll,l.take K++l.drop (K+1)=ll:=⟨_,rfl⟩
 have qe:=((H3.out.keep BV.out).keep hHeld3).cutEnd hK1
 rw[HAD.out] at qe
 refine (uF XP (((H3.out.keep BV.out).keep hHeld3).take (by omega)) qe (by simp;omega) hll2).mono ?_
 clear qe
 rintro e w9 ⟨a9,c9,rfl,hO9,b9⟩
 have hHeld9:Below W.heap.size W w9:=aB hHeld3 b9
 have NW:Hid (NewL w.heap.size ⟨zs,⟨p,r,d⟩,⟨mo,ba,l,op,oh,ot,st,fe,fp,fh,ft,lo⟩⟩ ⟨zs,⟨p,r,d⟩,⟨mo,ba,ll,op,oh,ot,st,fe,fp,fh,ft,lo⟩⟩ cs (rM (.slice a1 n1 c1) p (.slice a2 n2 c2) d mo ba (.slice a9 ll.length c9) op oh ot st fe fp fh ft lo)):=by
  intro bad hN ho
  rw[HR.out] at ho
  have hWs:=Nat.le_trans BV.out.size hHeld3.size
  refine offL (ho 0 _ rfl (by omega)) (ho 2 _ rfl (by omega)) (fun hl q hq hbq=>?_)
  have h1:=hO9.base q hq
  have h2:=hN q hbq
  omega
 go_wp2_with fail
 refine hKK.out _ _ (fun _=>hHeld9) ?_
 clear hKK KK
 refine tkL 15 rfl ?_
 refine tkL 16 rfl ?_
 have hA5:=A.lt
 have A:=A.keep hHeld9
 have A0:=A0.keep hHeld9
 obtain⟨⟨i0,i1,i2,i3⟩,⟨j0,j1,j2,j3,j4,j5,j6,j7,j8,j9,j10,j11⟩,s0⟩:=A0.sixteen
 have mk:=A0.marksOf
 refine bP (i:=17) (by kernel_rfl) (by rfl) (fun KK hKK=>?_)
 go_simp
 refine hKK.out _ _ (fun h=>absurd h (by decide)) ?_
 clear hKK KK
 refine cZ (by kernel_rfl) ?_ _
 have hER:ll=l.eraseIdx K:=by rw[←hll2];exact (List.eraseIdx_eq_take_drop_succ l K).symm
 have HG:Hid (hpE ⟨zs,⟨p,r,d⟩,⟨mo,ba,l,op,oh,ot,st,fe,fp,fh,ft,lo⟩⟩ ⟨4,(K:Int),dv,a,ct,wr,ds⟩=0∧hpR ⟨zs,⟨p,r,d⟩,⟨mo,ba,l,op,oh,ot,st,fe,fp,fh,ft,lo⟩⟩ ⟨4,(K:Int),dv,a,ct,wr,ds⟩=(⟨zs,⟨p,r,d⟩,⟨mo,ba,ll,op,oh,ot,st,fe,fp,fh,ft,lo⟩⟩,T0)):=by
  refine⟨HG0.out,?_⟩
  rw[hpR,if_pos HG0.out,hpG,hER]
  dsimp only
  rw[if_neg (by decide),if_neg (by decide),if_neg (by decide)]
  (try rfl)
 have hgl:Hid (_∧_):=aCz (pD HG.out.1 HG.out.2).2.1
 have BV:Hid (Below w.heap.size w w9):=aB BV.out hHeld9
 have IM:IsM w9 ⟨zs,⟨p,r,d⟩,⟨mo,ba,ll,op,oh,ot,st,fe,fp,fh,ft,lo⟩⟩ (rM (.slice a1 n1 c1) p (.slice a2 n2 c2) d mo ba (.slice a9 ll.length c9) op oh ot st fe fp fh ft lo):=⟨_,_,_,_,_,_,_,_,_,rfl,H1.out.keep BV.out,H2.out.keep BV.out,hO9.ls⟩
 have I0:=HM.out.keep BV.out
 clear hER hO9 b9 hHeld hHeld3 hHeld9 XP hll2 A1
 go_upto_region 23 with fail
 refine gen1 (motive:=fun V=>Code.wp _ _ _ _ V) (by have q:=A;rw[HR.out] at q;exact q) (Nat.le_refl _) BV.out ?_
 intro V A2 BV2 K
 have hgl:=hgl.out
 have IM:=IM.stay hgl.1 hgl.2 K (by
  rintro q (rfl|rfl)
  ·exact .inl ⟨_,_,A.x0,I0⟩
  ·exact .inr ⟨_,_,A.x4,sC _⟩)
 have A:=A2
 have BV:=BV2
 have IT:=sC V
 have OT:=oG (fun q=>q<w.heap.size+5)
 clear i0 i1 i2 i3 j0 j1 j2 j3 j4 j5 j6 j7 j8 j9 j10 j11 s0 mk A0 A2 BV2 K I0
 have bd:=Below.drew (Below.refl V.heap.size V)
 have A:=A.keep bd
 have IM:=IM.keep bd
 have IT:=IT.keep bd
 have BV:=Below.drew BV
 have hA5:=A.lt
 obtain⟨s1,o1⟩:=IM.size
 obtain⟨s2,o2⟩:=IT.size
 refine wp_region_held_drew (S:=Sr2 w.heap.size _ _) (by kernel_rfl) ⟨A.x0,A.x4⟩ (fun hHeld=>?_)
 refine aO (i:=0) (v:=.agg _) rfl (by kernel_rfl) (by kernel_rfl) (by kernel_rfl) (fun _ _ _ h=>h) (aS (by kernel_rfl) 33 _ rfl rfl (fun _ h=>h.a.loadM s1)) (by assumption) ?_
 simp only[nmz]
 refine aO (i:=1) (v:=.agg _) rfl (by kernel_rfl) (by kernel_rfl) (by kernel_rfl) (fun _ _ _ h=>h) (aS (by kernel_rfl) 40 _ rfl rfl (fun _ h=>h.b.loadT s2)) (by assumption) ?_
 simp only[nmz]
 refine aE (i:=2) (by kernel_rfl) (by rfl) (fun K hK=>?_)
 refine aF rfl 33 _ _ rfl _ _ rfl rfl _ _ (A.x2) (by rw[infoM,s1]) (aCr.1.trans s1.symm) o1 ?_
 refine hK.out _ _ ⟨hHeld.a.otherRow (by omega) _,hHeld.b.otherRow (by omega) _⟩ (fun hHeld2=>?_)
 clear hK K hHeld
 have hHeld:=hHeld2
 clear hHeld2
 simp only[Act.put]
 refine aE (i:=3) (by kernel_rfl) (by rfl) (fun K hK=>?_)
 refine aF rfl 40 _ _ rfl _ _ rfl rfl _ _ (A.x3.otherRow (by omega) _) (by rw[infoTo,s2]) (aCs.1.trans s2.symm) o2 ?_
 refine hK.out _ _ ⟨hHeld.a.otherRow (by omega) _,hHeld.b.otherRow (by omega) _⟩ (fun hHeld2=>?_)
 clear hK K hHeld
 have hHeld:=hHeld2
 clear hHeld2
 simp only[Act.put]
 refine tkH 4 rfl ?_
 refine wpAnyH_done (by kernel_rfl) ?_ _
 go_wp2_with fail
 exact aCx (by rfl) (by rfl) (by rfl) A.x2 A.x3 BV HG.out.1 HG.out.2 IT OT (fun _ K=>IM.stay hgl.1 hgl.2 K A.own) NW.out
theorem aDg {m:Mc}{x:Hp}{cs ch:Array Value}{w:World}(hm:IsM w m cs)(hx:IsH w x ch)(hE:chkM m=0):Calls Tryz.prog 18 #[.agg cs,.agg ch] w fun e w'=>HapOutN m x cs w e w':=by
 by_cases h1:x.kind=1
 ·cases hd:m.h.done
  ·exact aDd hm hx hE h1 hd
  ·exact aDc hm hx hE h1 hd
 by_cases h2:x.kind=2
 ·exact aC9 hm hx hE h2
 by_cases h3:x.kind=3
 ·exact aDe hm hx hE h3
 by_cases h4:x.kind=4
 ·by_cases hn:0≤x.num∧x.num<m.b.cache.length
  ·exact aC3 hm hx hE h4 hn
  ·exact aC2 hm hx hE h4 hn
 exact aDb hm hx hE (by omega)
end Go.Proofs.YthlhocneggcekaaGreat
