/-
  MachineSays: any machine is checked, held against another one, and any happening does to it what the document says, errors too: for every machine, every happening, every other machine; no condition.
  Laid together: MSaysB, MSaysWalk, MachineSays.
-/
import Derived.Test.YthlhocneggcekaaGreatD44
import Derived.Test.YthlhocneggcekaaGreatDHappenedX
namespace Go.Proofs.YthlhocneggcekaaGreat
open Go.RowKit
theorem aC6 (m:Mc):sameM m m=true:=by simp[sameM,sameH,kH]
theorem aC1 {m:Mc}{cs:Array Value}{w:World}(hm:IsM w m cs):Calls Tryz.prog 12 #[.agg cs] w fun e w'=>e=.returned (J (chkM m))∧Below w.heap.size w w':=by
 obtain⟨zs,⟨p,r,d⟩,⟨mo,ba,l,op,oh,ot,st,fe,fp,fh,ft,lo⟩⟩:=m
 obtain⟨a1,n1,c1,a2,n2,c2,a3,n3,c3,rfl,h1,h2,h3⟩:=hm
 exact wI _ zs p _ r d mo ba op oh ot fe fp fh ft st lo _ l w h1 h2 h3
theorem aCw {m k:Mc}{cs ck:Array Value}{w:World}(hm:IsM w m cs)(hk:IsM w k ck):Calls Tryz.prog 16 #[.agg cs,.agg ck] w fun e w'=>e=.returned (.bool (sameM m k))∧Below w.heap.size w w':=by
 obtain⟨zs,⟨p,r,d⟩,⟨mo,ba,l,op,oh,ot,st,fe,fp,fh,ft,lo⟩⟩:=m
 obtain⟨zs1,⟨p1,r1,d1⟩,⟨mo1,ba1,l1,op1,oh1,ot1,st1,fe1,fp1,fh1,ft1,lo1⟩⟩:=k
 obtain⟨a1,n1,c1,a2,n2,c2,a3,n3,c3,rfl,h1,h2,h3⟩:=hm
 obtain⟨b1,k1,e1,b2,k2,e2,b3,k3,e3,rfl,g1,g2,g3⟩:=hk
 exact yE _ zs p _ r d mo ba op oh ot fe fp fh ft st lo _ l _ zs1 p1 _ r1 d1 mo1 ba1 op1 oh1 ot1 fe1 fp1 fh1 ft1 st1 lo1 _ l1 w h1 h2 h3 g1 g2 g3
theorem aC0 {t:To}{c1 c2:Array Value}{w:World}(h1:IsT w t c1)(h2:IsT w t c2):Calls Tryz.prog 17 #[.agg c1,.agg c2] w fun e w'=>e=.returned (.bool true)∧Below w.heap.size w w':=by
 obtain⟨_,_,_,_,_,_,rfl,a1,b1⟩:=h1
 obtain⟨_,_,_,_,_,_,rfl,a2,b2⟩:=h2
 exact sK _ _ _ t.dat _ _ _ t.tch w a1 a2 b1 b2
set_option maxRecDepth 10000 in
set_option maxHeartbeats 4000000 in
theorem aDa {m n:Mc}{x:Hp}{cs ch cn:Array Value}{w:World}(hm:IsM w m cs)(hx:IsH w x ch)(hn:IsM w n cn):
  Calls Tryz.prog 3 #[.agg cs,.agg ch,.agg cn] w fun e w'=>e=.returned (.bool true)∧Below w.heap.size w w':=by
 have HM:Hid (IsM w m cs):=hm
 have HX:Hid (IsH w x ch):=hx
 have HN:Hid (IsM w n cn):=hn
 have hc:=hm.size.1
 have hh:=hx.size.1
 have hcn:=hn.size.1
 have HC:Hid (cs.size=16):=hc
 have HCN:Hid (cn.size=16):=hcn
 have X0:=((Box.newAt (w:=w) (n:=w.heap.size) rfl 33 cs).past (.cells ch 37)).past (.cells cn 33)
 have X1:=(Box.newAt (w:=w.alloc (.cells cs 33)) (n:=w.heap.size+1) (by simp) 37 ch).past (.cells cn 33)
 have X2:=Box.newAt (w:=(w.alloc (.cells cs 33)).alloc (.cells ch 37)) (n:=w.heap.size+1+1) (by simp) 33 cn
 have BW:Hid (Below w.heap.size w (((w.alloc (.cells cs 33)).alloc (.cells ch 37)).alloc (.cells cn 33))):=aA (aA (aA (Below.refl w.heap.size w) _) _) _
 clear hm hx hn
 go_enter Tryz.func3,Tryz.ntmps3
 go_upto_region 1 with fail
 (try simp only[Value.cells])
 generalize (((w.alloc (.cells cs 33)).alloc (.cells ch 37)).alloc (.cells cn 33))=W at *
 have HI:(Tryz.prog.info? 33).map (·.size)=some cs.size:=by rw[infoM,hc]
 have HJ:(Tryz.prog.info? 37).map (·.size)=some ch.size:=by rw[infoH,hh]
 go_wp2_with (first
  | fail
  | (refine wpList_load_row rfl 33 _ rfl _ rfl _ _ _ _ X0 Tryz.underlying33 rfl HI ?_)
  | (refine wpList_load_row rfl 37 _ rfl _ rfl _ _ _ _ X1 Tryz.underlying37 rfl HJ ?_))
 refine (aCi (HM.out.keep BW.out) (HX.out.keep BW.out)).mono ?_
 rintro e w4 ⟨cs1,cs2,rfl,hM,hT,-,-,b4⟩
 obtain⟨⟨Y,U⟩,hYT⟩:∃R,hpR m x=R:=⟨_,rfl⟩
 have HYT:Hid (hpR m x=(Y,U)):=hYT
 rw[hYT] at hM hT
 dsimp only at hM hT
 obtain⟨E,hEE⟩:∃E,hpE m x=E:=⟨_,rfl⟩
 have HEE:Hid (hpE m x=E):=hEE
 rw[hEE]
 clear hEE hYT
 obtain⟨hs1,ha1⟩:=hM.size
 obtain⟨hs2,ha2⟩:=hT.size
 have Z7:Box ((w4.alloc (.cells zM 33)).alloc (.cells zT 40)) w4.heap.size 33 zeroM:=(Box.newAt rfl _ _).past _
 have Z8:Box (((w4.alloc (.cells zM 33)).alloc (.cells zT 40)).setRow w4.heap.size cs1) (w4.heap.size+1) 40 zeroT:=Box.otherRow (cs:=zeroT) (Box.newAt (by simp) _ _) (by omega) _
 have X7:=(Z7.setRow cs1).otherRow (m:=w4.heap.size+1) (by omega) cs2
 have X8:=Z8.setRow cs2
 have K5:Below w4.heap.size w4 ((((w4.alloc (.cells zM 33)).alloc (.cells zT 40)).setRow w4.heap.size cs1).setRow (w4.heap.size+1) cs2):=aG (by omega) (aG (by omega) (aA (aA (Below.refl _ _) _) _) _) _
 have b45:=aB b4 K5
 have X0:=X0.keep b45
 have X1:=X1.keep b45
 have X2:=X2.keep b45
 have hM:=hM.keep K5
 have hT:=hT.keep K5
 have BV:Hid (Below w.heap.size w _):=aB BW.out b45
 clear b45
 go_upto_region 2 with (first
  | fail
  | (refine wpList_store_row rfl 33 _ _ rfl _ _ rfl rfl _ _ Z7 (by rw[infoM,hs1]) (by rw[hs1];rfl) ha1 ?_)
  | (refine wpList_store_row rfl 40 _ _ rfl _ _ rfl rfl _ _ Z8 (by rw[infoTo,hs2]) (by rw[hs2];rfl) ha2 ?_))
 clear Z7 Z8 hs1 ha1 hs2 ha2 K5 b4 BW
 generalize ((((w4.alloc (.cells zM 33)).alloc (.cells zT 40)).setRow w4.heap.size cs1).setRow (w4.heap.size+1) cs2)=w5 at *
 generalize w4.heap.size=n7 at *
 go_wp2_with (first
  | fail
  | (refine wpList_load_row rfl 33 _ rfl _ rfl _ _ _ _ X0 Tryz.underlying33 rfl HI ?_))
 refine (aC1 (HM.out.keep BV.out)).mono ?_
 rintro e w6 ⟨rfl,b6⟩
 obtain⟨z,hz⟩:∃z,chkM m=z:=⟨_,rfl⟩
 have HZ:Hid (chkM m=z):=hz
 rw[hz]
 have X0:=X0.keep b6
 have X1:=X1.keep b6
 have X2:=X2.keep b6
 have X7:=X7.keep b6
 have X8:=X8.keep b6
 have hM:=hM.keep b6
 have hT:=hT.keep b6
 have BV:Hid (Below w.heap.size w w6):=aB BV.out b6
 clear b6 hz
 have HMY:Hid (IsM w6 Y cs1):=hM
 have HTU:Hid (IsT w6 U cs2):=hT
 clear hM hT
 go_upto_region 3 with fail
 go_cut [39] from 23 to 38 (fun s wx=>s=.bool false∧Below w6.heap.size w6 wx)
 case first=>
  clear X1 X7 X8 HI HJ hc hh hcn
  have zz:(z !=z)=false:=by simp
  have ss:(sameM m n !=sameM m n)=false:=by simp
  refine wp_region_held_drew (S:=fun w'=>Below w6.heap.size w6 w') (by kernel_rfl) (Below.drew (Below.refl _ _)) (fun hHeld=>?_)
  refine aE (i:=0) (by kernel_rfl) (by rfl) (fun K hK=>?_)
  go_simp
  refine (aCt _).mono ?_
  rintro _ wy ⟨rfl,by'⟩
  go_wp2_with fail
  refine hK.out _ _ (aB hHeld by') (fun hHeld2=>?_)
  clear hK K hHeld by'
  have hHeld:=hHeld2
  clear hHeld2
  refine tkH 1 rfl ?_
  refine tkH 2 rfl ?_
  refine aO (i:=3) (v:=.agg _) rfl (by kernel_rfl) (by kernel_rfl) (by kernel_rfl) (fun _ _ _ h=>h) (aS (by kernel_rfl) 33 _ rfl rfl (fun _ hSz=>(X0.keep hSz).loadM HC.out)) (by assumption) ?_
  simp only[nmz]
  refine tkH 5 rfl ?_
  refine aE (i:=4) (by kernel_rfl) (by rfl) (fun K hK=>?_)
  go_simp
  refine (eY (HM.out.keep (aB BV.out hHeld))).mono ?_
  rintro _ wy ⟨rfl,by'⟩
  rw[HZ.out]
  go_wp2_with fail
  refine hK.out _ _ (aB hHeld by') (fun hHeld2=>?_)
  clear hK K hHeld by'
  have hHeld:=hHeld2
  clear hHeld2
  refine tkH 6 rfl ?_
  refine tkH 7 rfl ?_
  refine tkH 8 rfl ?_
  refine aO (i:=9) (v:=.agg _) rfl (by kernel_rfl) (by kernel_rfl) (by kernel_rfl) (fun _ _ _ h=>h) (aS (by kernel_rfl) 33 _ rfl rfl (fun _ hSz=>(X0.keep hSz).loadM HC.out)) (by assumption) ?_
  simp only[nmz]
  refine aO (i:=10) (v:=.agg _) rfl (by kernel_rfl) (by kernel_rfl) (by kernel_rfl) (fun _ _ _ h=>h) (aS (by kernel_rfl) 33 _ rfl rfl (fun _ hSz=>(X2.keep hSz).loadM HCN.out)) (by assumption) ?_
  simp only[nmz]
  refine aO (i:=12) (v:=.agg _) rfl (by kernel_rfl) (by kernel_rfl) (by kernel_rfl) (fun _ _ _ h=>h) (aS (by kernel_rfl) 33 _ rfl rfl (fun _ hSz=>(X0.keep hSz).loadM HC.out)) (by assumption) ?_
  simp only[nmz]
  refine aO (i:=13) (v:=.agg _) rfl (by kernel_rfl) (by kernel_rfl) (by kernel_rfl) (fun _ _ _ h=>h) (aS (by kernel_rfl) 33 _ rfl rfl (fun _ hSz=>(X2.keep hSz).loadM HCN.out)) (by assumption) ?_
  simp only[nmz]
  refine aE (i:=11) (by kernel_rfl) (by rfl) (fun K hK=>?_)
  go_simp
  refine (mSame_row (HM.out.keep (aB BV.out hHeld)) (HN.out.keep (aB BV.out hHeld))).mono ?_
  rintro _ wy ⟨rfl,by'⟩
  go_wp2_with fail
  refine hK.out _ _ (aB hHeld by') (fun hHeld2=>?_)
  clear hK K hHeld by'
  have hHeld:=hHeld2
  clear hHeld2
  refine aE (i:=14) (by kernel_rfl) (by rfl) (fun K hK=>?_)
  go_simp
  refine (aCw (HM.out.keep (aB BV.out hHeld)) (HN.out.keep (aB BV.out hHeld))).mono ?_
  rintro _ wy ⟨rfl,by'⟩
  go_wp2_with fail
  refine hK.out _ _ (aB hHeld by') (fun hHeld2=>?_)
  clear hK K hHeld by'
  have hHeld:=hHeld2
  clear hHeld2
  refine tkH 15 rfl ?_
  refine tkH 16 rfl ?_
  refine wpAnyH_done (by kernel_rfl) ?_ _
  go_wp2_with fail
  go_meet
  exact⟨rfl,hHeld⟩
 case rest=>
  obtain⟨rfl,bA⟩:=hcut
  obtain⟨wA,rfl⟩:∃wA,wA=wc:=⟨wc,rfl⟩
  have X0:=X0.keep bA
  have X1:=X1.keep bA
  have X7:=X7.keep bA
  have X8:=X8.keep bA
  have HMY:Hid (IsM wA Y cs1):=HMY.out.keep bA
  have HTU:Hid (IsT wA U cs2):=HTU.out.keep bA
  have BV:Hid (Below w.heap.size w wA):=aB BV.out bA
  clear bA X2
  by_cases hz0:z=0
  rotate_left
  ·have q:(z !=0)=true:=by simpa using hz0
   have hE0:hpE m x=z:=by rw[←HZ.out];exact aCg x (by rw[HZ.out];exact hz0)
   obtain rfl:E=z:=HEE.out.symm.trans hE0
   have hY0:(Y,U)=(M0,T0):=HYT.out.symm.trans (kY (by rw[hE0];exact hz0))
   simp only[Prod.mk.injEq] at hY0
   obtain⟨rfl,rfl⟩:=hY0
   have qq:(E==E)=true:=by simp
   clear hz0 hE0 HI HJ hc hh hcn X0 X1
   obtain⟨u1,m1,d1,u2,m2,d2,u3,m3,d3,e1,-⟩:=id HMY.out
   obtain⟨t1,k1,f1,t2,k2,f2,e2,-⟩:=id HTU.out
   subst e1
   subst e2
   obtain⟨⟨i0,i1,i2,i3⟩,⟨j0,j1,j2,j3,j4,j5,j6,j7,j8,j9,j10,j11⟩,s0⟩:=X7.sixteen
   go_wp2_with fail
   refine (aCw HMY.out (jK _)).mono ?_
   rintro e w7 ⟨rfl,b7⟩
   rw[aC6]
   clear i0 i1 i2 i3 j0 j1 j2 j3 j4 j5 j6 j7 j8 j9 j10 j11 s0
   have X8:=X8.keep b7
   obtain⟨y0,y1,y2,y3,-,-,-,-,s8⟩:=X8.four
   go_wp2_with fail
   refine (aC0 (HTU.out.keep b7) (sC _)).mono ?_
   rintro e w8 ⟨rfl,b8⟩
   clear y0 y1 y2 y3 s8
   go_wp2_with fail
   go_ret
   exact⟨rfl,aB BV.out (aB b7 b8)⟩
  subst hz0
  have q:((0:Int) !=0)=false:=rfl
  go_wp2_with (first
   | fail
   | (refine wpList_load_row rfl 33 _ rfl _ rfl _ _ _ _ X0 Tryz.underlying33 rfl HI ?_)
   | (refine wpList_load_row rfl 37 _ rfl _ rfl _ _ _ _ X1 Tryz.underlying37 rfl HJ ?_))
  refine (aC4 (HM.out.keep BV.out) (HX.out.keep BV.out) HZ.out).mono ?_
  rintro e wB ⟨cs3,cs4,rfl,hM,hT,-,b4⟩
  rw[HYT.out] at hM hT
  rw[HEE.out]
  dsimp only at hM hT
  clear HI HJ hc hh hcn X0 X1 q
  have X7:=X7.keep b4
  have X8:=X8.keep b4
  have HMY:Hid (IsM wB Y cs1):=HMY.out.keep b4
  have HTU:Hid (IsT wB U cs2):=HTU.out.keep b4
  have BV:Hid (Below w.heap.size w wB):=aB BV.out b4
  have W7:=X7
  have W8:=X8
  clear X7 X8 b4
  obtain⟨hs1,ha1⟩:=hM.size
  obtain⟨hs2,ha2⟩:=hT.size
  have Z7:Box ((wB.alloc (.cells zM 33)).alloc (.cells zT 40)) wB.heap.size 33 zeroM:=(Box.newAt rfl _ _).past _
  have Z8:Box (((wB.alloc (.cells zM 33)).alloc (.cells zT 40)).setRow wB.heap.size cs3) (wB.heap.size+1) 40 zeroT:=Box.otherRow (cs:=zeroT) (Box.newAt (by simp) _ _) (by omega) _
  have X7:=(Z7.setRow cs3).otherRow (m:=wB.heap.size+1) (by omega) cs4
  have X8:=Z8.setRow cs4
  have K5:Below wB.heap.size wB ((((wB.alloc (.cells zM 33)).alloc (.cells zT 40)).setRow wB.heap.size cs3).setRow (wB.heap.size+1) cs4):=aG (by omega) (aG (by omega) (aA (aA (Below.refl _ _) _) _) _) _
  have W7:=W7.keep K5
  have W8:=W8.keep K5
  have hM:Hid (IsM _ Y cs3):=hM.keep K5
  have hT:Hid (IsT _ U cs4):=hT.keep K5
  have HMY:Hid (IsM _ Y cs1):=HMY.out.keep K5
  have HTU:Hid (IsT _ U cs2):=HTU.out.keep K5
  have BV:Hid (Below w.heap.size w _):=aB BV.out K5
  go_upto_region 8 with (first
   | fail
   | (refine wpList_store_row rfl 33 _ _ rfl _ _ rfl rfl _ _ Z7 (by rw[infoM,hs1]) (by rw[hs1];rfl) ha1 ?_)
   | (refine wpList_store_row rfl 40 _ _ rfl _ _ rfl rfl _ _ Z8 (by rw[infoTo,hs2]) (by rw[hs2];rfl) ha2 ?_))
  clear Z7 Z8 hs1 ha1 hs2 ha2 K5
  generalize ((((wB.alloc (.cells zM 33)).alloc (.cells zT 40)).setRow wB.heap.size cs3).setRow (wB.heap.size+1) cs4)=wD at *
  generalize wB.heap.size=n11 at *
  have qq:(E==E)=true:=by simp
  obtain⟨u1,m1,d1,u2,m2,d2,u3,m3,d3,e1,-⟩:=id HMY.out
  obtain⟨t1,k1,f1,t2,k2,f2,e2,-⟩:=id HTU.out
  obtain⟨v1,g1,h1,v2,g2,h2,v3,g3,h3,e3,-⟩:=id hM.out
  obtain⟨r1,p1,o1,r2,p2,o2,e4,-⟩:=id hT.out
  subst e1
  subst e2
  subst e3
  subst e4
  obtain⟨⟨i0,i1,i2,i3⟩,⟨j0,j1,j2,j3,j4,j5,j6,j7,j8,j9,j10,j11⟩,s0⟩:=W7.sixteen
  obtain⟨⟨l0,l1,l2,l3⟩,⟨c0,c1,c2,c3,c4,c5,c6,c7,c8,c9,c10,c11⟩,s1⟩:=X7.sixteen
  go_wp2_with fail
  refine (aCw HMY.out hM.out).mono ?_
  rintro e w7 ⟨rfl,b7⟩
  rw[aC6]
  clear i0 i1 i2 i3 j0 j1 j2 j3 j4 j5 j6 j7 j8 j9 j10 j11 s0 l0 l1 l2 l3 c0 c1 c2 c3 c4 c5 c6 c7 c8 c9 c10 c11 s1
  have W8:=W8.keep b7
  have X8:=X8.keep b7
  obtain⟨y0,y1,y2,y3,-,-,-,-,s8⟩:=W8.four
  obtain⟨x0,x1,x2,x3,-,-,-,-,s9⟩:=X8.four
  go_wp2_with fail
  refine (aC0 (HTU.out.keep b7) (hT.out.keep b7)).mono ?_
  rintro e w8 ⟨rfl,b8⟩
  clear y0 y1 y2 y3 s8 x0 x1 x2 x3 s9
  go_wp2_with fail
  go_ret
  exact⟨rfl,aB BV.out (aB b7 b8)⟩
theorem aC7 (u:Value)(zs:List Int)(p:Int)(v:Value)(r:List Int)(d:Bool)(mo ba op oh ot fe fp fh ft:Int)(st lo:Bool)(vc:Value)(l:List Ln)(kd num dv a ct:Int)(wr:Bool)(y:Value)(ds:List Int)(u1:Value)(zs1:List Int)(p1:Int)(v1:Value)(r1:List Int)(d1:Bool)(mo1 ba1 op1 oh1 ot1 fe1 fp1 fh1 ft1:Int)(st1 lo1:Bool)(vc1:Value)(l1:List Ln)(w:World)(hm:Sl w u zs∧Sl w v r∧Ls w vc l)(hx:Sl w y ds)(hn:Sl w u1 zs1∧Sl w v1 r1∧Ls w vc1 l1):
  Calls Tryz.prog 3 #[.agg (rM u p v d mo ba vc op oh ot st fe fp fh ft lo),.agg #[J kd,J num,J dv,J a,J ct,.bool wr,y],.agg (rM u1 p1 v1 d1 mo1 ba1 vc1 op1 oh1 ot1 st1 fe1 fp1 fh1 ft1 lo1)] w fun e w'=>e=.returned (.bool true)∧Below w.heap.size w w':=by
 obtain⟨da,dc,rfl⟩:=hx.shape
 exact aDa (x:=⟨kd,num,dv,a,ct,wr,ds⟩) (isM_any hm) ⟨_,_,_,rfl,hx⟩ (isM_any hn)
end Go.Proofs.YthlhocneggcekaaGreat
namespace Go.Proofs.YthlhocneggcekaaGreat
open Go.ChangeShapes Go.WideShapes Go.ChangeAt Go.RowKit
set_option linter.unusedVariables false
set_option maxRecDepth 100000 in
theorem aC5 (os:Os)(started:os.Started)(H:Type)(enc:TypeId × Value→H):
  ReturnsInHanded {} Tryz.checked os 3 .any (Rows.machineSaysSpec.pre6 enc Tryz.prog Tryz.f3 Rows.machineSaysRow.domain false) (Rows.machineSaysSpec.post enc Tryz.prog Tryz.f3 false true false false):=by
 refine returnsInHanded_of_change (C:=Tryz.checked) law_own started (by kernel_rfl) Tryz.func3
  (ChangeSpec.witness6 (enc:=enc) (C:=Tryz.checked) false ⟨#[],#[.agg zM,.agg #[J 0,J 0,J 0,J 0,J 0,.bool false,.slice none 0 0],.agg zM],[]⟩ 8 (by kernel_rfl) (by kernel_rfl) (by kernel_rfl) (by kernel_rfl)) ?_
 intro W base args ds gs before hval0 hW hcnd _
 have hval:∀(j:Nat) t v,Tryz.f3.params[j]?=some t→args[j]?=some v→Value.okWide Tryz.prog W .any base t v:=hval0
 have hW':=hW
 obtain⟨p,q,hA0,hV,rfl,hfz,hnd⟩:=hW
 have hA:DataW.TrodAll enc Tryz.prog W 0 (fun _=>true) true Tryz.f3.params.toList args.toList ds p:=hA0
 rw[Tryz.params3] at hA hval
 obtain⟨v0,vs0,d0,ds0,p0,q0,hargs,rfl,rfl,h0,r0⟩:=trodAll_cons hA
 obtain⟨v1,vs1,d1,ds1,p1,q1,rfl,rfl,rfl,h1,r1⟩:=trodAll_cons r0
 obtain⟨v2,vs2,d2,ds2,p2,q2,rfl,rfl,rfl,h2,r2⟩:=trodAll_cons r1
 obtain⟨rfl,rfl,rfl⟩:=trodAll_nil r2
 obtain rfl:args=#[v0,v1,v2]:=by cases args;simp_all
 obtain⟨rfl,rfl⟩:=trodVars_none hV
 have k0:=h0
 have lt0:∀x∈p0,x.block<W.heap.size:=by obtain⟨m,hm⟩:=k0;exact DataW.trod_lt m _ _ _ hm
 have k1:=h1
 have lt1:∀x∈p1,x.block<W.heap.size:=by obtain⟨m,hm⟩:=k1;exact DataW.trod_lt m _ _ _ hm
 have k2:=h2
 have lt2:∀x∈p2,x.block<W.heap.size:=by obtain⟨m,hm⟩:=k2;exact DataW.trod_lt m _ _ _ hm
 obtain⟨u0,zs0,x0,y0,g0,f0,mo0,ba0,op0,oh0,ot0,fe0,fp0,fh0,ft0,st0,lo0,vc0,l0,rfl,s0⟩:=open_mch (hval 0 33 v0 rfl rfl) h0
 obtain⟨b1,m1,x1,y1,z1,f1,u1,l1,rfl,s1⟩:=open_hap (hval 1 37 v1 rfl rfl) h1
 obtain⟨u2,zs2,x2,y2,g2,f2,mo2,ba2,op2,oh2,ot2,fe2,fp2,fh2,ft2,st2,lo2,vc2,l2,rfl,s2⟩:=open_mch (hval 2 33 v2 rfl rfl) h2
 clear hA0 hval0
 refine (aC7 u0 zs0 x0 y0 g0 f0 mo0 ba0 op0 oh0 ot0 fe0 fp0 fh0 ft0 st0 lo0 vc0 l0 b1 m1 x1 y1 z1 f1 u1 l1 u2 zs2 x2 y2 g2 f2 mo2 ba2 op2 oh2 ot2 fe2 fp2 fh2 ft2 st2 lo2 vc2 l2 W s0 s1 s2).mono fun e W' ⟨he,bel⟩=>?_
 subst he
 exact⟨_,rfl,_,_,_,[],_,[],hW',trodAll_mk1 (shut_bool Tryz.underlying4 _),(trodAll_cons_mk (Below.trod law_laidOut (by kernel_rfl) (of_decide_eq_true (by kernel_rfl)) k0 bel lt0) (trodAll_cons_mk (Below.trod law_laidOut (by kernel_rfl) (of_decide_eq_true (by kernel_rfl)) k1 bel lt1) (trodAll_cons_mk (Below.trod law_laidOut (by kernel_rfl) (of_decide_eq_true (by kernel_rfl)) k2 bel lt2) trodAll_mk0))),rfl,bel.frame _,fun h=>by cases h⟩
theorem aC8:Rows.machineSaysRow.holds Tryz.pinned (OpenSpec.ofChange Rows.machineSaysSpec):=
 OpenClaim.holds_of_wide 3 Tryz.f3 rfl rfl rfl rfl rfl rfl rfl ⟨rfl,rfl,rfl,rfl,rfl⟩ rfl rfl rfl rfl rfl (by kernel_rfl) Tryz.func3 (by kernel_rfl)
  (of_decide_eq_true (by kernel_rfl)) (by unfold Func.isWrapper;first|(rw[if_pos (by decide +kernel)];kernel_rfl)|(rw[if_neg (by decide +kernel)];exact⟨rfl,rfl⟩))
  (fun os started H enc _=>aC5 os started H enc)
theorem msays_holds:Rows.MachineSaysSaid:=aC8
#print axioms msays_holds
end Go.Proofs.YthlhocneggcekaaGreat
