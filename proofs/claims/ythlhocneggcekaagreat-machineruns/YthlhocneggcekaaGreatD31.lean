/-
  Laid together: ObeyB, ObeyedR, EqualT, RefAsk.
-/
import Derived.Test.YthlhocneggcekaaGreatD17
import Derived.Test.YthlhocneggcekaaGreatD20
namespace Go.Proofs.YthlhocneggcekaaGreat
open Go.RowKit
abbrev ObOutN (zs:List Int)(b:Br)(w:World)(e:Ending)(w':World):Prop:=
 ∃mo1 ba1 op1 oh1 ot1 fe1 fp1 fh1 ft1 st1 lo1 va1 vk1 l1,e=.returned (.tuple #[.agg (rB mo1 ba1 (.slice va1 l1.length vk1) op1 oh1 ot1 st1 fe1 fp1 fh1 ft1 lo1),J (obE zs b)])∧obB zs b=⟨mo1,ba1,l1,op1,oh1,ot1,st1,fe1,fp1,fh1,ft1,lo1⟩∧Ls w' (.slice va1 l1.length vk1) l1∧Fresh w.heap.size (.slice va1 l1.length vk1)∧Below w.heap.size w w'
set_option maxHeartbeats 4000000 in
theorem xR (v:Value)(zs:List Int)(mo ba op oh ot fe fp fh ft:Int)(st lo:Bool)(vc:Value)(l:List Ln)(w:World)(hs:Sl w v zs)(h:Ls w vc l):
  Calls Tryz.prog 66 #[.agg #[v],.agg (rB mo ba vc op oh ot st fe fp fh ft lo)] w fun e w'=>ObOutN zs ⟨mo,ba,l,op,oh,ot,st,fe,fp,fh,ft,lo⟩ w e w':=by
 have HS:Hid (Ls w vc l):=h
 obtain⟨va,vk,rfl,-⟩:=h.shape
 have HM:Hid (Sl w v zs):=hs
 obtain⟨ma,mc,rfl⟩:=hs.shape
 clear h hs
 go_enter Tryz.func66,Tryz.ntmps66
 go_wp2_with fail
 have B0:Hid (Below w.heap.size w _):=aA (aA (aA (Below.refl w.heap.size w) (.cells #[.slice ma zs.length mc] 24)) (.cells (rB mo ba (.slice va l.length vk) op oh ot st fe fp fh ft lo) 31)) (.cells zB 31)
 refine (eT _ zs mo ba op oh ot fe fp fh ft st lo (.slice va l.length vk) l _ (HM.out.keep B0.out) (HS.out.keep B0.out)).mono ?_
 rintro e w1 ⟨rfl,b1⟩
 have X0:=(((Box.newAt (n:=w.heap.size) rfl 24 #[.slice ma zs.length mc]).past _).past _).keep b1
 have X1:=((Box.newAt (n:=w.heap.size+1) (by simp) 31 (rB mo ba (.slice va l.length vk) op oh ot st fe fp fh ft lo)).past _).keep b1
 have X2:=(Box.newAt (n:=w.heap.size+1+1) (by simp) 31 zB).keep b1
 have B1:Hid (Below w.heap.size w w1):=aB B0.out b1
 clear b1 B0
 obtain⟨m0,-,s0⟩:=X0.one
 obtain⟨⟨q0,q1,q2,q3,q4,q5,q6,q7,q8,q9,q10,q11⟩,s1⟩:=X1.twelve
 obtain⟨⟨u0,u1,u2,u3,u4,u5,u6,u7,u8,u9,u10,u11⟩,s2⟩:=X2.twelve
 obtain⟨y0,y1,y2,y3,y4,y5,y6,y7,y8,y9,y10,y11⟩:=X2.marks
 by_cases hk:bothB zs ⟨mo,ba,l,op,oh,ot,st,fe,fp,fh,ft,lo⟩=0
 rotate_left
 ·have HE:Hid (obE zs ⟨mo,ba,l,op,oh,ot,st,fe,fp,fh,ft,lo⟩=bothB zs ⟨mo,ba,l,op,oh,ot,st,fe,fp,fh,ft,lo⟩):=if_neg hk
  have HB:Hid (obB zs ⟨mo,ba,l,op,oh,ot,st,fe,fp,fh,ft,lo⟩=B0):=if_neg (by rw[HE.out];exact hk)
  generalize bothB zs ⟨mo,ba,l,op,oh,ot,st,fe,fp,fh,ft,lo⟩=E at *
  have hq:(E !=0)=true:=by simpa using hk
  go_wp2
  refine bodyPost_ret (v:=.tuple #[.agg zB,J E]) (by simp[results,Tryz.results66,go_sem, *]) rfl ⟨_,_,_,_,_,_,_,_,_,_,_,_,_,[],by rw[HE.out];rfl,HB.out,Ls.nothing _,Fresh.none _ _ _,?_⟩
  (repeat (first|with_reducible exact B1.out|with_reducible refine aA ?_ _|(with_reducible refine aJ ?_ ?_ _ _ _ _ _ _ _ _ _ _ _ _;(focus omega))|(with_reducible refine aI ?_ ?_ _;(focus (dsimp only;omega)))))
 have HK:Hid (_=_):=hk
 rw[hk]
 clear hk
 cases st
 rotate_left
 ·have HE:Hid (obE zs ⟨mo,ba,l,op,oh,ot,true,fe,fp,fh,ft,lo⟩=6):=by show _=_;rw[obE,if_pos HK.out];rfl
  have HB:Hid (obB zs ⟨mo,ba,l,op,oh,ot,true,fe,fp,fh,ft,lo⟩=B0):=if_neg (by rw[HE.out];decide)
  go_wp2
  refine bodyPost_ret (v:=.tuple #[.agg zB,J 6]) (by simp[results,Tryz.results66,go_sem, *]) rfl ⟨_,_,_,_,_,_,_,_,_,_,_,_,_,[],by rw[HE.out];rfl,HB.out,Ls.nothing _,Fresh.none _ _ _,?_⟩
  (repeat (first|with_reducible exact B1.out|with_reducible refine aA ?_ _|(with_reducible refine aJ ?_ ?_ _ _ _ _ _ _ _ _ _ _ _ _;(focus omega))|(with_reducible refine aI ?_ ?_ _;(focus (dsimp only;omega)))))
 have HZ:Hid (chk zs=0):=(bL HK.out).1
 have HR:Hid (chkR op oh ot=0):=(bK (bL HK.out).2).2.2.2.2.1
 have hl6:l.length≤6:=(aW.1 (bK (bL HK.out).2).2.2.2.1).1
 by_cases ho:oh=ot
 ·subst ho
  have HE:Hid (obE zs ⟨mo,ba,l,op,oh,oh,false,fe,fp,fh,ft,lo⟩=6):=by show _=_;rw[obE,if_pos HK.out];simp
  have HB:Hid (obB zs ⟨mo,ba,l,op,oh,oh,false,fe,fp,fh,ft,lo⟩=B0):=if_neg (by rw[HE.out];decide)
  go_wp2_with fail
  refine (yU (HM.out.keep B1.out) HZ.out HR.out).mono ?_
  rintro e w2 ⟨rfl,b2⟩
  clear m0 s0 q0 q1 q2 q3 q4 q5 q6 q7 q8 q9 q10 q11 s1 u0 u1 u2 u3 u4 u5 u6 u7 u8 u9 u10 u11 y0 y1 y2 y3 y4 y5 y6 y7 y8 y9 y10 y11 s2
  have X2:=X2.keep b2
  have B2:Hid (Below w.heap.size w w2):=aB B1.out b2
  clear b2 B1
  obtain⟨⟨u0,u1,u2,u3,u4,u5,u6,u7,u8,u9,u10,u11⟩,s2⟩:=X2.twelve
  obtain⟨y0,y1,y2,y3,y4,y5,y6,y7,y8,y9,y10,y11⟩:=X2.marks
  go_wp2
  refine bodyPost_ret (v:=.tuple #[.agg zB,J 6]) (by simp[results,Tryz.results66,go_sem, *]) rfl ⟨_,_,_,_,_,_,_,_,_,_,_,_,_,[],by rw[HE.out];rfl,HB.out,Ls.nothing _,Fresh.none _ _ _,?_⟩
  (repeat (first|with_reducible exact B2.out|with_reducible refine aA ?_ _|(with_reducible refine aJ ?_ ?_ _ _ _ _ _ _ _ _ _ _ _ _;(focus omega))|(with_reducible refine aI ?_ ?_ _;(focus (dsimp only;omega)))))
 have hE:obE zs ⟨mo,ba,l,op,oh,ot,false,fe,fp,fh,ft,lo⟩=0:=by rw[obE,if_pos HK.out];exact if_neg ho
 have HE:Hid (_=_):=hE
 have HO:Hid (¬oh=ot):=ho
 have hfe:0≤fe∧fe≤999:=(bK (bL HK.out).2).2.2.1
 clear ho hE
 go_wp2_with fail
 refine (pop_ok (HM.out.keep B1.out) HZ.out HR.out HO.out).mono ?_
 rintro e w2 ⟨rfl,b2⟩
 obtain⟨z,hz⟩:∃z,nth zs (op*8+oh).toNat=z:=⟨_,rfl⟩
 have HW:Hid (ordW zs ⟨mo,ba,l,op,oh,ot,false,fe,fp,fh,ft,lo⟩=z):=hz
 rw[hz]
 clear hz
 clear m0 s0 q0 q1 q2 q3 q4 q5 q6 q7 q8 q9 q10 q11 s1 u0 u1 u2 u3 u4 u5 u6 u7 u8 u9 u10 u11 y0 y1 y2 y3 y4 y5 y6 y7 y8 y9 y10 y11 s2
 have X1:=X1.keep b2
 have X2:=X2.keep b2
 have B2:Hid (Below w.heap.size w w2):=aB B1.out b2
 clear b2 B1 X0
 obtain⟨⟨q0,q1,q2,q3,q4,q5,q6,q7,q8,q9,q10,q11⟩,s1⟩:=X1.twelve
 obtain⟨⟨u0,u1,u2,u3,u4,u5,u6,u7,u8,u9,u10,u11⟩,s2⟩:=X2.twelve
 obtain⟨y0,y1,y2,y3,y4,y5,y6,y7,y8,y9,y10,y11⟩:=X2.marks
 obtain⟨nh,hnh⟩:∃z,(oh+1)%8=z:=⟨_,rfl⟩
 have HNH:Hid (_=_):=hnh
 rw[hnh]
 clear hnh
 go_wp2_with fail
 refine (gK mo ba op oh ot fe fp fh ft false lo (.slice va l.length vk) l _ (HS.out.keep (aA B2.out _)) hl6).mono ?_
 rintro e w3 ⟨gl,hgl,rfl,hS3,b3⟩
 have FG:Hid (w.heap.size≤gl):=by
  have q0:=B2.out.size
  have q1:w2.heap.size+1≤gl:=by simpa using hgl
  show _≤_
  omega
 clear hgl
 have XR:=(Box.newAt (w:=w2) rfl 29 #[J op,J nh,J ot]).keep b3
 have zR:w.heap.size+1+1<w2.heap.size:=s2
 clear q0 q1 q2 q3 q4 q5 q6 q7 q8 q9 q10 q11 s1
 clear u0 u1 u2 u3 u4 u5 u6 u7 u8 u9 u10 u11 y0 y1 y2 y3 y4 y5 y6 y7 y8 y9 y10 y11 s2
 have X2:=(X2.past _).keep b3
 have B3:Hid (Below w.heap.size w w3):=aB (aA B2.out _) b3
 have H3:Hid (Ls _ _ _):=hS3
 have AP2:Hid (Apart _ _ _):=hS3.apart X2
 have zN:w2.heap.size<w3.heap.size:=XR.lt
 clear b3 B2 X1 hS3
 obtain⟨c,e1,hro⟩:∃c e1,(roO z=c∧roE z=e1):=⟨_,_,rfl,rfl⟩
 obtain⟨k,d,p⟩:=c
 obtain⟨hO,hEE⟩:=hro
 have HRO:Hid (roO z=(k,d,p)):=hO
 have HRE:Hid (roE z=e1):=hEE
 clear hO hEE
 go_wp2_with fail
 refine (pQ HRE.out HRO.out).mono ?_
 rintro e w4 ⟨rfl,b4⟩
 have X2:=(X2.past _).keep b4
 have XR:=(XR.past _).keep b4
 have XN:=(Box.newAt (w:=w3) rfl 31 (rB mo ba (.slice (some ⟨gl,0,none⟩) l.length l.length) op oh ot false fe fp fh ft lo)).keep b4
 have H4:Hid (Ls _ _ _):=(H3.out.alloc _).keep b4
 have APN:Hid (Apart _ _ _):=H4.out.apart XN
 have B4:Hid (Below w.heap.size w w4):=aB (aA B3.out _) b4
 have zO:w3.heap.size<w4.heap.size:=XN.lt
 clear b4 B3 H3
 generalize w3.heap.size=N at *
 generalize w2.heap.size=R at *
 obtain⟨⟨n0,n1,n2,n3,n4,n5,n6,n7,n8,n9,n10,n11⟩,sN⟩:=XN.twelve
 obtain⟨i0,i1,i2,i3,i4,i5,i6,i7,i8,i9,i10,i11⟩:=XN.marks
 obtain⟨r0,r1,r2,-,-,-,sR⟩:=XR.three
 obtain⟨⟨u0,u1,u2,u3,u4,u5,u6,u7,u8,u9,u10,u11⟩,s2⟩:=X2.twelve
 obtain⟨y0,y1,y2,y3,y4,y5,y6,y7,y8,y9,y10,y11⟩:=X2.marks
 have nN2:¬N=w.heap.size+1+1:=by omega
 have nM2:¬w.heap.size+1+1=N:=by omega
 have nR2:¬R=w.heap.size+1+1:=by omega
 have nRN:¬R=N:=by omega
 have nNR:¬N=R:=by omega
 have zN0:w.heap.size≤N:=by omega
 by_cases he:e1=0
 rotate_left
 ·have HB:Hid (obB zs ⟨mo,ba,l,op,oh,ot,false,fe,fp,fh,ft,lo⟩=⟨mo,ba,l,op,oh,ot,true,fe,fp,fh,ft,lo⟩):=(tC HE.out (by rw[HW.out,HRE.out];exact he)).1
  have hq:(e1 !=0)=true:=by simpa using he
  go_wp2
  refine bodyPost_ret (v:=.tuple #[.agg (rB mo ba (.slice (some ⟨gl,0,none⟩) l.length l.length) op oh ot true fe fp fh ft lo),J 0]) (by simp[results,Tryz.results66,go_sem, *]) rfl ⟨_,_,_,_,_,_,_,_,_,_,_,_,_,l,by rw[HE.out],HB.out,?_,bJ FG.out _ _ _,?_⟩
  ·exact Ls.alloc (Ls.put12 (Ls.putAt H4.out APN.out 6 _) AP2.out _ _ _ _ _ _ _ _ _ _ _ _) _
  ·exact aA (aJ (by omega) (aI (p:=⟨N,6,none⟩) zN0 B4.out _) _ _ _ _ _ _ _ _ _ _ _ _) _
 subst he
 obtain⟨eB,-,eD,hk3,-⟩:=lU (k:=k) (d:=d) (p:=p) HE.out (by rw[HW.out];exact HRE.out) (by rw[HW.out];exact HRO.out)
 have HB:Hid (obB zs ⟨mo,ba,l,op,oh,ot,false,fe,fp,fh,ft,lo⟩=⟨mo,ba,drC l k d p,op,(oh+1)%8,ot,false,if k=0 then (fe+1)%1000 else fe,fp,fh,ft,lo⟩):=eB
 have HD:Hid (drE l k=0):=eD
 clear eB eD
 obtain⟨c,hc⟩:∃c,drC l k d p=c:=⟨_,rfl⟩
 have HC:Hid (_=_):=hc
 clear hc
 go_wp2_with fail
 have X2:=(((X2.other (p:=⟨N,3,none⟩) nM2 (J op)).other (p:=⟨N,4,none⟩) nM2 (J nh)).other (p:=⟨N,5,none⟩) nM2 (J ot)).past (.cells #[J k,J d,J p] 115)
 have XN:Box ((((w4.setCell ⟨N,3,none⟩ (J op)).setCell ⟨N,4,none⟩ (J nh)).setCell ⟨N,5,none⟩ (J ot)).alloc (.cells #[J k,J d,J p] 115)) N 31 (rB mo ba (.slice (some ⟨gl,0,none⟩) l.length l.length) op nh ot false fe fp fh ft lo):=(((XN.set 3 (J op)).set 4 (J nh)).set 5 (J ot)).past _
 have XO:Box ((((w4.setCell ⟨N,3,none⟩ (J op)).setCell ⟨N,4,none⟩ (J nh)).setCell ⟨N,5,none⟩ (J ot)).alloc (.cells #[J k,J d,J p] 115)) w4.heap.size 115 #[J k,J d,J p]:=Box.newAt (by simp) _ _
 have H5:Hid (Ls ((((w4.setCell ⟨N,3,none⟩ (J op)).setCell ⟨N,4,none⟩ (J nh)).setCell ⟨N,5,none⟩ (J ot)).alloc (.cells #[J k,J d,J p] 115)) _ l):=(((H4.out.putAt APN.out 3 _).putAt APN.out 4 _).putAt APN.out 5 _).alloc _
 have B5:Hid (Below w.heap.size w ((((w4.setCell ⟨N,3,none⟩ (J op)).setCell ⟨N,4,none⟩ (J nh)).setCell ⟨N,5,none⟩ (J ot)).alloc (.cells #[J k,J d,J p] 115))):=aA (aI (p:=⟨N,5,none⟩) zN0 (aI (p:=⟨N,4,none⟩) zN0 (aI (p:=⟨N,3,none⟩) zN0 B4.out _) _) _) _
 clear n0 n1 n2 n3 n4 n5 n6 n7 n8 n9 n10 n11 sN i0 i1 i2 i3 i4 i5 i6 i7 i8 i9 i10 i11 r0 r1 r2 sR u0 u1 u2 u3 u4 u5 u6 u7 u8 u9 u10 u11 y0 y1 y2 y3 y4 y5 y6 y7 y8 y9 y10 y11 s2 H4 B4 XR
 have nO2:¬w4.heap.size=w.heap.size+1+1:=by omega
 have nON:¬w4.heap.size=N:=by omega
 generalize ((((w4.setCell ⟨N,3,none⟩ (J op)).setCell ⟨N,4,none⟩ (J nh)).setCell ⟨N,5,none⟩ (J ot)).alloc (.cells #[J k,J d,J p] 115))=W5 at *
 generalize w4.heap.size=O at *
 refine (zZ H5.out (by omega) (by omega) HD.out HC.out).mono ?_
 rintro e w6 ⟨b6,cap6,rfl,hS6,hF6,bb⟩
 have F6:Hid (Fresh w.heap.size (.slice b6 c.length cap6)):=hF6.mono B5.out.size
 clear hF6
 have X2:=X2.keep bb
 have XN:=XN.keep bb
 have XO:=XO.keep bb
 have AP2:Hid (Apart _ _ _):=hS6.apart X2
 have APN:Hid (Apart _ _ _):=hS6.apart XN
 have H6:Hid (Ls _ _ _):=hS6
 have B6:Hid (Below w.heap.size w w6):=aB B5.out bb
 clear bb B5 H5 hS6
 obtain⟨⟨n0,n1,n2,n3,n4,n5,n6,n7,n8,n9,n10,n11⟩,sN⟩:=XN.twelve
 obtain⟨-,-,i2,-,-,-,-,i7,-,-,-,-⟩:=XN.marks
 obtain⟨o0,o1,o2,-,-,-,sO⟩:=XO.three
 obtain⟨⟨u0,u1,u2,u3,u4,u5,u6,u7,u8,u9,u10,u11⟩,s2⟩:=X2.twelve
 obtain⟨y0,y1,y2,y3,y4,y5,y6,y7,y8,y9,y10,y11⟩:=X2.marks
 by_cases hk0:k=0
 ·subst hk0
  have f0:0≤fe:=hfe.1
  have f1:fe≤999:=hfe.2
  go_wp2
  refine bodyPost_ret (v:=.tuple #[.agg (rB mo ba (.slice b6 c.length cap6) op nh ot false ((fe+1)%1000) fp fh ft lo),J 0]) (by simp[results,Tryz.results66,go_sem, *]) rfl ⟨_,_,_,_,_,_,_,_,_,_,_,_,_,c,by rw[HE.out],HB.out.trans (by rw[HC.out,HNH.out];rfl),?_,F6.out,?_⟩
  ·exact Ls.put12 (Ls.putAt (Ls.putAt H6.out APN.out 2 _) APN.out 7 _) AP2.out _ _ _ _ _ _ _ _ _ _ _ _
  ·exact aJ (by omega) (aI (p:=⟨N,7,none⟩) zN0 (aI (p:=⟨N,2,none⟩) zN0 B6.out _) _) _ _ _ _ _ _ _ _ _ _ _ _
 ·have hq:(k==0)=false:=by simpa using hk0
  have HK0:Hid (¬k=0):=hk0
  clear hk0
  go_wp2
  refine bodyPost_ret (v:=.tuple #[.agg (rB mo ba (.slice b6 c.length cap6) op nh ot false fe fp fh ft lo),J 0]) (by simp[results,Tryz.results66,go_sem, *]) rfl ⟨_,_,_,_,_,_,_,_,_,_,_,_,_,c,by rw[HE.out],HB.out.trans (by rw[HC.out,HNH.out,if_neg HK0.out]),?_,F6.out,?_⟩
  ·exact Ls.put12 (Ls.putAt H6.out APN.out 2 _) AP2.out _ _ _ _ _ _ _ _ _ _ _ _
  ·exact aJ (by omega) (aI (p:=⟨N,2,none⟩) zN0 B6.out _) _ _ _ _ _ _ _ _ _ _ _ _
theorem sG {v:Value}{l:List Ln}{k d p:Int}{w:World}(h:Ls w v l){e0:Int}{c:List Ln}(hE:drE l k=e0)(hC:drC l k d p=c):
  Calls Tryz.prog 81 #[v,.agg #[J k,J d,J p]] w fun e w'=>∃b cap,e=.returned (.tuple #[.slice b c.length cap,J e0])∧Ls w' (.slice b c.length cap) c∧Fresh w.heap.size (.slice b c.length cap)∧Below w.heap.size w w':=by
 subst hE hC
 refine (dropped_anyN v l k d p w h).mono ?_
 rintro e w' ⟨⟨v',rfl,hs,hf⟩,hb⟩
 obtain⟨b,cap,rfl,hs'⟩:=hs.shape
 exact⟨b,cap,rfl,hs',hf,hb⟩
abbrev ObOutS (vc:Value)(zs:List Int)(b:Br)(w:World)(e:Ending)(w':World):Prop:=
 ∃mo1 ba1 op1 oh1 ot1 fe1 fp1 fh1 ft1 st1 lo1 va1 vk1 l1,e=.returned (.tuple #[.agg (rB mo1 ba1 (.slice va1 l1.length vk1) op1 oh1 ot1 st1 fe1 fp1 fh1 ft1 lo1),J (obE zs b)])∧obB zs b=⟨mo1,ba1,l1,op1,oh1,ot1,st1,fe1,fp1,fh1,ft1,lo1⟩∧(Value.slice va1 l1.length vk1=vc∨Fresh w.heap.size (.slice va1 l1.length vk1))∧Ls w' (.slice va1 l1.length vk1) l1∧Below w.heap.size w w'
set_option maxHeartbeats 8000000 in
theorem obeyed_anyN (v:Value)(zs:List Int)(mo ba op oh ot fe fp fh ft:Int)(st lo:Bool)(vc:Value)(l:List Ln)(w:World)(hs:Sl w v zs)(h:Ls w vc l)(hk:bothB zs ⟨mo,ba,l,op,oh,ot,st,fe,fp,fh,ft,lo⟩=0):
  Calls Tryz.prog 50 #[.agg #[v],.agg (rB mo ba vc op oh ot st fe fp fh ft lo)] w fun e w'=>ObOutS vc zs ⟨mo,ba,l,op,oh,ot,st,fe,fp,fh,ft,lo⟩ w e w':=by
 have HS:Hid (Ls w vc l):=h
 obtain⟨va,vk,rfl,-⟩:=h.shape
 have HK:Hid (_=_):=hk
 have HZ:chk zs=0:=(bL hk).1
 obtain⟨b,o,cap,rfl,hb,hcs⟩:=hs.open512 (bF HZ).1
 have HCS:Hid (∀i,i<512→w.cell? ⟨b,o+i,none⟩=some (J (nth zs i))):=hcs
 clear h hs hk HZ hcs
 have B1:Hid (Below w.heap.size w ((((w.alloc (.cells #[.slice (some ⟨b,o,none⟩) 512 cap] 24)).alloc (.cells (rB mo ba (.slice va l.length vk) op oh ot st fe fp fh ft lo) 31)).alloc (.cells zB 31)))):=aA (aA (aA (Below.refl w.heap.size w) (.cells #[.slice (some ⟨b,o,none⟩) 512 cap] 24)) (.cells (rB mo ba (.slice va l.length vk) op oh ot st fe fp fh ft lo) 31)) (.cells zB 31)
 have BW:Hid (Below w.heap.size w w):=Below.refl _ _
 cases st
 rotate_left
 ·have HE:Hid (obE zs ⟨mo,ba,l,op,oh,ot,true,fe,fp,fh,ft,lo⟩=6):=by show _=_;rw[obE,if_pos HK.out];rfl
  have HB:Hid (obB zs ⟨mo,ba,l,op,oh,ot,true,fe,fp,fh,ft,lo⟩=B0):=if_neg (by rw[HE.out];decide)
  go_enter Tryz.func50,Tryz.ntmps50
  go_wp2
  refine bodyPost_ret (v:=.tuple #[.agg zB,J 6]) (by simp[results,Tryz.results50,go_sem, *]) rfl ⟨_,_,_,_,_,_,_,_,_,_,_,_,_,[],by rw[HE.out];rfl,HB.out,.inr (Fresh.none _ _ _),Ls.nothing _,?_⟩
  (repeat (first|with_reducible exact BW.out|with_reducible refine Below.drew ?_|with_reducible refine aA ?_ _|(with_reducible refine aJ ?_ ?_ _ _ _ _ _ _ _ _ _ _ _ _;(focus omega))|(with_reducible refine aI ?_ ?_ _;(focus (dsimp only;omega)))))
 by_cases ho:oh=ot
 ·subst ho
  have HE:Hid (obE zs ⟨mo,ba,l,op,oh,oh,false,fe,fp,fh,ft,lo⟩=6):=by show _=_;rw[obE,if_pos HK.out];simp
  have HB:Hid (obB zs ⟨mo,ba,l,op,oh,oh,false,fe,fp,fh,ft,lo⟩=B0):=if_neg (by rw[HE.out];decide)
  go_enter Tryz.func50,Tryz.ntmps50
  go_wp2
  refine bodyPost_ret (v:=.tuple #[.agg zB,J 6]) (by simp[results,Tryz.results50,go_sem, *]) rfl ⟨_,_,_,_,_,_,_,_,_,_,_,_,_,[],by rw[HE.out];rfl,HB.out,.inr (Fresh.none _ _ _),Ls.nothing _,?_⟩
  (repeat (first|with_reducible exact BW.out|with_reducible refine Below.drew ?_|with_reducible refine aA ?_ _|(with_reducible refine aJ ?_ ?_ _ _ _ _ _ _ _ _ _ _ _ _;(focus omega))|(with_reducible refine aI ?_ ?_ _;(focus (dsimp only;omega)))))
 have hE:obE zs ⟨mo,ba,l,op,oh,ot,false,fe,fp,fh,ft,lo⟩=0:=by rw[obE,if_pos HK.out];exact if_neg ho
 have HE:Hid (_=_):=hE
 have hq:(oh==ot)=false:=by simpa using ho
 have hfe:0≤fe∧fe≤999:=(bK (bL HK.out).2).2.2.1
 obtain⟨rp,rh,-⟩:=dC (bK (bL HK.out).2).2.2.2.2.1
 obtain⟨p0,p1⟩:=dL rp
 obtain⟨h0,h1⟩:=bS rh
 dsimp only at p0 p1 h0 h1
 clear ho hE rp rh
 have gk:=HCS.out (8*op+oh).toNat (by omega)
 obtain⟨z,hz⟩:∃z,nth zs (8*op+oh).toNat=z:=⟨_,rfl⟩
 rw[hz] at gk
 have HW:Hid (ordW zs ⟨mo,ba,l,op,oh,ot,false,fe,fp,fh,ft,lo⟩=z):=by show _=_;rw[←hz,ordW,Int.mul_comm]
 have k0:0≤8*op+oh:=by omega
 have k1:8*op+oh<512:=by omega
 clear hz
 have z0:b<w.heap.size+1:=by omega
 have z1:b<w.heap.size+1+1:=by omega
 obtain⟨c,e1,hro⟩:∃c e1,(roO z=c∧roE z=e1):=⟨_,_,rfl,rfl⟩
 obtain⟨k,d,p⟩:=c
 obtain⟨hO,hEE⟩:=hro
 have HRO:Hid (roO z=(k,d,p)):=hO
 have HRE:Hid (roE z=e1):=hEE
 clear hO hEE
 go_enter Tryz.func50,Tryz.ntmps50
 go_wp2_with fail
 refine (tP HRE.out HRO.out).mono ?_
 rintro e w1 ⟨rfl,b1⟩
 have X1:=((Box.newAt (n:=w.heap.size+1) (by simp) 31 (rB mo ba (.slice va l.length vk) op oh ot false fe fp fh ft lo)).past _).keep b1
 have X2:=(Box.newAt (n:=w.heap.size+1+1) (by simp) 31 zB).keep b1
 have B2:Hid (Below w.heap.size w w1):=aB B1.out b1
 clear b1 B1 gk k0 k1 z0 z1
 obtain⟨⟨q0,q1,q2,q3,q4,q5,q6,q7,q8,q9,q10,q11⟩,s1⟩:=X1.twelve
 obtain⟨i0,i1,i2,i3,i4,i5,i6,i7,i8,i9,i10,i11⟩:=X1.marks
 obtain⟨⟨u0,u1,u2,u3,u4,u5,u6,u7,u8,u9,u10,u11⟩,s2⟩:=X2.twelve
 obtain⟨y0,y1,y2,y3,y4,y5,y6,y7,y8,y9,y10,y11⟩:=X2.marks
 by_cases he:e1=0
 rotate_left
 ·have HB:Hid (obB zs ⟨mo,ba,l,op,oh,ot,false,fe,fp,fh,ft,lo⟩=⟨mo,ba,l,op,oh,ot,true,fe,fp,fh,ft,lo⟩):=(tC HE.out (by rw[HW.out,HRE.out];exact he)).1
  have hqe:(e1 !=0)=true:=by simpa using he
  go_wp2
  refine bodyPost_ret (v:=.tuple #[.agg (rB mo ba (.slice va l.length vk) op oh ot true fe fp fh ft lo),J 0]) (by simp[results,Tryz.results50,go_sem, *]) rfl ⟨_,_,_,_,_,_,_,_,_,_,_,_,_,l,by rw[HE.out],HB.out,.inl rfl,HS.out.keep ?_,?_⟩
  all_goals (repeat (first|with_reducible exact B2.out|with_reducible refine Below.drew ?_|with_reducible refine aA ?_ _|(with_reducible refine aJ ?_ ?_ _ _ _ _ _ _ _ _ _ _ _ _;(focus omega))|(with_reducible refine aI ?_ ?_ _;(focus (dsimp only;omega)))))
 subst he
 obtain⟨eB,-,eD,hk3,-⟩:=lU (k:=k) (d:=d) (p:=p) HE.out (by rw[HW.out];exact HRE.out) (by rw[HW.out];exact HRO.out)
 have HB:Hid (obB zs ⟨mo,ba,l,op,oh,ot,false,fe,fp,fh,ft,lo⟩=⟨mo,ba,drC l k d p,op,(oh+1)%8,ot,false,if k=0 then (fe+1)%1000 else fe,fp,fh,ft,lo⟩):=eB
 have HD:Hid (drE l k=0):=eD
 clear eB eD
 obtain⟨c,hc⟩:∃c,drC l k d p=c:=⟨_,rfl⟩
 have HC:Hid (_=_):=hc
 clear hc
 go_wp2_with fail
 refine (sG (HS.out.keep (aA B2.out _)) HD.out HC.out).mono ?_
 rintro e w6 ⟨b6,cap6,rfl,hS6,hF6,bb⟩
 have F6:Hid (Fresh w.heap.size (.slice b6 c.length cap6)):=hF6.mono (aA B2.out _).size
 clear hF6
 have XO:=(Box.newAt (w:=w1) rfl 115 #[J k,J d,J p]).keep bb
 have nO2:¬w1.heap.size=w.heap.size+1+1:=by omega
 have nO1:¬w1.heap.size=w.heap.size+1:=by omega
 clear q0 q1 q2 q3 q4 q5 q6 q7 q8 q9 q10 q11 s1 i0 i1 i2 i3 i4 i5 i6 i7 i8 i9 i10 i11 u0 u1 u2 u3 u4 u5 u6 u7 u8 u9 u10 u11 y0 y1 y2 y3 y4 y5 y6 y7 y8 y9 y10 y11 s2
 have X1:=(X1.past _).keep bb
 have X2:=(X2.past _).keep bb
 have AP2:Hid (Apart _ _ _):=hS6.apart X2
 have APB:Hid (Apart _ _ _):=hS6.apart X1
 have H6:Hid (Ls _ _ _):=hS6
 have B6:Hid (Below w.heap.size w w6):=aB (aA B2.out _) bb
 clear bb B2 hS6
 generalize w1.heap.size=O at *
 obtain⟨o0,o1,o2,-,-,-,sO⟩:=XO.three
 obtain⟨⟨q0,q1,q2,q3,q4,q5,q6,q7,q8,q9,q10,q11⟩,s1⟩:=X1.twelve
 obtain⟨i0,i1,i2,i3,i4,i5,i6,i7,i8,i9,i10,i11⟩:=X1.marks
 obtain⟨⟨u0,u1,u2,u3,u4,u5,u6,u7,u8,u9,u10,u11⟩,s2⟩:=X2.twelve
 obtain⟨y0,y1,y2,y3,y4,y5,y6,y7,y8,y9,y10,y11⟩:=X2.marks
 by_cases hk0:k=0
 ·subst hk0
  have f0:0≤fe:=hfe.1
  have f1:fe≤999:=hfe.2
  by_cases hf:fe+1=1000
  ·obtain rfl:fe=999:=by omega
   clear hf f0 f1 hfe
   go_upto_region 13 with fail
   have Y1:Box ((((w6.setCell ⟨w.heap.size+1,2,none⟩ (.slice b6 c.length cap6)).setCell ⟨w.heap.size+1,4,none⟩ (J ((oh+1)%8))).setCell ⟨w.heap.size+1,7,none⟩ (J 1000)).setCell ⟨w.heap.size+1,7,none⟩ (J 0)) (w.heap.size+1) 31 (rB mo ba (.slice b6 c.length cap6) op ((oh+1)%8) ot false 0 fp fh ft lo):=(((X1.set 2 _).set 4 _).set 7 _).set 7 _
   have Y2:=(((X2.other (p:=⟨w.heap.size+1,2,none⟩) (by dsimp only;omega) (.slice b6 c.length cap6)).other (p:=⟨w.heap.size+1,4,none⟩) (by dsimp only;omega) (J ((oh+1)%8))).other (p:=⟨w.heap.size+1,7,none⟩) (by dsimp only;omega) (J 1000)).other (p:=⟨w.heap.size+1,7,none⟩) (by dsimp only;omega) (J 0)
   have H7:Hid (Ls ((((w6.setCell ⟨w.heap.size+1,2,none⟩ (.slice b6 c.length cap6)).setCell ⟨w.heap.size+1,4,none⟩ (J ((oh+1)%8))).setCell ⟨w.heap.size+1,7,none⟩ (J 1000)).setCell ⟨w.heap.size+1,7,none⟩ (J 0)) _ c):=(((H6.out.putAt APB.out 2 _).putAt APB.out 4 _).putAt APB.out 7 _).putAt APB.out 7 _
   have B7:Hid (Below w.heap.size w ((((w6.setCell ⟨w.heap.size+1,2,none⟩ (.slice b6 c.length cap6)).setCell ⟨w.heap.size+1,4,none⟩ (J ((oh+1)%8))).setCell ⟨w.heap.size+1,7,none⟩ (J 1000)).setCell ⟨w.heap.size+1,7,none⟩ (J 0))):=aI (p:=⟨w.heap.size+1,7,none⟩) (by dsimp only;omega) (aI (p:=⟨w.heap.size+1,7,none⟩) (by dsimp only;omega) (aI (p:=⟨w.heap.size+1,4,none⟩) (by dsimp only;omega) (aI (p:=⟨w.heap.size+1,2,none⟩) (by dsimp only;omega) B6.out _) _) _) _
   clear q0 q1 q2 q3 q4 q5 q6 q7 q8 q9 q10 q11 s1 i0 i1 i2 i3 i4 i5 i6 i7 i8 i9 i10 i11 u0 u1 u2 u3 u4 u5 u6 u7 u8 u9 u10 u11 y0 y1 y2 y3 y4 y5 y6 y7 y8 y9 y10 y11 s2 o0 o1 o2 sO H6 B6
   generalize ((((w6.setCell ⟨w.heap.size+1,2,none⟩ (.slice b6 c.length cap6)).setCell ⟨w.heap.size+1,4,none⟩ (J ((oh+1)%8))).setCell ⟨w.heap.size+1,7,none⟩ (J 1000)).setCell ⟨w.heap.size+1,7,none⟩ (J 0))=W7 at *
   obtain⟨⟨q0,q1,q2,q3,q4,q5,q6,q7,q8,q9,q10,q11⟩,s1⟩:=Y1.twelve
   obtain⟨⟨u0,u1,u2,u3,u4,u5,u6,u7,u8,u9,u10,u11⟩,s2⟩:=Y2.twelve
   obtain⟨y0,y1,y2,y3,y4,y5,y6,y7,y8,y9,y10,y11⟩:=Y2.marks
   go_wp2
   refine bodyPost_ret (v:=.tuple #[.agg (rB mo ba (.slice b6 c.length cap6) op ((oh+1)%8) ot false 0 fp fh ft lo),J 0]) (by simp[results,Tryz.results50,go_sem, *]) rfl ⟨_,_,_,_,_,_,_,_,_,_,_,_,_,c,by rw[HE.out],HB.out.trans (by rw[HC.out];rfl),.inr F6.out,?_,?_⟩
   ·exact Ls.put12 H7.out AP2.out _ _ _ _ _ _ _ _ _ _ _ _
   ·exact aJ (by omega) B7.out _ _ _ _ _ _ _ _ _ _ _ _
  ·have hff:Hid (fe+1=(fe+1)%1000):=show _=_ by omega
   have hqf:(fe+1==1000)=false:=by simpa using hf
   clear hf
   go_wp2
   refine bodyPost_ret (v:=.tuple #[.agg (rB mo ba (.slice b6 c.length cap6) op ((oh+1)%8) ot false (fe+1) fp fh ft lo),J 0]) (by simp[results,Tryz.results50,go_sem, *]) rfl ⟨_,_,_,_,_,_,_,_,_,_,_,_,_,c,by rw[HE.out],HB.out.trans (by rw[HC.out];simp only[if_true];rw[←hff.out]),.inr F6.out,?_,?_⟩
   ·(repeat (first|with_reducible exact H6.out|with_reducible refine Ls.put12 ?_ AP2.out _ _ _ _ _ _ _ _ _ _ _ _|with_reducible refine Ls.putAt ?_ APB.out _ _))
   ·(repeat (first|with_reducible exact B6.out|with_reducible refine Below.drew ?_|with_reducible refine aA ?_ _|(with_reducible refine aJ ?_ ?_ _ _ _ _ _ _ _ _ _ _ _ _;(focus omega))|(with_reducible refine aI ?_ ?_ _;(focus (dsimp only;omega)))))
 ·have hq0:(k==0)=false:=by simpa using hk0
  have HK0:Hid (¬k=0):=hk0
  clear hk0
  go_wp2
  refine bodyPost_ret (v:=.tuple #[.agg (rB mo ba (.slice b6 c.length cap6) op ((oh+1)%8) ot false fe fp fh ft lo),J 0]) (by simp[results,Tryz.results50,go_sem, *]) rfl ⟨_,_,_,_,_,_,_,_,_,_,_,_,_,c,by rw[HE.out],HB.out.trans (by rw[HC.out,if_neg HK0.out]),.inr F6.out,?_,?_⟩
  ·(repeat (first|with_reducible exact H6.out|with_reducible refine Ls.put12 ?_ AP2.out _ _ _ _ _ _ _ _ _ _ _ _|with_reducible refine Ls.putAt ?_ APB.out _ _))
  ·(repeat (first|with_reducible exact B6.out|with_reducible refine Below.drew ?_|with_reducible refine aA ?_ _|(with_reducible refine aJ ?_ ?_ _ _ _ _ _ _ _ _ _ _ _ _;(focus omega))|(with_reducible refine aI ?_ ?_ _;(focus (dsimp only;omega)))))
theorem sJ {xs ys:List Tc}(hl:xs.length=ys.length)(h:∀i,i<xs.length→tth xs i=tth ys i):xs=ys:=by
 apply List.ext_getElem hl
 intro i h1 h2
 have:=h i h1
 rwa [uX h1,uX h2] at this
theorem uC {xs ys:List Tc}{i:Nat}(h:¬tth xs i=tth ys i):¬xs=ys:=fun e=>h (by rw[e])
theorem uD {a b c:Int}{d:Bool}{e:Int}{a' b' c':Int}{d':Bool}{e':Int}(h:¬(a,b,c,d,e)=(a',b',c',d',e')):
  ¬a=a'∨(a=a'∧¬b=b')∨(a=a'∧b=b'∧¬c=c')∨(a=a'∧b=b'∧c=c'∧¬d=d')∨(a=a'∧b=b'∧c=c'∧d=d'∧¬e=e'):=by
 simp only[Prod.mk.injEq] at h
 by_cases h1:a=a'
 ·by_cases h2:b=b'
  ·by_cases h3:c=c'
   ·by_cases h4:d=d'
    ·by_cases h5:e=e'
     ·exact absurd ⟨h1,h2,h3,h4,h5⟩ h
     ·exact .inr (.inr (.inr (.inr ⟨h1,h2,h3,h4,h5⟩)))
    ·exact .inr (.inr (.inr (.inl ⟨h1,h2,h3,h4⟩)))
   ·exact .inr (.inr (.inl ⟨h1,h2,h3⟩))
  ·exact .inr (.inl ⟨h1,h2⟩)
 ·exact .inl h1
set_option maxHeartbeats 1000000 in
theorem uE (v1 v2:Value)(xs ys:List Tc)(w:World)(h1:Ts w v1 xs)(h2:Ts w v2 ys):
  Calls Tryz.prog 47 #[v1,v2] w fun e w'=>e=.returned (.bool (decide (xs=ys)))∧∃n,w'=w.drewN n:=by
 obtain⟨a1,c1,rfl,n1,l1,h1⟩:=h1
 obtain⟨a2,c2,rfl,n2,l2,h2⟩:=h2
 unfold maxLen at l1 l2
 by_cases hl:xs.length=ys.length
 ·have hne:((xs.length:Int) !=(ys.length:Int))=false:=by simp[hl]
  rcases h1 with rfl|⟨b1,o1,rfl,hb1,hc1⟩
  ·obtain rfl:ys=[]:=List.eq_nil_of_length_eq_zero hl.symm
   go_enter Tryz.func47,Tryz.ntmps47
   go_wp2
   go_loopw [5,13] (fun _ i w'=>i=J 0∧w'=w) (fun _ i _=>0)
   case atStart=>exact⟨rfl,rfl⟩
   case round=>
    obtain⟨rfl,rfl⟩:=hrel
    go_wp2
    go_ret
    exact⟨rfl,0,rfl⟩
  ·rcases h2 with rfl|⟨b2,o2,rfl,hb2,hc2⟩
   ·obtain rfl:xs=[]:=List.eq_nil_of_length_eq_zero hl
    go_enter Tryz.func47,Tryz.ntmps47
    go_wp2
    go_loopw [5,13] (fun _ i w'=>i=J 0∧w'=w) (fun _ i _=>0)
    case atStart=>exact⟨rfl,rfl⟩
    case round=>
     obtain⟨rfl,rfl⟩:=hrel
     go_wp2
     go_ret
     exact⟨rfl,0,rfl⟩
   have Hl:Hid (xs.length=ys.length):=hl
   have hle:(xs.length:Int)≤ys.length:=by omega
   have H1:=hc1
   have H2:=hc2
   clear hl hc1 hc2
   have HC1:Hid _:=H1
   have HC2:Hid _:=H2
   clear H1 H2
   go_enter Tryz.func47,Tryz.ntmps47
   go_wp2
   go_loopw [5,13] (fun _ i w'=>∃k:Nat,k≤xs.length∧i=J k∧(∀j,j<k→tth xs j=tth ys j)∧∃n,w'=w.drewN n) (fun _ i _=>xs.length-(intOf i).toNat)
   case atStart=>exact⟨0,Nat.zero_le _,rfl,fun j hj=>absurd hj (Nat.not_lt_zero _),0,rfl⟩
   case round=>
    obtain⟨k,hk,rfl,hpre,n,rfl⟩:=hrel
    have HP:Hid (∀j,j<k→tth xs j=tth ys j):=hpre
    clear hpre
    by_cases hlt:k<xs.length
    ·obtain⟨g0,g1,g2,g3,g4⟩:=HC1.out k hlt
     obtain⟨f0,f1,f2,f3,f4⟩:=HC2.out k (by have:=Hl.out;omega)
     have hlt1:(k:Int)<xs.length:=by omega
     have hlt2:(k:Int)<ys.length:=by omega
     obtain⟨y,hy⟩:∃y,y=tth xs k:=⟨_,rfl⟩
     obtain⟨z,hz⟩:∃z,z=tth ys k:=⟨_,rfl⟩
     have HY:Hid (y=tth xs k):=hy
     have HZ:Hid (z=tth ys k):=hz
     rw[←hy] at g0 g1 g2 g3 g4
     rw[←hz] at f0 f1 f2 f3 f4
     clear hy hz
     obtain⟨d1,p1,a1,r1,x1⟩:=y
     obtain⟨d2,p2,a2,r2,x2⟩:=z
     simp only at g0 g1 g2 g3 g4 f0 f1 f2 f3 f4
     by_cases hq:(d1,p1,a1,r1,x1)=((d2,p2,a2,r2,x2):Tc)
     ·have HQ:Hid (tth xs k=tth ys k):=by show _=_;rw[←HY.out,←HZ.out];exact hq
      simp only[Prod.mk.injEq] at hq
      obtain⟨rfl,rfl,rfl,rfl,rfl⟩:=hq
      go_wp2
      go_quiet (fail)
      go_wp2
      exact⟨⟨k+1,by omega,by go_num,dI HP.out HQ.out,_,rfl⟩,by simp[intOf];omega⟩
     ·have HN:Hid (decide (xs=ys)=false):=decide_eq_false (uC (i:=k) (by rw[←HY.out,←HZ.out];exact hq))
      rcases uD hq with e1|⟨rfl,e1⟩|⟨rfl,rfl,e1⟩|⟨rfl,rfl,rfl,e1⟩|⟨rfl,rfl,rfl,rfl,e1⟩
      all_goals
       clear hq
       go_wp2
       go_quiet (fail)
       go_wp2
       go_ret
       exact⟨aL HN.out.symm,n+nq,World.drewN_drewN _ _ _⟩
    ·have HD:Hid (decide (xs=ys)=true):=decide_eq_true (sJ Hl.out fun i hi=>HP.out i (by omega))
     go_wp2
     go_ret
     exact⟨aL HD.out.symm,_,rfl⟩
 ·have hne:((xs.length:Int) !=(ys.length:Int))=true:=by simp;omega
  have hd:decide (xs=ys)=false:=by simp;intro e;exact hl (by rw[e])
  rw[hd]
  go_enter Tryz.func47,Tryz.ntmps47
  go_wp2
  go_ret
  exact⟨rfl,0,rfl⟩
set_option maxHeartbeats 2000000 in
theorem jM (d a n:Int)(x:Bool)(v:Value)(ds:List Int)(w:World)(h:Sl w v ds):
  Calls Tryz.prog 51 #[.agg #[J d,J a,J n,.bool x,v]] w fun e w'=>e=.returned (J (ckA d a n x ds))∧Below w.heap.size w w':=by
 have HD:Hid (Sl w v ds):=h
 obtain⟨da,dc,rfl,hl,h⟩:=h
 unfold maxLen at hl
 clear h
 by_cases hn:1≤n∧n≤20
 rotate_left
 ·have HE:Hid (ckA d a n x ds=1):=qY hn
  have hb:betweenB 1 20 n=false:=by simp[betweenB];omega
  clear hn
  go_enter Tryz.func51,Tryz.ntmps51
  go_wp2_with (go_at_call 53;refine (aD _ _ _ _).mono ?_;rintro e w' ⟨rfl,rfl⟩)
  go_ret
  exact⟨aM HE.out.symm,aA (Below.refl _ _) _⟩
 have HN:Hid (1≤n∧n≤20):=hn
 have hb:betweenB 1 20 n=true:=by simp[betweenB];omega
 obtain⟨n1,n2⟩:=hn
 by_cases hw:(0≤d∧d≤7)∧hasW a n=true
 rotate_left
 ·have HE:Hid (ckA d a n x ds=4):=vA HN.out hw
  by_cases h1:0≤d∧d≤7
  ·have h2:betweenB 0 7 d=true:=by simp[betweenB];omega
   have h3:betweenB 0 (512-n) a=false:=by
    cases hq:betweenB 0 (512-n) a
    ·rfl
    ·exact absurd ⟨h1,by simpa [hasW,betweenB] using hq⟩ hw
   clear hw h1
   go_enter Tryz.func51,Tryz.ntmps51
   go_wp2_with (go_at_call 53;refine (aD _ _ _ _).mono ?_;rintro e w' ⟨rfl,rfl⟩)
   go_ret
   exact⟨aM HE.out.symm,aA (Below.refl _ _) _⟩
  ·have h2:betweenB 0 7 d=false:=by simp[betweenB];omega
   clear hw h1
   go_enter Tryz.func51,Tryz.ntmps51
   go_wp2_with (go_at_call 53;refine (aD _ _ _ _).mono ?_;rintro e w' ⟨rfl,rfl⟩)
   go_ret
   exact⟨aM HE.out.symm,aA (Below.refl _ _) _⟩
 have HW:Hid ((0≤d∧d≤7)∧hasW a n=true):=hw
 have h2:betweenB 0 7 d=true:=by have:=hw.1;simp[betweenB];omega
 have h3:betweenB 0 (512-n) a=true:=by simpa [hasW,betweenB] using hw.2
 clear hw
 have K:Blk (w.alloc (.cells #[J d,J a,J n,.bool x,.slice da ds.length dc] 35)) w.heap.size #[J d,J a,J n,.bool x,.slice da ds.length dc]:=Blk.new w _ 35 (0,0)
 have B1:Hid (Below w.heap.size w (w.alloc (.cells #[J d,J a,J n,.bool x,.slice da ds.length dc] 35))):=aA (Below.refl _ _) _
 have HS:Hid (Sl (w.alloc (.cells #[J d,J a,J n,.bool x,.slice da ds.length dc] 35)) (.slice da ds.length dc) ds):=HD.out.keep B1.out
 by_cases hln:(ds.length:Int)=needA x n
 rotate_left
 ·have HE:Hid (ckA d a n x ds=3):=qZ HN.out HW.out hln
  have hq:((ds.length:Int) !=needA x n)=true:=by simpa using hln
  clear hln K
  cases x
  all_goals
   simp only[needA,if_true,Bool.false_eq_true,if_false] at hq
   go_enter Tryz.func51,Tryz.ntmps51
   go_wp2_with (go_at_call 53;refine (aD _ _ _ _).mono ?_;rintro e w' ⟨rfl,rfl⟩)
   go_ret
   exact⟨aM HE.out.symm,B1.out⟩
 have HE:Hid (ckA d a n x ds=if ds.all wordB=true then 0 else 2):=rA HN.out HW.out hln
 have hl20:ds.length≤20:=by have:=rC (x:=x) HN.out;omega
 have hq:((ds.length:Int) !=needA x n)=false:=by simpa using hln
 clear hln
 obtain⟨a',cap',he,-,HS'⟩:=HS.out
 simp only[Value.slice.injEq] at he
 obtain⟨rfl,-,rfl⟩:=he
 have HS2:Hid _:=HS'
 clear HS' HS HD
 cases x
 all_goals
  simp only[needA,if_true,Bool.false_eq_true,if_false] at hq
  go_enter Tryz.func51,Tryz.ntmps51
  go_wp2_with (go_at_call 53;refine (aD _ _ _ _).mono ?_;rintro e w' ⟨rfl,rfl⟩)
  clear K
  generalize (w.alloc (.cells #[J d,J a,J n,.bool _,.slice da ds.length dc] 35))=W at *
  go_loop [35] (fun i=>∃k:Nat,k≤ds.length∧i=J k∧∀j,j<k→wordB (nth ds j)=true) (fun i=>ds.length-(intOf i).toNat)
  case atStart=>exact⟨0,Nat.zero_le _,rfl,fun j hj=>absurd hj (Nat.not_lt_zero _)⟩
  case round=>
   obtain⟨k,hk,rfl,hpre⟩:=hrel
   have HP:Hid (∀j,j<k→wordB (nth ds j)=true):=hpre
   clear hpre
   by_cases hlt:k<ds.length
   ·have hlt1:(k:Int)<ds.length:=by omega
    rcases HS2.out with h0|⟨b,o,rfl,hb',hc⟩
    ·exact absurd hlt (by rw[h0];simp)
    have g:=hc k hlt
    clear hc
    by_cases hq2:wordB (nth ds k)=true
    ·have hbw:betweenB 0 65535 (nth ds k)=true:=hq2
     go_wp2_with (go_at_call 53;refine (aD _ _ _ _).mono ?_;rintro e w' ⟨rfl,rfl⟩)
     refine⟨⟨k+1,by omega,by go_num,fun j hj=>?_⟩,by simp[intOf];omega⟩
     by_cases e:j=k
     ·rw[e];exact hq2
     ·exact HP.out j (by omega)
    ·have hq':wordB (nth ds k)=false:=by simpa using hq2
     have hbw:betweenB 0 65535 (nth ds k)=false:=hq'
     have HX:Hid (_=(2:Int)):=HE.out.trans (if_neg (vB hlt hq'))
     clear hq2
     go_wp2_with (go_at_call 53;refine (aD _ _ _ _).mono ?_;rintro e w' ⟨rfl,rfl⟩)
     go_ret
     exact⟨aM HX.out.symm,B1.out⟩
   ·have HX:Hid (_=(0:Int)):=HE.out.trans (if_pos (vD fun j hj=>HP.out j (by omega)))
    have hge:¬(k:Int)<ds.length:=by omega
    go_wp2
    go_ret
    exact⟨aM HX.out.symm,B1.out⟩
set_option maxHeartbeats 2000000 in
theorem sK (dn:Bool)(v1 v2:Value)(dat:List Int)(f:Int)(u1 u2:Value)(tch:List Tc)(w:World)(h1:Sl w v1 dat)(h2:Sl w v2 dat)(k1:Ts w u1 tch)(k2:Ts w u2 tch):
  Calls Tryz.prog 17 #[.agg #[.bool dn,v1,J f,u1],.agg #[.bool dn,v2,J f,u2]] w fun e w'=>e=.returned (.bool true)∧Below w.heap.size w w':=by
 have H1:Hid (Sl w v1 dat):=h1
 have H2:Hid (Sl w v2 dat):=h2
 have K1:Hid (Ts w u1 tch):=k1
 have K2:Hid (Ts w u2 tch):=k2
 obtain⟨a1,c1,rfl⟩:=h1.shape
 obtain⟨a2,c2,rfl⟩:=h2.shape
 obtain⟨b1,e1,rfl,-⟩:=k1
 obtain⟨b2,e2,rfl,-⟩:=k2
 clear h1 h2
 have B0:Hid (Below w.heap.size w ((w.alloc (.cells #[.bool dn,.slice a1 dat.length c1,J f,.slice b1 tch.length e1] 40)).alloc (.cells #[.bool dn,.slice a2 dat.length c2,J f,.slice b2 tch.length e2] 40))):=aA (aA (Below.refl _ _) _) _
 have X0:=(Box.newAt (n:=w.heap.size) rfl 40 #[.bool dn,.slice a1 dat.length c1,J f,.slice b1 tch.length e1]).past (.cells #[.bool dn,.slice a2 dat.length c2,J f,.slice b2 tch.length e2] 40)
 have X1:=Box.newAt (w:=w.alloc (.cells #[.bool dn,.slice a1 dat.length c1,J f,.slice b1 tch.length e1] 40)) (n:=w.heap.size+1) (by simp) 40 #[.bool dn,.slice a2 dat.length c2,J f,.slice b2 tch.length e2]
 have hdd:(dn==dn)=true:=by simp
 go_enter Tryz.func17,Tryz.ntmps17
 go_wp2_with fail
 refine (fH _ _ dat dat _ (H1.out.keep B0.out) (H2.out.keep B0.out)).mono ?_
 rintro e w1 ⟨rfl,nq,rfl⟩
 rw[decide_eq_true (rfl:dat=dat)]
 obtain⟨t0,t1,t2,t3,-,-,-,-,s0⟩:=(X0.drewN nq).four
 obtain⟨u0,u1,u2,u3,-,-,-,-,s1⟩:=(X1.drewN nq).four
 have T1:Hid (Ts (((w.alloc (.cells #[.bool dn,.slice a1 dat.length c1,J f,.slice b1 tch.length e1] 40)).alloc (.cells #[.bool dn,.slice a2 dat.length c2,J f,.slice b2 tch.length e2] 40)).drewN nq) _ tch):=(K1.out.keep B0.out:Ts _ _ tch)
 have T2:Hid (Ts (((w.alloc (.cells #[.bool dn,.slice a1 dat.length c1,J f,.slice b1 tch.length e1] 40)).alloc (.cells #[.bool dn,.slice a2 dat.length c2,J f,.slice b2 tch.length e2] 40)).drewN nq) _ tch):=(K2.out.keep B0.out:Ts _ _ tch)
 have B1:Hid (Below w.heap.size w (((w.alloc (.cells #[.bool dn,.slice a1 dat.length c1,J f,.slice b1 tch.length e1] 40)).alloc (.cells #[.bool dn,.slice a2 dat.length c2,J f,.slice b2 tch.length e2] 40)).drewN nq)):=aH B0.out nq
 clear X0 X1
 generalize (((w.alloc (.cells #[.bool dn,.slice a1 dat.length c1,J f,.slice b1 tch.length e1] 40)).alloc (.cells #[.bool dn,.slice a2 dat.length c2,J f,.slice b2 tch.length e2] 40)).drewN nq)=W at *
 go_wp2_with fail
 refine (uE _ _ tch tch _ T1.out T2.out).mono ?_
 rintro e w2 ⟨rfl,n2,rfl⟩
 rw[decide_eq_true (rfl:tch=tch)]
 go_wp2
 go_ret
 exact⟨rfl,aH B1.out _⟩
end Go.Proofs.YthlhocneggcekaaGreat
