/-
  Laid together: TellB, TellF, DCopy.
-/
import Derived.Test.YthlhocneggcekaaGreatD16
namespace Go.Proofs.YthlhocneggcekaaGreat
open Go.RowKit
theorem Sl.drew {w:World}{v:Value}{zs:List Int}(h:Sl w v zs):Sl w.drew v zs:=h
theorem Sl.drewN {w:World}{v:Value}{zs:List Int}(h:Sl w v zs)(n:Nat):Sl (w.drewN n) v zs:=h
theorem Sl.alloc {w:World}{v:Value}{zs:List Int}(h:Sl w v zs)(o:Obj):Sl (w.alloc o) v zs:=h.keep (aA (Below.refl _ _) _)
theorem Sl.put12 {w:World}{v:Value}{zs:List Int}(h:Sl w v zs){n:Nat}(hn:v.ownBlock≠some n)(u0 u1 u2 u3 u4 u5 u6 u7 u8 u9 u10 u11:Value):
  Sl ((((((((((((w.setCell ⟨n,0,none⟩ u0).setCell ⟨n,1,none⟩ u1).setCell ⟨n,2,none⟩ u2).setCell ⟨n,3,none⟩ u3).setCell ⟨n,4,none⟩ u4).setCell ⟨n,5,none⟩ u5).setCell ⟨n,6,none⟩ u6).setCell ⟨n,7,none⟩ u7).setCell ⟨n,8,none⟩ u8).setCell ⟨n,9,none⟩ u9).setCell ⟨n,10,none⟩ u10).setCell ⟨n,11,none⟩ u11) v zs:=
 (((((((((((h.setOther (p:=⟨n,0,none⟩) hn u0).setOther (p:=⟨n,1,none⟩) hn u1).setOther (p:=⟨n,2,none⟩) hn u2).setOther (p:=⟨n,3,none⟩) hn u3).setOther (p:=⟨n,4,none⟩) hn u4).setOther (p:=⟨n,5,none⟩) hn u5).setOther (p:=⟨n,6,none⟩) hn u6).setOther (p:=⟨n,7,none⟩) hn u7).setOther (p:=⟨n,8,none⟩) hn u8).setOther (p:=⟨n,9,none⟩) hn u9).setOther (p:=⟨n,10,none⟩) hn u10).setOther (p:=⟨n,11,none⟩) hn u11
theorem Ls.apart1 {w:World}{v:Value}{l:List Ln}(hl:Ls w v l){n:Nat}{t:TypeId}{u:Value}(h:Box w n t #[u]):Apart v l n:=by
 obtain⟨a,cap,rfl,_,_,hl⟩:=hl
 rcases hl with rfl|⟨b,o,rfl,_,hc⟩
 ·exact .inl rfl
 ·by_cases h0:l=[]
  ·exact .inl h0
  ·refine .inr fun b' o' k c e=>?_
   simp only[Value.slice.injEq,Option.some.injEq,Addr.mk.injEq,and_true] at e
   obtain⟨⟨rfl,rfl⟩,-⟩:=e
   rintro rfl
   obtain⟨_,h1,_⟩:=hc 0 (List.length_pos_iff.2 h0)
   rw[h.cell,Array.getElem?_eq_none (by simp)] at h1
   simp at h1
abbrev TlOutF (zs:List Int)(b:Br)(c d p:Int)(x:Bool)(w:World)(e:Ending)(w':World):Prop:=
 ∃ma1 mn1 mc1 mo1 ba1 op1 oh1 ot1 fe1 fp1 fh1 ft1 st1 lo1 va1 vk1 l1,e=.returned (.tuple #[.agg #[.slice ma1 mn1 mc1],.agg (rB mo1 ba1 (.slice va1 l1.length vk1) op1 oh1 ot1 st1 fe1 fp1 fh1 ft1 lo1),J (tlE zs b c d p)])∧tlB zs b c d p=⟨mo1,ba1,l1,op1,oh1,ot1,st1,fe1,fp1,fh1,ft1,lo1⟩∧Sl w' (.slice ma1 mn1 mc1) (tlM zs b c d p x)∧Ls w' (.slice va1 l1.length vk1) l1∧Below w.heap.size w w'∧Fresh w.heap.size (.slice ma1 mn1 mc1)∧Fresh w.heap.size (.slice va1 l1.length vk1)
set_option maxHeartbeats 4000000 in
theorem wL (v:Value)(zs:List Int)(mo ba op oh ot fe fp fh ft:Int)(st lo:Bool)(vc:Value)(l:List Ln)(c d p:Int)(x:Bool)(w:World)(hs:Sl w v zs)(h:Ls w vc l):
  Calls Tryz.prog 107 #[.agg #[v],.agg (rB mo ba vc op oh ot st fe fp fh ft lo),.agg #[J c,J d,J p,.bool x]] w fun e w'=>TlOutF zs ⟨mo,ba,l,op,oh,ot,st,fe,fp,fh,ft,lo⟩ c d p x w e w':=by
 have HS:Hid (Ls w vc l):=h
 obtain⟨va,vk,rfl,-⟩:=h.shape
 have HM:Hid (Sl w v zs):=hs
 obtain⟨ma,mc,rfl⟩:=hs.shape
 clear h hs
 go_enter Tryz.func107,Tryz.ntmps107
 go_wp2_with fail
 have B0:Hid (Below w.heap.size w _):=aA (aA (aA (aA (aA (Below.refl w.heap.size w) (.cells #[.slice ma zs.length mc] 24)) (.cells (rB mo ba (.slice va l.length vk) op oh ot st fe fp fh ft lo) 31)) (.cells #[J c,J d,J p,.bool x] 74)) (.cells #[.slice none 0 0] 24)) (.cells zB 31)
 refine (eT _ zs mo ba op oh ot fe fp fh ft st lo (.slice va l.length vk) l _ (HM.out.keep B0.out) (HS.out.keep B0.out)).mono ?_
 rintro e w1 ⟨rfl,b1⟩
 have X0:=(((((Box.newAt (n:=w.heap.size) rfl 24 #[.slice ma zs.length mc]).past _).past _).past _).past _).keep b1
 have X1:=((((Box.newAt (n:=w.heap.size+1) (by simp) 31 (rB mo ba (.slice va l.length vk) op oh ot st fe fp fh ft lo)).past _).past _).past _).keep b1
 have X2:=(((Box.newAt (n:=w.heap.size+1+1) (by simp) 74 #[J c,J d,J p,.bool x]).past _).past _).keep b1
 have X3:=((Box.newAt (n:=w.heap.size+1+1+1) (by simp) 24 #[.slice none 0 0]).past _).keep b1
 have X4:=(Box.newAt (n:=w.heap.size+1+1+1+1) (by simp) 31 zB).keep b1
 have B1:Hid (Below w.heap.size w w1):=aB B0.out b1
 clear b1 B0
 obtain⟨m0,-,s0⟩:=X0.one
 obtain⟨⟨q0,q1,q2,q3,q4,q5,q6,q7,q8,q9,q10,q11⟩,s1⟩:=X1.twelve
 obtain⟨f0,f1,f2,f3,-,-,-,-,s2⟩:=X2.four
 obtain⟨r0,r1,s3⟩:=X3.one
 obtain⟨⟨u0,u1,u2,u3,u4,u5,u6,u7,u8,u9,u10,u11⟩,s4⟩:=X4.twelve
 obtain⟨y0,y1,y2,y3,y4,y5,y6,y7,y8,y9,y10,y11⟩:=X4.marks
 by_cases hk:bothB zs ⟨mo,ba,l,op,oh,ot,st,fe,fp,fh,ft,lo⟩=0
 rotate_left
 ·have HE:Hid (tlE zs ⟨mo,ba,l,op,oh,ot,st,fe,fp,fh,ft,lo⟩ c d p=bothB zs ⟨mo,ba,l,op,oh,ot,st,fe,fp,fh,ft,lo⟩):=if_neg hk
  have HB:Hid (tlB zs ⟨mo,ba,l,op,oh,ot,st,fe,fp,fh,ft,lo⟩ c d p=B0):=if_neg (by rw[HE.out];exact hk)
  have HT:Hid (tlM zs ⟨mo,ba,l,op,oh,ot,st,fe,fp,fh,ft,lo⟩ c d p x=[]):=if_neg (by rw[HE.out];exact hk)
  generalize bothB zs ⟨mo,ba,l,op,oh,ot,st,fe,fp,fh,ft,lo⟩=E at *
  have hq:(E !=0)=true:=by simpa using hk
  go_wp2
  refine bodyPost_ret (v:=.tuple #[.agg #[.slice none 0 0],.agg zB,J E]) (by simp[results,Tryz.results107,go_sem, *]) rfl ⟨_,_,_,_,_,_,_,_,_,_,_,_,_,_,_,_,[],by rw[HE.out];rfl,HB.out,by rw[HT.out];exact Sl.nil _ _ _,Ls.nothing _,?_,Fresh.none _ _ _,Fresh.none _ _ _⟩
  (repeat (first|with_reducible exact B1.out|with_reducible refine aA ?_ _|(with_reducible refine aJ ?_ ?_ _ _ _ _ _ _ _ _ _ _ _ _;(focus omega))|(with_reducible refine aI ?_ ?_ _;(focus (dsimp only;omega)))))
 rw[hk]
 go_wp2_with fail
 refine (jF c d p x _).mono ?_
 rintro e w2 ⟨rfl,b2⟩
 clear q0 q1 q2 q3 q4 q5 q6 q7 q8 q9 q10 q11 u0 u1 u2 u3 u4 u5 u6 u7 u8 u9 u10 u11 y0 y1 y2 y3 y4 y5 y6 y7 y8 y9 y10 y11 m0 s0 s1 r0 r1 s3 s4 f0 f1 f2 f3 s2
 have X0:=X0.keep b2
 have X1:=X1.keep b2
 have X3:=X3.keep b2
 have X4:=X4.keep b2
 have B2:Hid (Below w.heap.size w w2):=aB B1.out b2
 clear b2 B1 X2
 obtain⟨m0,-,s0⟩:=X0.one
 obtain⟨⟨q0,q1,q2,q3,q4,q5,q6,q7,q8,q9,q10,q11⟩,s1⟩:=X1.twelve
 obtain⟨r0,r1,s3⟩:=X3.one
 obtain⟨⟨u0,u1,u2,u3,u4,u5,u6,u7,u8,u9,u10,u11⟩,s4⟩:=X4.twelve
 obtain⟨y0,y1,y2,y3,y4,y5,y6,y7,y8,y9,y10,y11⟩:=X4.marks
 by_cases hf:fE c d p=0
 rotate_left
 ·have HE:Hid (tlE zs ⟨mo,ba,l,op,oh,ot,st,fe,fp,fh,ft,lo⟩ c d p=fE c d p):=if_pos hk
  have HB:Hid (tlB zs ⟨mo,ba,l,op,oh,ot,st,fe,fp,fh,ft,lo⟩ c d p=B0):=if_neg (by rw[HE.out];exact hf)
  have HT:Hid (tlM zs ⟨mo,ba,l,op,oh,ot,st,fe,fp,fh,ft,lo⟩ c d p x=[]):=if_neg (by rw[HE.out];exact hf)
  generalize fE c d p=E at *
  have hq:(E !=0)=true:=by simpa using hf
  go_wp2
  refine bodyPost_ret (v:=.tuple #[.agg #[.slice none 0 0],.agg zB,J E]) (by simp[results,Tryz.results107,go_sem, *]) rfl ⟨_,_,_,_,_,_,_,_,_,_,_,_,_,_,_,_,[],by rw[HE.out];rfl,HB.out,by rw[HT.out];exact Sl.nil _ _ _,Ls.nothing _,?_,Fresh.none _ _ _,Fresh.none _ _ _⟩
  (repeat (first|with_reducible exact B2.out|with_reducible refine aA ?_ _|(with_reducible refine aJ ?_ ?_ _ _ _ _ _ _ _ _ _ _ _ _;(focus omega))|(with_reducible refine aI ?_ ?_ _;(focus (dsimp only;omega)))))
 have hE:tlE zs ⟨mo,ba,l,op,oh,ot,st,fe,fp,fh,ft,lo⟩ c d p=0:=by rw[tlE,if_pos hk,hf]
 have HE:Hid (_=_):=hE
 have hl6:l.length≤6:=(aW.1 (bK (bL hk).2).2.2.2.1).1
 have HZ:Hid (chk zs=0):=(bL hk).1
 have HF:Hid (chkR fp fh ft=0):=(bK (bL hk).2).2.2.2.2.2
 have HN:Hid (zs.length=512):=(bF HZ.out).1
 have HW:Hid (wordB (fW c d p x)=true):=oZ x hf
 obtain⟨W0,hW0⟩:∃z,fW c d p x=z:=⟨_,rfl⟩
 have HW0:Hid (_=_):=hW0
 rw[hf,hW0]
 clear hk hE hf hW0
 go_wp2_with fail
 refine (gK mo ba op oh ot fe fp fh ft st lo (.slice va l.length vk) l _ (HS.out.keep B2.out) hl6).mono ?_
 rintro e w3 ⟨gl,hgl,rfl,hS3,b3⟩
 have FL:Hid (w.heap.size≤gl):=Nat.le_trans B2.out.size hgl
 clear hgl
 clear q0 q1 q2 q3 q4 q5 q6 q7 q8 q9 q10 q11 u0 u1 u2 u3 u4 u5 u6 u7 u8 u9 u10 u11 y0 y1 y2 y3 y4 y5 y6 y7 y8 y9 y10 y11 m0 s0 s1 r0 r1 s3 s4
 have X0:=X0.keep b3
 have X3:=X3.keep b3
 have X4:=X4.keep b3
 have B3:Hid (Below w.heap.size w w3):=aB B2.out b3
 have AP:Hid (Apart _ _ _):=hS3.apart X4
 have H3:Hid (Ls _ _ _):=hS3
 clear b3 B2 X1 hS3
 obtain⟨m0,-,s0⟩:=X0.one
 obtain⟨r0,r1,s3⟩:=X3.one
 obtain⟨⟨u0,u1,u2,u3,u4,u5,u6,u7,u8,u9,u10,u11⟩,s4⟩:=X4.twelve
 obtain⟨y0,y1,y2,y3,y4,y5,y6,y7,y8,y9,y10,y11⟩:=X4.marks
 cases lo
 ·have XN:=Box.newAt (w:=w3) rfl 31 (rB mo ba (.slice (some ⟨gl,0,none⟩) l.length l.length) op oh ot st fe fp fh ft false)
  have nN3:¬w3.heap.size=w.heap.size+1+1+1:=by omega
  have nN4:¬w3.heap.size=w.heap.size+1+1+1+1:=by omega
  have nN0:¬w3.heap.size=w.heap.size:=by omega
  have zN:w.heap.size≤w3.heap.size:=by omega
  have ZN:Hid (w.heap.size+1+1+1+1<w3.heap.size):=s4
  by_cases hl:lenR fh ft=7
  ·have HB:Hid (tlB zs ⟨mo,ba,l,op,oh,ot,st,fe,fp,fh,ft,false⟩ c d p=⟨mo,ba,l,op,oh,ot,st,fe,fp,fh,ft,true⟩):=by show _=_;rw[tlB,if_pos HE.out,if_pos (by simp[fullB,hl])]
   have HT:Hid (tlM zs ⟨mo,ba,l,op,oh,ot,st,fe,fp,fh,ft,false⟩ c d p x=zs):=by show _=_;rw[tlM,if_pos HE.out,if_pos (by simp[fullB,hl])]
   have HQ:Hid (lenR fh ft=7):=hl
   clear hl
   go_wp2_with fail
   refine (vU (HM.out.keep (aA B3.out _)) HZ.out HF.out (HW0.out ▸ HW.out) HQ.out).mono ?_
   rintro e w4 ⟨a4,c4,rfl,b4⟩
   clear m0 s0 r0 r1 s3 u0 u1 u2 u3 u4 u5 u6 u7 u8 u9 u10 u11 y0 y1 y2 y3 y4 y5 y6 y7 y8 y9 y10 y11 s4
   have X0:=(X0.past _).keep b4
   have X3:=(X3.past _).keep b4
   have X4:=(X4.past _).keep b4
   have XN:=XN.keep b4
   have H4:=(H3.out.alloc _).keep b4
   have APN:Hid (Apart _ _ _):=H4.apart XN
   have B4:Hid (Below w.heap.size w w4):=aB (aA B3.out _) b4
   have HL4:Hid (Ls _ _ _):=H4
   clear b4 H4
   generalize w3.heap.size=N at *
   obtain⟨⟨v0,v1,v2,v3,v4,v5,v6,v7,v8,v9,v10,v11⟩,sN⟩:=XN.twelve
   obtain⟨-,-,-,-,-,-,-,-,-,-,-,vm⟩:=XN.marks
   go_upto_region 13 with fail
   have X0:=(((X0.other (p:=⟨N,11,none⟩) (by dsimp only;omega) (.bool true)).past (.cells #[.slice a4 0 c4] 24)).past (.cells #[J 0,J 0,J 0] 29))
   have X3:=(((X3.other (p:=⟨N,11,none⟩) (by dsimp only;omega) (.bool true)).past (.cells #[.slice a4 0 c4] 24)).past (.cells #[J 0,J 0,J 0] 29))
   have X4:=(((X4.other (p:=⟨N,11,none⟩) (by dsimp only;omega) (.bool true)).past (.cells #[.slice a4 0 c4] 24)).past (.cells #[J 0,J 0,J 0] 29))
   have XN:Box (((w4.setCell ⟨N,11,none⟩ (.bool true)).alloc (.cells #[.slice a4 0 c4] 24)).alloc (.cells #[J 0,J 0,J 0] 29)) N 31 (rB mo ba (.slice (some ⟨gl,0,none⟩) l.length l.length) op oh ot st fe fp fh ft true):=((Box.set XN 11 (.bool true)).past (.cells #[.slice a4 0 c4] 24)).past (.cells #[J 0,J 0,J 0] 29)
   have BW:Hid (Below w.heap.size w (((w4.setCell ⟨N,11,none⟩ (.bool true)).alloc (.cells #[.slice a4 0 c4] 24)).alloc (.cells #[J 0,J 0,J 0] 29))):=aA (aA (aI (by dsimp only;omega) B4.out _) _) _
   have HMW:Hid (Sl (((w4.setCell ⟨N,11,none⟩ (.bool true)).alloc (.cells #[.slice a4 0 c4] 24)).alloc (.cells #[J 0,J 0,J 0] 29)) _ zs):=HM.out.keep BW.out
   have HLW:Hid (Ls (((w4.setCell ⟨N,11,none⟩ (.bool true)).alloc (.cells #[.slice a4 0 c4] 24)).alloc (.cells #[J 0,J 0,J 0] 29)) _ l):=((HL4.out.putAt APN.out _ _).alloc _).alloc _
   clear v0 v1 v2 v3 v4 v5 v6 v7 v8 v9 v10 v11 sN vm HL4 B4
   generalize (((w4.setCell ⟨N,11,none⟩ (.bool true)).alloc (.cells #[.slice a4 0 c4] 24)).alloc (.cells #[J 0,J 0,J 0] 29))=W at *
   obtain⟨m0,-,s0⟩:=X0.one
   obtain⟨r0,r1,s3⟩:=X3.one
   obtain⟨⟨u0,u1,u2,u3,u4,u5,u6,u7,u8,u9,u10,u11⟩,s4⟩:=X4.twelve
   obtain⟨y0,y1,y2,y3,y4,y5,y6,y7,y8,y9,y10,y11⟩:=X4.marks
   obtain⟨⟨v0,v1,v2,v3,v4,v5,v6,v7,v8,v9,v10,v11⟩,sN⟩:=XN.twelve
   go_region_with (go_at_call 135;refine (iA _ zs _ ?_ HN.out).mono ?_;(focus (repeat (first|with_reducible exact HMW.out|with_reducible refine Sl.drew ?_|with_reducible refine Sl.drewN ?_ _)));rintro e w5 ⟨gm,rfl,h5,hg5,b5⟩;have Y3:=(Box.keep (n:=w.heap.size+1+1+1) (t:=24) (cs:=#[.slice none 0 0]) (by (repeat (first|with_reducible assumption|with_reducible refine Box.drew ?_|with_reducible refine Box.drewN ?_ _|with_reducible refine Box.past ?_ _))) b5);have Y4:=(Box.keep (n:=w.heap.size+1+1+1+1) (t:=31) (cs:=zB) (by (repeat (first|with_reducible assumption|with_reducible refine Box.drew ?_|with_reducible refine Box.drewN ?_ _|with_reducible refine Box.past ?_ _))) b5);have YN:=(Box.keep (n:=N) (t:=31) (cs:=(rB mo ba (.slice (some ⟨gl,0,none⟩) l.length l.length) op oh ot st fe fp fh ft true)) (by (repeat (first|with_reducible assumption|with_reducible refine Box.drew ?_|with_reducible refine Box.drewN ?_ _|with_reducible refine Box.past ?_ _))) b5);obtain⟨k3,k3',j3⟩:=Y3.one;obtain⟨⟨i0,i1,i2,i3,i4,i5,i6,i7,i8,i9,i10,i11⟩,j4⟩:=Y4.twelve;obtain⟨x0,x1,x2,x3,x4,x5,x6,x7,x8,x9,x10,x11⟩:=Y4.marks;obtain⟨⟨t0,t1,t2,t3,t4,t5,t6,t7,t8,t9,t10,t11⟩,j5⟩:=YN.twelve)
   all_goals
    go_wp2
    refine bodyPost_ret (v:=.tuple #[.agg #[.slice (some ⟨gm,0,none⟩) 512 512],.agg (rB mo ba (.slice (some ⟨gl,0,none⟩) l.length l.length) op oh ot st fe fp fh ft true),J 0]) (by simp[results,Tryz.results107,go_sem, *]) rfl ⟨_,_,_,_,_,_,_,_,_,_,_,_,_,_,_,_,l,by rw[HE.out],HB.out,?_,?_,?_,bJ (Nat.le_trans BW.out.size (by simpa using hg5)) _ _ _,bJ FL.out _ _ _⟩
    ·rw[HT.out]
     have hg:W.heap.size≤gm:=by simpa using hg5
     (repeat (first|with_reducible exact h5|with_reducible refine Sl.drew ?_|with_reducible refine Sl.drewN ?_ _|(with_reducible refine Sl.put12 ?_ ?_ _ _ _ _ _ _ _ _ _ _ _ _;rotate_left;(focus (simp[Value.ownBlock];omega)))|(with_reducible refine Sl.setOther ?_ ?_ _;rotate_left;(focus (simp[Value.ownBlock];omega)))))
    ·(repeat (first|with_reducible exact HLW.out.drew.keep b5|with_reducible exact HLW.out.keep b5|with_reducible refine Ls.drew ?_|with_reducible refine Ls.drewN ?_ _|with_reducible refine Ls.put12 ?_ AP.out _ _ _ _ _ _ _ _ _ _ _ _|with_reducible refine Ls.setSlice ?_ k3 _))
    ·(repeat (first|with_reducible exact BW.out|with_reducible refine Below.drew ?_|with_reducible refine aH ?_ _|with_reducible refine aA ?_ _|(with_reducible refine aJ ?_ ?_ _ _ _ _ _ _ _ _ _ _ _ _;(focus omega))|(with_reducible refine aI ?_ ?_ _;(focus (dsimp only;omega)))|with_reducible refine aB ?_ b5))
  ·have HB:Hid (tlB zs ⟨mo,ba,l,op,oh,ot,st,fe,fp,fh,ft,false⟩ c d p=⟨mo,ba,l,op,oh,ot,st,fe,fp,fh,(ft+1)%8,false⟩):=by show _=_;rw[tlB,if_pos HE.out,if_neg (by simp[fullB,hl])]
   have HT:Hid (tlM zs ⟨mo,ba,l,op,oh,ot,st,fe,fp,fh,ft,false⟩ c d p x=zs.set (fp*8+ft).toNat W0):=by show _=_;rw[tlM,if_pos HE.out,if_neg (by simp[fullB,hl]),HW0.out]
   have HQ:Hid (¬lenR fh ft=7):=hl
   clear hl
   go_wp2_with fail
   refine (aBt (HM.out.keep (aA B3.out _)) HZ.out HF.out (HW0.out ▸ HW.out) HQ.out).mono ?_
   rintro e w4 ⟨v4,rfl,hS4,hF4,b4⟩
   clear m0 s0 r0 r1 s3 u0 u1 u2 u3 u4 u5 u6 u7 u8 u9 u10 u11 y0 y1 y2 y3 y4 y5 y6 y7 y8 y9 y10 y11 s4
   have X0:=(X0.past _).keep b4
   have X3:=(X3.past _).keep b4
   have X4:=(X4.past _).keep b4
   have XN:=XN.keep b4
   have H4:=(H3.out.alloc _).keep b4
   have APN:Hid (Apart _ _ _):=H4.apart XN
   have AP3:Hid (Apart _ _ _):=H4.apart1 X3
   have B4:Hid (Below w.heap.size w w4):=aB (aA B3.out _) b4
   have HL4:Hid (Ls _ _ _):=H4
   have hF4:Fresh (w3.heap.size+1) v4:=by simpa using hF4
   have FV:Hid (Fresh w.heap.size v4):=hF4.mono (by omega)
   have FN:Hid (v4.ownBlock≠some w3.heap.size):=hF4.ne (by have:=ZN.out;omega)
   have F3:Hid (v4.ownBlock≠some (w.heap.size+1+1+1)):=hF4.ne (by have:=ZN.out;omega)
   have F4:Hid (v4.ownBlock≠some (w.heap.size+1+1+1+1)):=hF4.ne (by have:=ZN.out;omega)
   obtain⟨a4,n4,c4,rfl⟩:∃a n c,v4=.slice a n c:=by obtain⟨a,cap,e,_⟩:=hS4;exact⟨_,_,_,e⟩
   have HS4:Hid (Sl _ _ _):=hS4
   clear b4 H4 hF4 hS4
   have nM3:¬w.heap.size+1+1+1=w3.heap.size:=by omega
   have nM4:¬w.heap.size+1+1+1+1=w3.heap.size:=by omega
   have hzz:w3.heap.size<w4.heap.size:=XN.lt
   generalize w3.heap.size=N at *
   generalize ((ft+1)%8)=nf at *
   obtain⟨⟨v0,v1,v2,v3,v4,v5,v6,v7,v8,v9,v10,v11⟩,sN⟩:=XN.twelve
   obtain⟨-,-,-,-,-,-,-,-,vm8,vm9,vm10,-⟩:=XN.marks
   obtain⟨r0,r1,s3⟩:=X3.one
   obtain⟨⟨u0,u1,u2,u3,u4,u5,u6,u7,u8,u9,u10,u11⟩,s4⟩:=X4.twelve
   obtain⟨y0,y1,y2,y3,y4,y5,y6,y7,y8,y9,y10,y11⟩:=X4.marks
   have zz3:w.heap.size+1+1+1<w4.heap.size+1:=by omega
   have zz4:w.heap.size+1+1+1+1<w4.heap.size+1:=by omega
   have zzN:N<w4.heap.size+1:=by omega
   go_wp2
   go_region
   go_wp2
   refine bodyPost_ret (v:=.tuple #[.agg #[.slice a4 n4 c4],.agg (rB mo ba (.slice (some ⟨gl,0,none⟩) l.length l.length) op oh ot st fe fp fh nf false),J 0]) (by simp[results,Tryz.results107,go_sem, *]) rfl ⟨_,_,_,_,_,_,_,_,_,_,_,_,_,_,_,_,l,by rw[HE.out],HB.out,?_,?_,?_,FV.out,bJ FL.out _ _ _⟩
   ·rw[HT.out]
    exact Sl.drew (Sl.alloc (Sl.alloc (Sl.put12 (n:=w.heap.size+1+1+1+1) (Sl.setOther (p:=⟨w.heap.size+1+1+1,0,none⟩) (Sl.setOther (p:=⟨N,10,none⟩) (Sl.setOther (p:=⟨N,9,none⟩) (Sl.setOther (p:=⟨N,8,none⟩) HS4.out FN.out _) FN.out _) FN.out _) F3.out _) F4.out _ _ _ _ _ _ _ _ _ _ _ _) _) _)
   ·exact Ls.drew (Ls.alloc (Ls.alloc (Ls.put12 (Ls.putAt (Ls.putAt (Ls.putAt (Ls.putAt HL4.out APN.out 8 _) APN.out 9 _) APN.out 10 _) AP3.out 0 _) AP.out _ _ _ _ _ _ _ _ _ _ _ _) _) _)
   ·exact Below.drew (aA (aA (aJ (by omega) (aI (p:=⟨w.heap.size+1+1+1,0,none⟩) (by dsimp only;omega) (aI (p:=⟨N,10,none⟩) zN (aI (p:=⟨N,9,none⟩) zN (aI (p:=⟨N,8,none⟩) zN B4.out _) _) _) _) _ _ _ _ _ _ _ _ _ _ _ _) _) _)
 ·have HB:Hid (tlB zs ⟨mo,ba,l,op,oh,ot,st,fe,fp,fh,ft,true⟩ c d p=⟨mo,ba,l,op,oh,ot,st,fe,fp,fh,ft,true⟩):=by show _=_;rw[tlB,if_pos HE.out];rfl
  have HT:Hid (tlM zs ⟨mo,ba,l,op,oh,ot,st,fe,fp,fh,ft,true⟩ c d p x=zs):=by show _=_;rw[tlM,if_pos HE.out];rfl
  go_upto_region 9 with fail
  have X0:=X0.past (.cells (rB mo ba (.slice (some ⟨gl,0,none⟩) l.length l.length) op oh ot st fe fp fh ft true) 31)
  have X3:=X3.past (.cells (rB mo ba (.slice (some ⟨gl,0,none⟩) l.length l.length) op oh ot st fe fp fh ft true) 31)
  have X4:=X4.past (.cells (rB mo ba (.slice (some ⟨gl,0,none⟩) l.length l.length) op oh ot st fe fp fh ft true) 31)
  have XN:=Box.newAt (w:=w3) rfl 31 (rB mo ba (.slice (some ⟨gl,0,none⟩) l.length l.length) op oh ot st fe fp fh ft true)
  have BW:Hid (Below w.heap.size w (w3.alloc (.cells (rB mo ba (.slice (some ⟨gl,0,none⟩) l.length l.length) op oh ot st fe fp fh ft true) 31))):=aA B3.out _
  have HMW:Hid (Sl (w3.alloc (.cells (rB mo ba (.slice (some ⟨gl,0,none⟩) l.length l.length) op oh ot st fe fp fh ft true) 31)) _ zs):=HM.out.keep BW.out
  have HLW:Hid (Ls (w3.alloc (.cells (rB mo ba (.slice (some ⟨gl,0,none⟩) l.length l.length) op oh ot st fe fp fh ft true) 31)) _ l):=H3.out.alloc _
  have nN3:¬w3.heap.size=w.heap.size+1+1+1:=by omega
  have nN4:¬w3.heap.size=w.heap.size+1+1+1+1:=by omega
  generalize w3.heap.size=N at *
  generalize (w3.alloc (.cells (rB mo ba (.slice (some ⟨gl,0,none⟩) l.length l.length) op oh ot st fe fp fh ft true) 31))=W at *
  clear m0 s0 r0 r1 s3 u0 u1 u2 u3 u4 u5 u6 u7 u8 u9 u10 u11 y0 y1 y2 y3 y4 y5 y6 y7 y8 y9 y10 y11 s4
  obtain⟨m0,-,s0⟩:=X0.one
  obtain⟨r0,r1,s3⟩:=X3.one
  obtain⟨⟨u0,u1,u2,u3,u4,u5,u6,u7,u8,u9,u10,u11⟩,s4⟩:=X4.twelve
  obtain⟨y0,y1,y2,y3,y4,y5,y6,y7,y8,y9,y10,y11⟩:=X4.marks
  obtain⟨⟨v0,v1,v2,v3,v4,v5,v6,v7,v8,v9,v10,v11⟩,sN⟩:=XN.twelve
  go_region_with (go_at_call 135;refine (iA _ zs _ ?_ HN.out).mono ?_;(focus (repeat (first|with_reducible exact HMW.out|with_reducible refine Sl.drew ?_|with_reducible refine Sl.drewN ?_ _)));rintro e w5 ⟨gm,rfl,h5,hg5,b5⟩;have Y3:=(Box.keep (n:=w.heap.size+1+1+1) (t:=24) (cs:=#[.slice none 0 0]) (by (repeat (first|with_reducible assumption|with_reducible refine Box.drew ?_|with_reducible refine Box.drewN ?_ _|with_reducible refine Box.past ?_ _))) b5);have Y4:=(Box.keep (n:=w.heap.size+1+1+1+1) (t:=31) (cs:=zB) (by (repeat (first|with_reducible assumption|with_reducible refine Box.drew ?_|with_reducible refine Box.drewN ?_ _|with_reducible refine Box.past ?_ _))) b5);have YN:=(Box.keep (n:=N) (t:=31) (cs:=(rB mo ba (.slice (some ⟨gl,0,none⟩) l.length l.length) op oh ot st fe fp fh ft true)) (by (repeat (first|with_reducible assumption|with_reducible refine Box.drew ?_|with_reducible refine Box.drewN ?_ _|with_reducible refine Box.past ?_ _))) b5);obtain⟨k3,k3',j3⟩:=Y3.one;obtain⟨⟨i0,i1,i2,i3,i4,i5,i6,i7,i8,i9,i10,i11⟩,j4⟩:=Y4.twelve;obtain⟨x0,x1,x2,x3,x4,x5,x6,x7,x8,x9,x10,x11⟩:=Y4.marks;obtain⟨⟨t0,t1,t2,t3,t4,t5,t6,t7,t8,t9,t10,t11⟩,j5⟩:=YN.twelve)
  all_goals
   go_wp2
   refine bodyPost_ret (v:=.tuple #[.agg #[.slice (some ⟨gm,0,none⟩) 512 512],.agg (rB mo ba (.slice (some ⟨gl,0,none⟩) l.length l.length) op oh ot st fe fp fh ft true),J 0]) (by simp[results,Tryz.results107,go_sem, *]) rfl ⟨_,_,_,_,_,_,_,_,_,_,_,_,_,_,_,_,l,by rw[HE.out],HB.out,?_,?_,?_,bJ (Nat.le_trans BW.out.size (by simpa using hg5)) _ _ _,bJ FL.out _ _ _⟩
   ·rw[HT.out]
    have hg:W.heap.size≤gm:=by simpa using hg5
    (repeat (first|with_reducible exact h5|with_reducible refine Sl.drew ?_|with_reducible refine Sl.drewN ?_ _|(with_reducible refine Sl.put12 ?_ ?_ _ _ _ _ _ _ _ _ _ _ _ _;rotate_left;(focus (simp[Value.ownBlock];omega)))|(with_reducible refine Sl.setOther ?_ ?_ _;rotate_left;(focus (simp[Value.ownBlock];omega)))))
   ·(repeat (first|with_reducible exact HLW.out.drew.keep b5|with_reducible exact HLW.out.keep b5|with_reducible refine Ls.drew ?_|with_reducible refine Ls.drewN ?_ _|with_reducible refine Ls.put12 ?_ AP.out _ _ _ _ _ _ _ _ _ _ _ _|with_reducible refine Ls.setSlice ?_ k3 _))
   ·(repeat (first|with_reducible exact BW.out|with_reducible refine Below.drew ?_|with_reducible refine aH ?_ _|with_reducible refine aA ?_ _|(with_reducible refine aJ ?_ ?_ _ _ _ _ _ _ _ _ _ _ _ _;(focus omega))|(with_reducible refine aI ?_ ?_ _;(focus (dsimp only;omega)))|with_reducible refine aB ?_ b5))
theorem aAj {v:Value}{zs:List Int}{mo ba op oh ot fe fp fh ft:Int}{st lo:Bool}{vc:Value}{l:List Ln}{c d p:Int}{x:Bool}{w:World}{mo1 ba1 op1 oh1 ot1 fe1 fp1 fh1 ft1:Int}{st1 lo1:Bool}{l1:List Ln}{ms:List Int}{e0:Int}(hs:Sl w v zs)(h:Ls w vc l)(hE:tlE zs ⟨mo,ba,l,op,oh,ot,st,fe,fp,fh,ft,lo⟩ c d p=e0)(hB:tlB zs ⟨mo,ba,l,op,oh,ot,st,fe,fp,fh,ft,lo⟩ c d p=⟨mo1,ba1,l1,op1,oh1,ot1,st1,fe1,fp1,fh1,ft1,lo1⟩)(hM:tlM zs ⟨mo,ba,l,op,oh,ot,st,fe,fp,fh,ft,lo⟩ c d p x=ms):
  Calls Tryz.prog 107 #[.agg #[v],.agg (rB mo ba vc op oh ot st fe fp fh ft lo),.agg #[J c,J d,J p,.bool x]] w fun e w'=>
   ∃ma1 mc1 va1 vk1,e=.returned (.tuple #[.agg #[.slice ma1 ms.length mc1],.agg (rB mo1 ba1 (.slice va1 l1.length vk1) op1 oh1 ot1 st1 fe1 fp1 fh1 ft1 lo1),J e0])∧Sl w' (.slice ma1 ms.length mc1) ms∧Ls w' (.slice va1 l1.length vk1) l1∧Below w.heap.size w w'∧Fresh w.heap.size (.slice ma1 ms.length mc1)∧Fresh w.heap.size (.slice va1 l1.length vk1):=by
 refine (wL v zs mo ba op oh ot fe fp fh ft st lo vc l c d p x w hs h).mono ?_
 rintro e w' ⟨ma2,mn2,mc2,mo2,ba2,op2,oh2,ot2,fe2,fp2,fh2,ft2,st2,lo2,va2,vk2,l2,rfl,hB2,hS,hL,hb,g1,g2⟩
 rw[hB] at hB2
 simp only[Br.mk.injEq] at hB2
 obtain⟨rfl,rfl,rfl,rfl,rfl,rfl,rfl,rfl,rfl,rfl,rfl,rfl⟩:=hB2
 rw[hM] at hS
 rw[hE]
 obtain⟨a,cap,he,_⟩:=id hS
 simp only[Value.slice.injEq] at he
 obtain⟨rfl,rfl,rfl⟩:=he
 exact⟨ma2,mc2,va2,vk2,rfl,hS,hL,hb,g1,g2⟩
theorem rK {v:Value}{zs:List Int}{mo ba op oh ot fe fp fh ft:Int}{st lo:Bool}{vc:Value}{l:List Ln}{d p:Int}{wr:Bool}{w:World}{mo1 ba1 op1 oh1 ot1 fe1 fp1 fh1 ft1:Int}{st1 lo1:Bool}{l1:List Ln}{k f e0:Int}(hs:Sl w v zs)(h:Ls w vc l)(hE:thE zs ⟨mo,ba,l,op,oh,ot,st,fe,fp,fh,ft,lo⟩ d p=e0)(hR:thR zs ⟨mo,ba,l,op,oh,ot,st,fe,fp,fh,ft,lo⟩ d p wr=(⟨mo1,ba1,l1,op1,oh1,ot1,st1,fe1,fp1,fh1,ft1,lo1⟩,k,f)):
  Calls Tryz.prog 57 #[.agg #[v],.agg (rB mo ba vc op oh ot st fe fp fh ft lo),J d,J p,.bool wr] w fun e w'=>
   ∃va1 vk1,e=.returned (.tuple #[.agg (rB mo1 ba1 (.slice va1 l1.length vk1) op1 oh1 ot1 st1 fe1 fp1 fh1 ft1 lo1),J k,J f,J e0])∧Ls w' (.slice va1 l1.length vk1) l1∧Below w.heap.size w w'∧Fresh w.heap.size (.slice va1 l1.length vk1):=by
 refine (pM v zs mo ba op oh ot fe fp fh ft st lo vc l d p wr w hs h).mono ?_
 rintro e w' ⟨mo2,ba2,op2,oh2,ot2,fe2,fp2,fh2,ft2,st2,lo2,va2,vk2,l2,k2,f2,rfl,hR2,hl,hb,hn⟩
 rw[hR] at hR2
 simp only[Prod.mk.injEq,Br.mk.injEq] at hR2
 obtain⟨⟨rfl,rfl,rfl,rfl,rfl,rfl,rfl,rfl,rfl,rfl,rfl,rfl⟩,rfl,rfl⟩:=hR2
 rw[hE]
 exact⟨va2,vk2,rfl,hl,hb,hn⟩
set_option maxHeartbeats 2000000 in
theorem rL (v:Value)(zs:List Int)(w:World)(h:Sl w v zs)(hn:zs.length=512):
  Calls Tryz.prog 105 #[.agg #[v]] w fun e w'=>∃g,e=.returned (.agg #[.slice (some ⟨g,0,none⟩) 512 512])∧Box w' g 3 (intCells zs)∧w.heap.size≤g∧Below w.heap.size w w':=by
 obtain⟨b,o,cap,rfl,hb,hc⟩:=h.open512 hn
 have HC:Hid (∀i,i<512→w.cell? ⟨b,o+i,none⟩=some (J (nth zs i))):=hc
 have HN:Hid (zs.length=512):=hn
 clear hc hn h
 go_enter Tryz.func105,Tryz.ntmps105
 go_wp2_with fail
 refine (iR _).mono ?_
 rintro e w2 ⟨g,rfl,hg2,hge,hb2⟩
 have X0:=((Box.newAt (n:=w.heap.size) rfl 24 #[.slice (some ⟨b,o,none⟩) 512 cap]).past _).keep hb2
 have X1:=(Box.newAt (n:=w.heap.size+1) (by simp) 24 #[.slice none 0 0]).keep hb2
 have HB2:Hid (Below w.heap.size w w2):=aB (aA (aA (Below.refl _ _) _) _) hb2
 have hgL:w.heap.size+1+1≤g:=by simpa using hge
 have hs2:=hb2.size
 clear hb2 hge
 obtain⟨hglt,_⟩:=Array.getElem?_eq_some_iff.1 hg2
 obtain⟨w3,hrun,hg3,ho3,hs3,hb3⟩:=eK (w2.alloc (.cells #[.slice (some ⟨g,0,none⟩) 512 512] 24)) b o cap g zs zeroCells HN.out (bN hglt hg2) (by simp[zeroCells,size_madeCells]) (fun i hi=>by
  rw[World.cell?_alloc_past _ _ _ (by omega),HB2.out.cell (p:=⟨b,o+i,none⟩) hb];exact HC.out i hi)
 have X2:Box w3 w2.heap.size 24 #[.slice (some ⟨g,0,none⟩) 512 512]:=by
  unfold Box;rw[ho3 _ (by omega)];exact Box.newAt rfl _ _
 have Y1:Box w3 (w.heap.size+1) 24 #[.slice none 0 0]:=by
  unfold Box;rw[ho3 _ (by omega)];exact X1.past _
 obtain⟨q0,-,s0⟩:=X0.one
 obtain⟨q2,-,s2⟩:=X2.one
 obtain⟨q1,y1,s1⟩:=Y1.one
 have HG3:Hid _:=hg3
 have HB3:Hid (Below w.heap.size w w3):=(aA HB2.out _).trans (hb3.mono (by omega))
 clear ho3 hb3 hg3 hg2 hs2
 go_wp2_with fail
 refine bodyPost_ret (v:=.agg #[.slice (some ⟨g,0,none⟩) 512 512]) (by simp[results,Tryz.results105,go_sem, *]) rfl ⟨_,rfl,?_,by omega,?_⟩
 ·exact Box.other (p:=⟨w.heap.size+1,0,none⟩) HG3.out (by dsimp only;omega) _
 ·exact cW (by omega) HB3.out _
end Go.Proofs.YthlhocneggcekaaGreat
