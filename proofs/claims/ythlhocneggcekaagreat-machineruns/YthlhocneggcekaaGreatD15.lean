/-
  Laid together: WhileT, CopyN, Through, Word1.
-/
import Derived.Test.YthlhocneggcekaaGreatD14
namespace Go.Proofs.YthlhocneggcekaaGreat
open Go.RowKit
set_option maxHeartbeats 4000000 in
theorem mW (v:Value)(zs:List Int)(mo ba op oh ot fe fp fh ft:Int)(st lo:Bool)(vc:Value)(l:List Ln)(d p:Int)(wr:Bool)(w:World)(hs:Sl w v zs)(h:Ls w vc l)(hk:chk zs=0)(hc:chkC l=0)(hba:0≤ba∧ba≤63)(hd:0≤d∧d≤7)(hp:0≤p∧p≤63)(hf:¬0≤fndC l d p):
  Calls Tryz.prog 88 #[.agg #[v],.agg (rB mo ba vc op oh ot st fe fp fh ft lo),J d,J p,.bool wr] w fun e w'=>
   ∃vc1 l1 k f,e=.returned (.tuple #[.agg (rB mo ba vc1 op oh ot st fe fp fh ft lo),J k,J f])∧byT zs ⟨mo,ba,l,op,oh,ot,st,fe,fp,fh,ft,lo⟩ d p wr=(⟨mo,ba,l1,op,oh,ot,st,fe,fp,fh,ft,lo⟩,k,f)∧Ls w' vc1 l1∧Below w.heap.size w w'∧∀N,N≤w.heap.size→Fresh N vc→Fresh N vc1:=by
 have HFN:Hid (fndC l d p<0):=show _<_ by omega
 have HS:Hid (Ls w vc l):=h
 obtain⟨va,vk,rfl,-⟩:=h.shape
 have HM:Hid (Sl w v zs):=hs
 obtain⟨b,o,cap,rfl,hb,hcs⟩:=hs.open512 (bF hk).1
 obtain⟨ba0,ba1⟩:=hba
 obtain⟨d0,d1⟩:=hd
 have gk:=hcs (ba*8+d).toNat (by omega)
 obtain⟨z,hz⟩:∃z,nth zs (ba*8+d).toNat=z:=⟨_,rfl⟩
 rw[hz] at gk
 have HZ:Hid (ctxW zs ⟨mo,ba,l,op,oh,ot,st,fe,fp,fh,ft,lo⟩ d=z):=by show _=_;rw[←hz,ctxW,Int.mul_comm]
 have HK:Hid (chk zs=0):=hk
 have HC:Hid (chkC l=0):=hc
 have HP:Hid (0≤p∧p≤63):=hp
 have HD:Hid (0≤d∧d≤7):=⟨d0,d1⟩
 have k0:0≤ba*8+d:=by omega
 have k1:ba*8+d<512:=by omega
 clear h hs hcs hz hk hc hp
 go_enter Tryz.func88,Tryz.ntmps88
 go_wp2_with fail
 refine (gN _ l d p _ (HS.out.keep (aA (aA (aA (Below.refl _ _) _) _) _))).mono ?_
 rintro e w1 ⟨rfl,b1⟩
 have X0:=(((Box.newAt (n:=w.heap.size) rfl 24 #[.slice (some ⟨b,o,none⟩) 512 cap]).past _).past _).keep b1
 have X1:=((Box.newAt (n:=w.heap.size+1) (by simp) 31 (rB mo ba (.slice va l.length vk) op oh ot st fe fp fh ft lo)).past _).keep b1
 have X2:=(Box.newAt (n:=w.heap.size+1+1) (by simp) 31 zB).keep b1
 have B1:Hid (Below w.heap.size w w1):=aB (aA (aA (aA (Below.refl _ _) _) _) _) b1
 clear b1
 obtain⟨qm,-,s0⟩:=X0.one
 obtain⟨⟨q0,q1,q2,q3,q4,q5,q6,q7,q8,q9,q10,q11⟩,s1⟩:=X1.twelve
 obtain⟨⟨u0,u1,u2,u3,u4,u5,u6,u7,u8,u9,u10,u11⟩,s2⟩:=X2.twelve
 obtain⟨y0,y1,y2,y3,y4,y5,y6,y7,y8,y9,y10,y11⟩:=X2.marks
 rw[←B1.out.cell (p:=⟨b,o+(ba*8+d).toNat,none⟩) hb] at gk
 have hb1:b<w1.heap.size:=Nat.lt_of_lt_of_le hb B1.out.size
 have hfn:(decide (0≤fndC l d p))=false:=by simpa using hf
 go_wp2_with fail
 refine (jS z _).mono ?_
 rintro e w2 ⟨rfl,b2⟩
 clear q0 q1 q2 q3 q4 q5 q6 q7 q8 q9 q10 q11 u0 u1 u2 u3 u4 u5 u6 u7 u8 u9 u10 u11 y0 y1 y2 y3 y4 y5 y6 y7 y8 y9 y10 y11 s1 s2
 clear qm s0 gk hb1 hb k0 k1
 have X0:=X0.keep b2
 have X1:=X1.keep b2
 have X2:=X2.keep b2
 have B2:Hid (Below w.heap.size w w2):=aB B1.out b2
 clear b2 B1
 obtain⟨qm,-,s0⟩:=X0.one
 obtain⟨⟨q0,q1,q2,q3,q4,q5,q6,q7,q8,q9,q10,q11⟩,s1⟩:=X1.twelve
 obtain⟨⟨u0,u1,u2,u3,u4,u5,u6,u7,u8,u9,u10,u11⟩,s2⟩:=X2.twelve
 obtain⟨y0,y1,y2,y3,y4,y5,y6,y7,y8,y9,y10,y11⟩:=X2.marks
 have BX:=B2
 cases hv:vC z
 ·have HT:Hid (byT zs ⟨mo,ba,l,op,oh,ot,st,fe,fp,fh,ft,lo⟩ d p wr=(⟨mo,ba,l,op,oh,ot,st,fe,fp,fh,ft,lo⟩,0,2)):=by show _=_;rw[byT,HZ.out,hv];rfl
  cases ho:okC z
  all_goals
   go_wp2
   refine bodyPost_ret (v:=.tuple #[.agg (rB mo ba (.slice va l.length vk) op oh ot st fe fp fh ft lo),J 0,J 2]) (by simp[results,Tryz.results88,go_sem, *]) rfl ⟨_,_,_,_,rfl,HT.out,HS.out.keep ?_,?_,fun _ _ h=>h⟩
   all_goals (repeat (first|with_reducible exact BX.out|with_reducible refine aA ?_ _|(with_reducible refine aJ ?_ ?_ _ _ _ _ _ _ _ _ _ _ _ _;(focus omega))))
 have ho:okC z=true:=by
  cases ho:okC z
  ·simp[vC,ho] at hv
  ·rfl
 cases ha:aC z
 rotate_left
 ·have HT:Hid (byT zs ⟨mo,ba,l,op,oh,ot,st,fe,fp,fh,ft,lo⟩ d p wr=(⟨mo,ba,l,op,oh,ot,st,fe,fp,fh,ft,lo⟩,p,0)):=by show _=_;rw[byT,HZ.out,if_pos hv,if_pos ha]
  go_wp2
  refine bodyPost_ret (v:=.tuple #[.agg (rB mo ba (.slice va l.length vk) op oh ot st fe fp fh ft lo),J p,J 0]) (by simp[results,Tryz.results88,go_sem, *]) rfl ⟨_,_,_,_,rfl,HT.out,HS.out.keep ?_,?_,fun _ _ h=>h⟩
  all_goals (repeat (first|with_reducible exact BX.out|with_reducible refine aA ?_ _|(with_reducible refine aJ ?_ ?_ _ _ _ _ _ _ _ _ _ _ _ _;(focus omega))))
 have HA:Hid (¬aC z=true):=by show ¬_;rw[ha];decide
 have HV:Hid (vC z=true):=hv
 rcases oS (wr:=wr) HK.out (oT z) (oU HP.out) with ⟨f,hff,hwk⟩|⟨x,a,haa,hx,hwk⟩
 ·have HT:Hid (byT zs ⟨mo,ba,l,op,oh,ot,st,fe,fp,fh,ft,lo⟩ d p wr=(⟨mo,ba,l,op,oh,ot,st,fe,fp,fh,ft,lo⟩,0,f)):=by
   show _=_;rw[byT,HZ.out,if_pos HV.out,if_neg HA.out,hwk];exact if_neg (show ¬f=0 by omega)
  have hfq:(f !=0)=true:=by simp;omega
  have HW:Hid (_=_):=hwk
  clear hwk hff
  go_wp2_with fail
  refine (uR HW.out (HM.out.keep (aA B2.out _))).mono ?_
  rintro e w3 ⟨rfl,b3⟩
  clear q0 q1 q2 q3 q4 q5 q6 q7 q8 q9 q10 q11 u0 u1 u2 u3 u4 u5 u6 u7 u8 u9 u10 u11 y0 y1 y2 y3 y4 y5 y6 y7 y8 y9 y10 y11 s1 s2
  clear qm s0
  have X1:=(X1.past _).keep b3
  have X2:=(X2.past _).keep b3
  have B3:Hid (Below w.heap.size w w3):=aB (aA B2.out _) b3
  clear b3 B2
  have BX:=B3
  obtain⟨⟨q0,q1,q2,q3,q4,q5,q6,q7,q8,q9,q10,q11⟩,s1⟩:=X1.twelve
  obtain⟨⟨u0,u1,u2,u3,u4,u5,u6,u7,u8,u9,u10,u11⟩,s2⟩:=X2.twelve
  obtain⟨y0,y1,y2,y3,y4,y5,y6,y7,y8,y9,y10,y11⟩:=X2.marks
  go_wp2
  refine bodyPost_ret (v:=.tuple #[.agg (rB mo ba (.slice va l.length vk) op oh ot st fe fp fh ft lo),J 0,J f]) (by simp[results,Tryz.results88,go_sem, *]) rfl ⟨_,_,_,_,rfl,HT.out,HS.out.keep ?_,?_,fun _ _ h=>h⟩
  all_goals (repeat (first|with_reducible exact BX.out|with_reducible refine aA ?_ _|(with_reducible refine aJ ?_ ?_ _ _ _ _ _ _ _ _ _ _ _ _;(focus omega))))
 obtain⟨c,hfc⟩:∃c,flC l (d,p,a,true,x)=c:=⟨_,rfl⟩
 have HT:Hid (byT zs ⟨mo,ba,l,op,oh,ot,st,fe,fp,fh,ft,lo⟩ d p wr=(⟨mo,ba,c,op,oh,ot,st,fe,fp,fh,ft,lo⟩,a,0)):=by
  show _=_;rw[byT,HZ.out,if_pos HV.out,if_neg HA.out,hwk];simp only[if_true,hfc];rfl
 have HF:Hid (flE l (d,p,a,true,x)=0):=zC HC.out HD.out HP.out haa (by have:=HFN.out;omega)
 have HFC:Hid (flC l (d,p,a,true,x)=c):=hfc
 have HW:Hid (_=_):=hwk
 clear hwk hx haa hfc
 go_wp2_with fail
 refine (uR HW.out (HM.out.keep (aA B2.out _))).mono ?_
 rintro e w3 ⟨rfl,b3⟩
 clear q0 q1 q2 q3 q4 q5 q6 q7 q8 q9 q10 q11 u0 u1 u2 u3 u4 u5 u6 u7 u8 u9 u10 u11 y0 y1 y2 y3 y4 y5 y6 y7 y8 y9 y10 y11 s1 s2
 clear qm s0
 have X1:=(X1.past _).keep b3
 have X2:=(X2.past _).keep b3
 have B3:Hid (Below w.heap.size w w3):=aB (aA B2.out _) b3
 clear b3 B2
 obtain⟨⟨q0,q1,q2,q3,q4,q5,q6,q7,q8,q9,q10,q11⟩,s1⟩:=X1.twelve
 obtain⟨⟨u0,u1,u2,u3,u4,u5,u6,u7,u8,u9,u10,u11⟩,s2⟩:=X2.twelve
 obtain⟨y0,y1,y2,y3,y4,y5,y6,y7,y8,y9,y10,y11⟩:=X2.marks
 go_wp2_with fail
 refine (zY (HS.out.keep (aA B3.out _)) HF.out HFC.out).mono ?_
 rintro e w4 ⟨b',cap',rfl,hS4,hN4,b4⟩
 have HN4:Hid (Fresh w.heap.size (.slice b' c.length cap')):=hN4.mono (aA B3.out _).size
 clear hN4
 have n2:¬w3.heap.size=w.heap.size+1+1:=by omega
 have n1:¬w3.heap.size=w.heap.size+1:=by omega
 clear q0 q1 q2 q3 q4 q5 q6 q7 q8 q9 q10 q11 u0 u1 u2 u3 u4 u5 u6 u7 u8 u9 u10 u11 y0 y1 y2 y3 y4 y5 y6 y7 y8 y9 y10 y11 s1 s2
 have X1:=(X1.past _).keep b4
 have X2:=(X2.past _).keep b4
 have X3:=(Box.newAt (w:=w3) rfl 171 #[.bool true,.bool true,.bool x,.bool true,J a]).keep b4
 have B4:Hid (Below w.heap.size w w4):=aB (aA B3.out _) b4
 clear b4 B3
 have AP1:Hid (Apart _ _ _):=hS4.apart X1
 have AP2:Hid (Apart _ _ _):=hS4.apart X2
 have H4:Hid (Ls _ _ _):=hS4
 clear hS4
 obtain⟨⟨q0,q1,q2,q3,q4,q5,q6,q7,q8,q9,q10,q11⟩,s1⟩:=X1.twelve
 obtain⟨⟨u0,u1,u2,u3,u4,u5,u6,u7,u8,u9,u10,u11⟩,s2⟩:=X2.twelve
 obtain⟨y0,y1,y2,y3,y4,y5,y6,y7,y8,y9,y10,y11⟩:=X2.marks
 obtain⟨-,-,z2,-⟩:=X1.marks
 have e4:w4.cell? ⟨w3.heap.size,4,none⟩=some (J a):=X3.cell 4
 have s3:=X3.lt
 go_wp2
 go_region
 go_wp2
 refine bodyPost_ret (v:=.tuple #[.agg (rB mo ba (.slice b' c.length cap') op oh ot st fe fp fh ft lo),J a,J 0]) (by simp[results,Tryz.results88,go_sem, *]) rfl ⟨_,_,_,_,rfl,HT.out,?_,?_,fun _ h _=>HN4.out.mono h⟩
 ·(repeat (first|with_reducible exact H4.out|with_reducible refine Ls.drew ?_|with_reducible refine Ls.put12 ?_ AP2.out _ _ _ _ _ _ _ _ _ _ _ _|with_reducible refine Ls.putAt ?_ AP1.out _ _))
 ·(repeat (first|with_reducible exact B4.out|with_reducible refine Below.drew ?_|(with_reducible refine aJ ?_ ?_ _ _ _ _ _ _ _ _ _ _ _ _;(focus omega))|(with_reducible refine aI ?_ ?_ _;(focus (dsimp only;omega)))))
set_option maxHeartbeats 2000000 in
theorem gK (mo ba op oh ot fe fp fh ft:Int)(st lo:Bool)(vc:Value)(l:List Ln)(w:World)(h:Ls w vc l)(hn:l.length≤6):
  Calls Tryz.prog 87 #[.agg (rB mo ba vc op oh ot st fe fp fh ft lo)] w fun e w'=>∃g,w.heap.size≤g∧e=.returned (.agg (rB mo ba (.slice (some ⟨g,0,none⟩) l.length l.length) op oh ot st fe fp fh ft lo))∧Ls w' (.slice (some ⟨g,0,none⟩) l.length l.length) l∧Below w.heap.size w w':=by
 have HS:Hid (Ls w vc l):=h
 obtain⟨va,vk,rfl,-⟩:=h.shape
 clear h
 have HN:Hid (l.length≤6):=hn
 obtain⟨N,hN⟩:∃N,N=l.length:=⟨_,rfl⟩
 have HE:Hid (N=l.length):=hN
 rw[←hN]
 have hN6:N≤6:=by omega
 have HV:Hid (Ls w (.slice va N vk) l):=by show Ls _ _ _;rw[hN];exact HS.out
 clear hN hn
 have hW:Below w.heap.size w ((w.alloc (.cells (rB mo ba (.slice va N vk) op oh ot st fe fp fh ft lo) 31)).alloc (.cells zB 31)):=aA (aA (Below.refl _ _) _) _
 obtain⟨cur,hmk,hcs⟩:=makeLines ((w.alloc (.cells (rB mo ba (.slice va N vk) op oh ot st fe fp fh ft lo) 31)).alloc (.cells zB 31)) N hN6
 have hg0:(((w.alloc (.cells (rB mo ba (.slice va N vk) op oh ot st fe fp fh ft lo) 31)).alloc (.cells zB 31)).alloc (.cells cur 52)).heap[w.heap.size+1+1]?=some (.cells cur 52 (0,0)):=aY (by simp)
 obtain⟨w3,hcp,hg3,ho3,hs3,hb3⟩:=copyLines _ 3 (.slice va N vk) (w.heap.size+1+1) l cur hg0 (by rw[hcs,HE.out]) (HV.out.keep (aA hW _))
 rw[←HE.out] at hcp
 have X0:Box w3 w.heap.size 31 (rB mo ba (.slice va N vk) op oh ot st fe fp fh ft lo):=by
  unfold Box;rw[ho3 _ (by omega)]
  exact ((Box.newAt (n:=w.heap.size) rfl 31 _).past _).past _
 have X1:Box w3 (w.heap.size+1) 31 zB:=by
  unfold Box;rw[ho3 _ (by omega)]
  exact (Box.newAt (n:=w.heap.size+1) (by simp) 31 _).past _
 have B3:Hid (Below w.heap.size w w3):=(aA hW _).trans (hb3.mono (by omega))
 obtain⟨⟨q0,q1,q2,q3,q4,q5,q6,q7,q8,q9,q10,q11⟩,s0⟩:=X0.twelve
 obtain⟨-,-,z2,-⟩:=X0.marks
 obtain⟨⟨u0,u1,u2,u3,u4,u5,u6,u7,u8,u9,u10,u11⟩,s1⟩:=X1.twelve
 obtain⟨y0,y1,y2,y3,y4,y5,y6,y7,y8,y9,y10,y11⟩:=X1.marks
 have HG:Hid _:=hg3
 clear hg3 ho3 hs3 hb3 hg0 hW hcs
 have n1:¬w.heap.size+1+1=w.heap.size:=by omega
 have n2:¬w.heap.size+1+1=w.heap.size+1:=by omega
 go_enter Tryz.func87,Tryz.ntmps87
 go_wp2
 refine bodyPost_ret (v:=.agg (rB mo ba (.slice (some ⟨w.heap.size+1+1,0,none⟩) N N) op oh ot st fe fp fh ft lo)) (by simp[results,Tryz.results87,go_sem, *]) rfl ⟨_,by omega,rfl,?_,?_⟩
 ·rw[HE.out]
  refine jC ?_ HN.out
  exact (Box.other (p:=⟨w.heap.size,2,none⟩) HG.out (by dsimp only;omega) _).other12 (by omega) _ _ _ _ _ _ _ _ _ _ _ _
 ·exact aJ (by omega) (aI (by dsimp only;omega) B3.out _) _ _ _ _ _ _ _ _ _ _ _ _
theorem rH {l:List Ln}(h:chkC l=0):l.length≤6:=(aW.1 h).1
theorem rI (v:Value)(zs:List Int)(mo ba op oh ot fe fp fh ft:Int)(st lo:Bool)(vc:Value)(l:List Ln)(d p:Int)(wr:Bool)(w:World)(hs:Sl w v zs)(h:Ls w vc l)(hE:thE zs ⟨mo,ba,l,op,oh,ot,st,fe,fp,fh,ft,lo⟩ d p=0)(hm:mo=2):
  Calls Tryz.prog 88 #[.agg #[v],.agg (rB mo ba vc op oh ot st fe fp fh ft lo),J d,J p,.bool wr] w fun e w'=>
   ∃vc1 l1 k f,e=.returned (.tuple #[.agg (rB mo ba vc1 op oh ot st fe fp fh ft lo),J k,J f])∧goT zs ⟨mo,ba,l,op,oh,ot,st,fe,fp,fh,ft,lo⟩ d p wr=(⟨mo,ba,l1,op,oh,ot,st,fe,fp,fh,ft,lo⟩,k,f)∧Ls w' vc1 l1∧Below w.heap.size w w'∧∀N,N≤w.heap.size→Fresh N vc→Fresh N vc1:=by
 obtain⟨hk,hb,hd,hp⟩:=oR hE
 obtain⟨_,g2,_,g4,_,_⟩:=bK hb
 have hg:∀X,goT zs ⟨mo,ba,l,op,oh,ot,st,fe,fp,fh,ft,lo⟩ d p wr=X↔(if 0≤fndC l d p then (if (wr&&!(lineC l d p).2.2.2.2)=true then (⟨mo,ba,l,op,oh,ot,st,fe,fp,fh,ft,lo⟩,0,5) else (⟨mo,ba,l,op,oh,ot,st,fe,fp,fh,ft,lo⟩,(lineC l d p).2.2.1,0)) else byT zs ⟨mo,ba,l,op,oh,ot,st,fe,fp,fh,ft,lo⟩ d p wr)=X:=fun X=>by
  rw[goT,if_neg (by show ¬mo=0;omega),if_neg (by show ¬mo=1;omega)]
 by_cases hf:0≤fndC l d p
 ·refine (mV v zs mo ba op oh ot fe fp fh ft st lo vc l d p wr w hs h hf).mono ?_
  rintro e w' ⟨rfl,hl,hb⟩
  refine⟨_,l,_,_,rfl,(hg _).2 ?_,hl,hb,fun _ _ h=>h⟩
  rw[if_pos hf]
  cases hq:(wr&&!(lineC l d p).2.2.2.2) <;> rfl
 ·refine (mW v zs mo ba op oh ot fe fp fh ft st lo vc l d p wr w hs h hk g4 g2 hd hp hf).mono ?_
  rintro e w' ⟨vc1,l1,k,f,rfl,hT,hl,hb,hN⟩
  exact⟨vc1,l1,k,f,rfl,(hg _).2 (by rw[if_neg hf];exact hT),hl,hb,hN⟩
theorem wK (d p:Int):(whoB d p=true∧stepR d=true∧pageR p=true)∨(whoB d p=false∧(stepR d=false∨(stepR d=true∧pageR p=false))):=by
 simp only[whoB,stepR,pageR]
 by_cases h1:0≤d∧d<8
 ·by_cases h2:0≤p∧p<64
  ·exact .inl ⟨by simp;omega,by simp[h1],by simp[h2]⟩
  ·exact .inr ⟨by simp;omega,.inr ⟨by simp[h1],by simpa using h2⟩⟩
 ·exact .inr ⟨by simp;omega,.inl (by simpa using h1)⟩
abbrev ThOutF (zs:List Int)(b:Br)(d p:Int)(wr:Bool)(w:World)(e:Ending)(w':World):Prop:=
 ∃mo1 ba1 op1 oh1 ot1 fe1 fp1 fh1 ft1 st1 lo1 va1 vk1 l1 k f,e=.returned (.tuple #[.agg (rB mo1 ba1 (.slice va1 l1.length vk1) op1 oh1 ot1 st1 fe1 fp1 fh1 ft1 lo1),J k,J f,J (thE zs b d p)])∧thR zs b d p wr=(⟨mo1,ba1,l1,op1,oh1,ot1,st1,fe1,fp1,fh1,ft1,lo1⟩,k,f)∧Ls w' (.slice va1 l1.length vk1) l1∧Below w.heap.size w w'∧Fresh w.heap.size (.slice va1 l1.length vk1)
set_option maxHeartbeats 4000000 in
theorem pM (v:Value)(zs:List Int)(mo ba op oh ot fe fp fh ft:Int)(st lo:Bool)(vc:Value)(l:List Ln)(d p:Int)(wr:Bool)(w:World)(hs:Sl w v zs)(h:Ls w vc l):
  Calls Tryz.prog 57 #[.agg #[v],.agg (rB mo ba vc op oh ot st fe fp fh ft lo),J d,J p,.bool wr] w fun e w'=>ThOutF zs ⟨mo,ba,l,op,oh,ot,st,fe,fp,fh,ft,lo⟩ d p wr w e w':=by
 have HS:Hid (Ls w vc l):=h
 obtain⟨va,vk,rfl,-⟩:=h.shape
 have HM:Hid (Sl w v zs):=hs
 obtain⟨ma,mc,rfl⟩:=hs.shape
 clear h hs
 go_enter Tryz.func57,Tryz.ntmps57
 go_wp2_with fail
 refine (eT _ zs mo ba op oh ot fe fp fh ft st lo (.slice va l.length vk) l _ (HM.out.keep (aA (aA (aA (Below.refl _ _) _) _) _)) (HS.out.keep (aA (aA (aA (Below.refl _ _) _) _) _))).mono ?_
 rintro e w1 ⟨rfl,b1⟩
 have X0:=(((Box.newAt (n:=w.heap.size) rfl 24 #[.slice ma zs.length mc]).past _).past _).keep b1
 have X1:=((Box.newAt (n:=w.heap.size+1) (by simp) 31 (rB mo ba (.slice va l.length vk) op oh ot st fe fp fh ft lo)).past _).keep b1
 have X2:=(Box.newAt (n:=w.heap.size+1+1) (by simp) 31 zB).keep b1
 have B1:Hid (Below w.heap.size w w1):=aB (aA (aA (aA (Below.refl _ _) _) _) _) b1
 clear b1
 obtain⟨qm,-,s0⟩:=X0.one
 obtain⟨⟨q0,q1,q2,q3,q4,q5,q6,q7,q8,q9,q10,q11⟩,s1⟩:=X1.twelve
 obtain⟨⟨u0,u1,u2,u3,u4,u5,u6,u7,u8,u9,u10,u11⟩,s2⟩:=X2.twelve
 obtain⟨y0,y1,y2,y3,y4,y5,y6,y7,y8,y9,y10,y11⟩:=X2.marks
 by_cases hk:bothB zs ⟨mo,ba,l,op,oh,ot,st,fe,fp,fh,ft,lo⟩=0
 rotate_left
 ·have HE:Hid (thE zs ⟨mo,ba,l,op,oh,ot,st,fe,fp,fh,ft,lo⟩ d p=bothB zs ⟨mo,ba,l,op,oh,ot,st,fe,fp,fh,ft,lo⟩):=if_neg hk
  have HR:Hid (thR zs ⟨mo,ba,l,op,oh,ot,st,fe,fp,fh,ft,lo⟩ d p wr=(B0,0,0)):=if_neg (by rw[HE.out];exact hk)
  generalize bothB zs ⟨mo,ba,l,op,oh,ot,st,fe,fp,fh,ft,lo⟩=E at *
  have hq:(E !=0)=true:=by simpa using hk
  go_wp2
  refine bodyPost_ret (v:=.tuple #[.agg zB,J 0,J 0,J E]) (by simp[results,Tryz.results57,go_sem, *]) rfl ⟨_,_,_,_,_,_,_,_,_,_,_,_,_,[],_,_,by rw[HE.out];rfl,HR.out,Ls.nothing _,?_,Fresh.none _ _ _⟩
  (repeat (first|with_reducible exact B1.out|with_reducible refine aA ?_ _|(with_reducible refine aJ ?_ ?_ _ _ _ _ _ _ _ _ _ _ _ _;(focus omega))))
 rcases wK d p with ⟨hw,hw1,hw2⟩|⟨hw,hww⟩
 rotate_left
 ·have HE:Hid (thE zs ⟨mo,ba,l,op,oh,ot,st,fe,fp,fh,ft,lo⟩ d p=4):=by show _=_;rw[thE,if_pos hk,hw];rfl
  have HR:Hid (thR zs ⟨mo,ba,l,op,oh,ot,st,fe,fp,fh,ft,lo⟩ d p wr=(B0,0,0)):=if_neg (by rw[HE.out];decide)
  rw[hk]
  clear hw hk
  rcases hww with hw1|⟨hw1,hw2⟩
  all_goals
   go_wp2_with (first|(go_at_call 73;refine (fD _ _).mono ?_;rintro e w' ⟨rfl,rfl⟩)|(go_at_call 86;refine (mB _ _).mono ?_;rintro e w' ⟨rfl,rfl⟩))
   refine bodyPost_ret (v:=.tuple #[.agg zB,J 0,J 0,J 4]) (by simp[results,Tryz.results57,go_sem, *]) rfl ⟨_,_,_,_,_,_,_,_,_,_,_,_,_,[],_,_,by rw[HE.out];rfl,HR.out,Ls.nothing _,?_,Fresh.none _ _ _⟩
   (repeat (first|with_reducible exact B1.out|with_reducible refine aA ?_ _|(with_reducible refine aJ ?_ ?_ _ _ _ _ _ _ _ _ _ _ _ _;(focus omega))))
 have HE:Hid (thE zs ⟨mo,ba,l,op,oh,ot,st,fe,fp,fh,ft,lo⟩ d p=0):=by show _=_;rw[thE,if_pos hk,if_pos hw]
 have HR:Hid (thR zs ⟨mo,ba,l,op,oh,ot,st,fe,fp,fh,ft,lo⟩ d p wr=goT zs ⟨mo,ba,l,op,oh,ot,st,fe,fp,fh,ft,lo⟩ d p wr):=if_pos HE.out
 have hmo:0≤mo∧mo≤2:=(bK (bL hk).2).1
 have hl6:l.length≤6:=rH (bK (bL hk).2).2.2.2.1
 rw[hk]
 clear hk hw
 go_wp2_with (first|(go_at_call 73;refine (fD _ _).mono ?_;rintro e w' ⟨rfl,rfl⟩)|(go_at_call 86;refine (mB _ _).mono ?_;rintro e w' ⟨rfl,rfl⟩))
 refine (gK mo ba op oh ot fe fp fh ft st lo (.slice va l.length vk) l _ (HS.out.keep B1.out) hl6).mono ?_
 rintro e w2 ⟨g,hgn,rfl,hS2,b2⟩
 have GN:Hid (w.heap.size≤g):=Nat.le_trans B1.out.size hgn
 clear hgn
 clear q0 q1 q2 q3 q4 q5 q6 q7 q8 q9 q10 q11 u0 u1 u2 u3 u4 u5 u6 u7 u8 u9 u10 u11 y0 y1 y2 y3 y4 y5 y6 y7 y8 y9 y10 y11 s0 s1 s2 qm X1
 have X0:=X0.keep b2
 have X2:=X2.keep b2
 have B2:Hid (Below w.heap.size w w2):=aB B1.out b2
 have AP:Hid (Apart _ _ _):=hS2.apart X2
 have H2:Hid (Ls _ _ _):=hS2
 clear b2 B1 hS2
 obtain⟨qm,-,s0⟩:=X0.one
 obtain⟨⟨u0,u1,u2,u3,u4,u5,u6,u7,u8,u9,u10,u11⟩,s2⟩:=X2.twelve
 obtain⟨y0,y1,y2,y3,y4,y5,y6,y7,y8,y9,y10,y11⟩:=X2.marks
 have z1:w.heap.size<w2.heap.size:=by omega
 obtain hm|hm|hm:mo=0∨mo=1∨mo=2:=by omega
 ·subst hm
  have HG:Hid (goT zs ⟨0,ba,l,op,oh,ot,st,fe,fp,fh,ft,lo⟩ d p wr=(⟨0,ba,l,op,oh,ot,st,fe,fp,fh,ft,lo⟩,0,1)):=rfl
  go_wp2
  refine bodyPost_ret (v:=.tuple #[.agg (rB 0 ba (.slice (some ⟨g,0,none⟩) l.length l.length) op oh ot st fe fp fh ft lo),J 0,J 1,J 0]) (by simp[results,Tryz.results57,go_sem, *]) rfl ⟨_,_,_,_,_,_,_,_,_,_,_,_,_,l,_,_,by rw[HE.out],HR.out.trans HG.out,?_,?_,bJ GN.out _ _ _⟩
  ·(repeat (first|with_reducible exact H2.out|with_reducible refine Ls.alloc ?_ _|with_reducible refine Ls.put12 ?_ AP.out _ _ _ _ _ _ _ _ _ _ _ _))
  ·(repeat (first|with_reducible exact B2.out|with_reducible refine aA ?_ _|(with_reducible refine aJ ?_ ?_ _ _ _ _ _ _ _ _ _ _ _ _;(focus omega))))
 ·subst hm
  have HG:Hid (goT zs ⟨1,ba,l,op,oh,ot,st,fe,fp,fh,ft,lo⟩ d p wr=(⟨1,ba,l,op,oh,ot,st,fe,fp,fh,ft,lo⟩,p,0)):=rfl
  go_wp2
  refine bodyPost_ret (v:=.tuple #[.agg (rB 1 ba (.slice (some ⟨g,0,none⟩) l.length l.length) op oh ot st fe fp fh ft lo),J p,J 0,J 0]) (by simp[results,Tryz.results57,go_sem, *]) rfl ⟨_,_,_,_,_,_,_,_,_,_,_,_,_,l,_,_,by rw[HE.out],HR.out.trans HG.out,?_,?_,bJ GN.out _ _ _⟩
  ·(repeat (first|with_reducible exact H2.out|with_reducible refine Ls.alloc ?_ _|with_reducible refine Ls.put12 ?_ AP.out _ _ _ _ _ _ _ _ _ _ _ _))
  ·(repeat (first|with_reducible exact B2.out|with_reducible refine aA ?_ _|(with_reducible refine aJ ?_ ?_ _ _ _ _ _ _ _ _ _ _ _ _;(focus omega))))
 subst hm
 go_wp2_with fail
 refine (rI _ zs 2 ba op oh ot fe fp fh ft st lo (.slice (some ⟨g,0,none⟩) l.length l.length) l d p wr _ (HM.out.keep (aA B2.out _)) (H2.out.alloc _) HE.out rfl).mono ?_
 rintro e w3 ⟨vc1,l1,k,f,rfl,hG,hL,b3,hN3⟩
 obtain⟨va1,vk1,rfl,-⟩:=hL.shape
 have FN:Hid (Fresh w.heap.size (.slice va1 l1.length vk1)):=hN3 _ (aA B2.out _).size (bJ GN.out _ _ _)
 clear hN3
 have X2:=(X2.past _).keep b3
 have X3:=(Box.newAt (w:=w2) rfl 31 (rB 2 ba (.slice (some ⟨g,0,none⟩) l.length l.length) op oh ot st fe fp fh ft lo)).keep b3
 have B3:Hid (Below w.heap.size w w3):=aB (aA B2.out _) b3
 have AP2:Hid (Apart _ _ _):=hL.apart X2
 have AP3:Hid (Apart _ _ _):=hL.apart X3
 have H3:Hid (Ls _ _ _):=hL
 have HG:Hid (_=_):=hG
 clear b3 B2 hL hG u0 u1 u2 u3 u4 u5 u6 u7 u8 u9 u10 u11 y0 y1 y2 y3 y4 y5 y6 y7 y8 y9 y10 y11 qm X0
 have n2:¬w2.heap.size=w.heap.size+1+1:=by omega
 clear s2
 obtain⟨⟨u0,u1,u2,u3,u4,u5,u6,u7,u8,u9,u10,u11⟩,s2⟩:=X2.twelve
 obtain⟨y0,y1,y2,y3,y4,y5,y6,y7,y8,y9,y10,y11⟩:=X2.marks
 obtain⟨⟨t0,t1,t2,t3,t4,t5,t6,t7,t8,t9,t10,t11⟩,s3⟩:=X3.twelve
 obtain⟨x0,x1,x2,x3,x4,x5,x6,x7,x8,x9,x10,x11⟩:=X3.marks
 go_wp2
 refine bodyPost_ret (v:=.tuple #[.agg (rB 2 ba (.slice va1 l1.length vk1) op oh ot st fe fp fh ft lo),J k,J f,J 0]) (by simp[results,Tryz.results57,go_sem, *]) rfl ⟨_,_,_,_,_,_,_,_,_,_,_,_,_,l1,_,_,by rw[HE.out],HR.out.trans HG.out,?_,?_,FN.out⟩
 ·(repeat (first|with_reducible exact H3.out|with_reducible refine Ls.put12 ?_ AP2.out _ _ _ _ _ _ _ _ _ _ _ _|with_reducible refine Ls.put12 ?_ AP3.out _ _ _ _ _ _ _ _ _ _ _ _))
 ·(repeat (first|with_reducible exact B3.out|(with_reducible refine aJ ?_ ?_ _ _ _ _ _ _ _ _ _ _ _ _;(focus omega))))
theorem fF (z:Int)(w:World):Calls Tryz.prog 58 #[J z] w fun e w'=>e=.returned (.bool (betweenB 0 65535 z))∧w'=w:=by
 by_cases h1:0≤z
 ·by_cases h2:z≤65535
  ·rw[dR ⟨h1,h2⟩]
   go_enter Tryz.func58,Tryz.ntmps58
   go_wp2
   go_ret
   exact⟨rfl,rfl⟩
  ·rw[cH fun h=>h2 h.2]
   go_enter Tryz.func58,Tryz.ntmps58
   go_wp2
   go_ret
   exact⟨rfl,rfl⟩
 ·rw[cH fun h=>h1 h.1]
  go_enter Tryz.func58,Tryz.ntmps58
  go_wp2
  go_ret
  exact⟨rfl,rfl⟩
theorem dF (z:Int)(w:World):Calls Tryz.prog 89 #[J z] w fun e w'=>e=.returned (.bool (betweenB 0 7 z))∧w'=w:=by
 by_cases h1:0≤z
 ·by_cases h2:z<8
  ·rw[dR ⟨h1,by omega⟩]
   go_enter Tryz.func89,Tryz.ntmps89
   go_wp2
   go_ret
   exact⟨rfl,rfl⟩
  ·rw[cH fun h=>h2 (by omega)]
   go_enter Tryz.func89,Tryz.ntmps89
   go_wp2
   go_ret
   exact⟨rfl,rfl⟩
 ·rw[cH fun h=>h1 h.1]
  go_enter Tryz.func89,Tryz.ntmps89
  go_wp2
  go_ret
  exact⟨rfl,rfl⟩
theorem dU (z:Int)(w:World):Calls Tryz.prog 90 #[J z] w fun e w'=>e=.returned (.bool (betweenB 0 63 z))∧w'=w:=by
 by_cases h1:0≤z
 ·by_cases h2:z<64
  ·rw[dR ⟨h1,by omega⟩]
   go_enter Tryz.func90,Tryz.ntmps90
   go_wp2
   go_ret
   exact⟨rfl,rfl⟩
  ·rw[cH fun h=>h2 (by omega)]
   go_enter Tryz.func90,Tryz.ntmps90
   go_wp2
   go_ret
   exact⟨rfl,rfl⟩
 ·rw[cH fun h=>h1 h.1]
  go_enter Tryz.func90,Tryz.ntmps90
  go_wp2
  go_ret
  exact⟨rfl,rfl⟩
def forO (k d p:Int):Bool:=if k=3 then true else if k=2 then decide (p=0) else decide (d=0)&&decide (p=0)
theorem kM (k d p:Int)(w:World):
  Calls Tryz.prog 125 #[.agg #[J k,J d,J p]] w fun e w'=>e=.returned (.bool (forO k d p))∧∃o,w'=w.alloc o:=by
 by_cases h3:k=3
 ·subst h3
  go_enter Tryz.func125,Tryz.ntmps125
  go_wp2
  go_ret
  exact⟨rfl,_,rfl⟩
 have n3:(k==3)=false:=by simpa using h3
 by_cases h2:k=2
 ·subst h2
  by_cases hp:p=0
  ·subst hp
   go_enter Tryz.func125,Tryz.ntmps125
   go_wp2
   go_ret
   exact⟨rfl,_,rfl⟩
  ·have np:(p==0)=false:=by simpa using hp
   have HF:Hid (forO 2 d p=false):=by simp[forO,hp,Hid]
   clear hp
   go_enter Tryz.func125,Tryz.ntmps125
   go_wp2
   go_ret
   exact⟨aL HF.out.symm,_,rfl⟩
 have n2:(k==2)=false:=by simpa using h2
 by_cases hd:d=0
 ·subst hd
  by_cases hp:p=0
  ·subst hp
   have HF:Hid (forO k 0 0=true):=by simp[forO,h3,h2,Hid]
   clear h3 h2
   go_enter Tryz.func125,Tryz.ntmps125
   go_wp2
   go_ret
   exact⟨aL HF.out.symm,_,rfl⟩
  ·have np:(p==0)=false:=by simpa using hp
   have HF:Hid (forO k 0 p=false):=by simp[forO,h3,h2,hp,Hid]
   clear h3 h2 hp
   go_enter Tryz.func125,Tryz.ntmps125
   go_wp2
   go_ret
   exact⟨aL HF.out.symm,_,rfl⟩
 ·have nd:(d==0)=false:=by simpa using hd
  have HF:Hid (forO k d p=false):=by simp[forO,h3,h2,hd,Hid]
  clear h3 h2 hd
  go_enter Tryz.func125,Tryz.ntmps125
  go_wp2
  go_ret
  exact⟨aL HF.out.symm,_,rfl⟩
end Go.Proofs.YthlhocneggcekaaGreat
