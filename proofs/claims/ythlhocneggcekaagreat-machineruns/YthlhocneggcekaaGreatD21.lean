/-
  Laid together: GoesR, Ring5, ToldR, CloneI.
-/
import Derived.Test.YthlhocneggcekaaGreatD17
import Derived.Test.YthlhocneggcekaaGreatD19
import Derived.Test.YthlhocneggcekaaGreatD20
namespace Go.Proofs.YthlhocneggcekaaGreat
open Go.RowKit
theorem tU {v:Value}{l:List Ln}{d p a:Int}{r x:Bool}{w:World}(h:Ls w v l){e0:Int}{c:List Ln}(hE:flE l (d,p,a,r,x)=e0)(hC:flC l (d,p,a,r,x)=c):
  Calls Tryz.prog 117 #[v,.agg #[J d,J p,J a,.bool r,.bool x]] w fun e w'=>∃b cap,e=.returned (.tuple #[.slice b c.length cap,J e0])∧Ls w' (.slice b c.length cap) c∧Below w.heap.size w w'∧Fresh w.heap.size (.slice b c.length cap):=by
 subst hE hC
 refine (tS v l d p a r x w h).mono ?_
 rintro e w' ⟨⟨v',rfl,hs,hn⟩,hb⟩
 obtain⟨b,cap,rfl,hs'⟩:=hs.shape
 exact⟨b,cap,rfl,hs',hb,hn⟩
set_option maxHeartbeats 8000000 in
theorem rV (v:Value)(zs:List Int)(mo ba op oh ot fe fp fh ft:Int)(st lo:Bool)(vc:Value)(l:List Ln)(d p:Int)(wt:Bool)(w:World)(hs:Sl w v zs)(h:Ls w vc l)(hE:thE zs ⟨mo,ba,l,op,oh,ot,st,fe,fp,fh,ft,lo⟩ d p=0):
  Calls Tryz.prog 82 #[.agg #[v],.agg (rB mo ba vc op oh ot st fe fp fh ft lo),J d,J p,.bool wt] w fun e w'=>
   ∃vc1 l1 k f,e=.returned (.tuple #[.agg (rB mo ba vc1 op oh ot st fe fp fh ft lo),J k,J f])∧goT zs ⟨mo,ba,l,op,oh,ot,st,fe,fp,fh,ft,lo⟩ d p wt=(⟨mo,ba,l1,op,oh,ot,st,fe,fp,fh,ft,lo⟩,k,f)∧Ls w' vc1 l1∧Below w.heap.size w w'∧(vc1=vc∨Fresh w.heap.size vc1):=by
 obtain⟨hk,hb,hd,hp⟩:=oR hE
 obtain⟨hmo,hba,_,hc,_,_⟩:=bK hb
 dsimp only at hmo hba hc
 have HS:Hid (Ls w vc l):=h
 obtain⟨va,vk,rfl,-⟩:=h.shape
 have HM:Hid (Sl w v zs):=hs
 obtain⟨b,o,cap,rfl,hbb,hcs⟩:=hs.open512 (bF hk).1
 have HC:Hid (chkC l=0):=hc
 have HK:Hid (chk zs=0):=hk
 have HP:Hid (0≤p∧p≤63):=hp
 have HD:Hid (0≤d∧d≤7):=hd
 have HB:Hid (0≤ba∧ba≤63):=hba
 have HCS:Hid (∀i,i<512→w.cell? ⟨b,o+i,none⟩=some (J (nth zs i))):=hcs
 have hl6:l.length≤6:=rH hc
 clear h hs hcs hk hc hp hd hba hE hb
 by_cases hm0:mo=0
 ·subst hm0
  have HT:Hid (goT zs ⟨0,ba,l,op,oh,ot,st,fe,fp,fh,ft,lo⟩ d p wt=(⟨0,ba,l,op,oh,ot,st,fe,fp,fh,ft,lo⟩,0,1)):=rfl
  have B1:Hid (Below w.heap.size w w):=Below.refl _ _
  go_enter Tryz.func82,Tryz.ntmps82
  go_wp2
  refine bodyPost_ret (v:=.tuple #[.agg (rB 0 ba (.slice va l.length vk) op oh ot st fe fp fh ft lo),J 0,J 1]) (by simp[results,Tryz.results82,go_sem, *]) rfl ⟨_,_,_,_,rfl,HT.out,HS.out.keep ?_,?_,.inl rfl⟩
  all_goals (repeat (first|with_reducible exact B1.out|with_reducible refine Below.drew ?_|with_reducible refine aA ?_ _|(with_reducible refine aJ ?_ ?_ _ _ _ _ _ _ _ _ _ _ _ _;(focus omega))))
 by_cases hm1:mo=1
 ·subst hm1
  have HT:Hid (goT zs ⟨1,ba,l,op,oh,ot,st,fe,fp,fh,ft,lo⟩ d p wt=(⟨1,ba,l,op,oh,ot,st,fe,fp,fh,ft,lo⟩,p,0)):=rfl
  have B1:Hid (Below w.heap.size w w):=Below.refl _ _
  clear hm0
  go_enter Tryz.func82,Tryz.ntmps82
  go_wp2
  refine bodyPost_ret (v:=.tuple #[.agg (rB 1 ba (.slice va l.length vk) op oh ot st fe fp fh ft lo),J p,J 0]) (by simp[results,Tryz.results82,go_sem, *]) rfl ⟨_,_,_,_,rfl,HT.out,HS.out.keep ?_,?_,.inl rfl⟩
  all_goals (repeat (first|with_reducible exact B1.out|with_reducible refine Below.drew ?_|with_reducible refine aA ?_ _|(with_reducible refine aJ ?_ ?_ _ _ _ _ _ _ _ _ _ _ _ _;(focus omega))))
 have hm2:mo=2:=by omega
 subst hm2
 have HG:Hid (∀X,goT zs ⟨2,ba,l,op,oh,ot,st,fe,fp,fh,ft,lo⟩ d p wt=X↔(if 0≤fndC l d p then (if (wt&&!(lineC l d p).2.2.2.2)=true then (⟨2,ba,l,op,oh,ot,st,fe,fp,fh,ft,lo⟩,0,5) else (⟨2,ba,l,op,oh,ot,st,fe,fp,fh,ft,lo⟩,(lineC l d p).2.2.1,0)) else byT zs ⟨2,ba,l,op,oh,ot,st,fe,fp,fh,ft,lo⟩ d p wt)=X):=fun X=>Iff.rfl
 clear hm0 hm1 hmo
 go_enter Tryz.func82,Tryz.ntmps82
 go_wp2
 go_loopw [14,32] (fun _ i wx=>∃k:Nat,k≤l.length∧i=J k∧(∀j,j<k→hasB d p (lth l j)=false)∧Box wx w.heap.size 24 #[.slice (some ⟨b,o,none⟩) 512 cap]∧Box wx (w.heap.size+1) 31 (rB 2 ba (.slice va l.length vk) op oh ot st fe fp fh ft lo)∧Box wx (w.heap.size+1+1) 31 zB∧Below w.heap.size w wx) (fun _ i _=>l.length-(intOf i).toNat)
 case atStart=>
  refine⟨0,Nat.zero_le _,rfl,fun j hj=>absurd hj (Nat.not_lt_zero _),?_,?_,?_,aA (aA (aA (Below.refl _ _) _) _) _⟩
  ·exact ((Box.newAt (n:=w.heap.size) rfl 24 #[.slice (some ⟨b,o,none⟩) 512 cap]).past _).past _
  ·exact (Box.newAt (n:=w.heap.size+1) (by simp) 31 (rB 2 ba (.slice va l.length vk) op oh ot st fe fp fh ft lo)).past _
  ·exact Box.newAt (n:=w.heap.size+1+1) (by simp) 31 zB
 case round=>
  obtain⟨k,hk,rfl,hpre,X0,X1,X2,hB⟩:=hrel
  have HPR:Hid _:=hpre
  have B1:Hid (Below w.heap.size w wr):=hB
  clear hpre
  obtain⟨⟨q0,q1,q2,q3,q4,q5,q6,q7,q8,q9,q10,q11⟩,s1⟩:=X1.twelve
  obtain⟨⟨u0,u1,u2,u3,u4,u5,u6,u7,u8,u9,u10,u11⟩,s2⟩:=X2.twelve
  obtain⟨y0,y1,y2,y3,y4,y5,y6,y7,y8,y9,y10,y11⟩:=X2.marks
  by_cases hlt:k<l.length
  ·obtain⟨lb,lo',lk,he,hlb,hat⟩:=(HS.out.keep hB).at hlt
   simp only[Value.slice.injEq,true_and] at he
   obtain⟨rfl,rfl⟩:=he
   obtain⟨g0,g1,g2,g3,g4⟩:=hat
   obtain⟨y,hy⟩:∃y,y=lth l k:=⟨_,rfl⟩
   have HY:Hid _:=hy
   rw[←hy] at g0 g1 g2 g3 g4
   clear hy hB
   obtain⟨d1,p1,a1,r1,x1⟩:=y
   simp only at g0 g1 g2 g3 g4
   have hlt1:(k:Int)<l.length:=by omega
   by_cases e1:d1=d
   ·by_cases e2:p1=p
    ·subst e1 e2
     have hF:fndC l d1 p1=k:=kU hlt (by rw[←HY.out];simp[hasB]) HPR.out
     have hL:lineC l d1 p1=(d1,p1,a1,r1,x1):=by rw[lineC,hF,Int.toNat_natCast];exact HY.out.symm
     have HT0:Hid (∀X,goT zs ⟨2,ba,l,op,oh,ot,st,fe,fp,fh,ft,lo⟩ d1 p1 wt=X↔(if (wt&&!x1)=true then (⟨2,ba,l,op,oh,ot,st,fe,fp,fh,ft,lo⟩,0,5) else (⟨2,ba,l,op,oh,ot,st,fe,fp,fh,ft,lo⟩,a1,0))=X):=fun X=>by
      rw[HG.out,if_pos (by rw[hF];omega),hL]
     clear hF hL
     cases wt
     ·have HT:Hid (goT zs ⟨2,ba,l,op,oh,ot,st,fe,fp,fh,ft,lo⟩ d1 p1 false=(⟨2,ba,l,op,oh,ot,st,fe,fp,fh,ft,lo⟩,a1,0)):=(HT0.out _).2 rfl
      go_wp2
      go_region
      go_wp2
      refine bodyPost_ret (v:=.tuple #[.agg (rB 2 ba (.slice (some ⟨lb,lo',none⟩) l.length vk) op oh ot st fe fp fh ft lo),J a1,J 0]) (by simp[results,Tryz.results82,go_sem, *]) rfl ⟨_,_,_,_,rfl,HT.out,HS.out.keep ?_,?_,.inl rfl⟩
      all_goals (repeat (first|with_reducible exact B1.out|with_reducible refine Below.drew ?_|with_reducible refine aA ?_ _|(with_reducible refine aJ ?_ ?_ _ _ _ _ _ _ _ _ _ _ _ _;(focus omega))))
     ·cases x1
      ·have HT:Hid (goT zs ⟨2,ba,l,op,oh,ot,st,fe,fp,fh,ft,lo⟩ d1 p1 true=(⟨2,ba,l,op,oh,ot,st,fe,fp,fh,ft,lo⟩,0,5)):=(HT0.out _).2 rfl
       go_wp2
       refine bodyPost_ret (v:=.tuple #[.agg (rB 2 ba (.slice (some ⟨lb,lo',none⟩) l.length vk) op oh ot st fe fp fh ft lo),J 0,J 5]) (by simp[results,Tryz.results82,go_sem, *]) rfl ⟨_,_,_,_,rfl,HT.out,HS.out.keep ?_,?_,.inl rfl⟩
       all_goals (repeat (first|with_reducible exact B1.out|with_reducible refine Below.drew ?_|with_reducible refine aA ?_ _|(with_reducible refine aJ ?_ ?_ _ _ _ _ _ _ _ _ _ _ _ _;(focus omega))))
      ·have HT:Hid (goT zs ⟨2,ba,l,op,oh,ot,st,fe,fp,fh,ft,lo⟩ d1 p1 true=(⟨2,ba,l,op,oh,ot,st,fe,fp,fh,ft,lo⟩,a1,0)):=(HT0.out _).2 rfl
       go_wp2
       go_region
       go_wp2
       refine bodyPost_ret (v:=.tuple #[.agg (rB 2 ba (.slice (some ⟨lb,lo',none⟩) l.length vk) op oh ot st fe fp fh ft lo),J a1,J 0]) (by simp[results,Tryz.results82,go_sem, *]) rfl ⟨_,_,_,_,rfl,HT.out,HS.out.keep ?_,?_,.inl rfl⟩
       all_goals (repeat (first|with_reducible exact B1.out|with_reducible refine Below.drew ?_|with_reducible refine aA ?_ _|(with_reducible refine aJ ?_ ?_ _ _ _ _ _ _ _ _ _ _ _ _;(focus omega))))
    ·have q1':(d1==d)=true:=by simpa using e1
     have q2':(p1==p)=false:=by simpa using e2
     have HN:Hid (hasB d p (lth l k)=false):=by show _=_;rw[←HY.out];simp[hasB,e2]
     clear e1 e2
     go_wp2
     exact⟨⟨k+1,by omega,by go_num,dI HPR.out HN.out,X0.past _,X1.past _,X2.past _,aA B1.out _⟩,by simp[intOf];omega⟩
   ·have q1':(d1==d)=false:=by simpa using e1
    have HN:Hid (hasB d p (lth l k)=false):=by show _=_;rw[←HY.out];simp[hasB,e1]
    clear e1
    go_wp2
    exact⟨⟨k+1,by omega,by go_num,dI HPR.out HN.out,X0.past _,X1.past _,X2.past _,aA B1.out _⟩,by simp[intOf];omega⟩
  have hF:fndC l d p=-1:=fL fun j hj=>HPR.out j (by omega)
  have HFN:Hid (¬0≤fndC l d p):=by show ¬_;rw[hF];decide
  have HT1:Hid (∀X,goT zs ⟨2,ba,l,op,oh,ot,st,fe,fp,fh,ft,lo⟩ d p wt=X↔byT zs ⟨2,ba,l,op,oh,ot,st,fe,fp,fh,ft,lo⟩ d p wt=X):=fun X=>by rw[HG.out,if_neg HFN.out]
  clear hF
  obtain⟨qm,-,s0⟩:=X0.one
  obtain⟨ba0,ba1⟩:=HB.out
  obtain⟨d0,d1⟩:=HD.out
  have gk:=HCS.out (8*ba+d).toNat (by omega)
  rw[←hB.cell (p:=⟨b,o+(8*ba+d).toNat,none⟩) hbb] at gk
  obtain⟨z,hz⟩:∃z,nth zs (8*ba+d).toNat=z:=⟨_,rfl⟩
  rw[hz] at gk
  have HZ:Hid (ctxW zs ⟨2,ba,l,op,oh,ot,st,fe,fp,fh,ft,lo⟩ d=z):=hz
  have k0:0≤8*ba+d:=by omega
  have k1:8*ba+d<512:=by omega
  have hb1:b<wr.heap.size:=Nat.lt_of_lt_of_le hbb hB.size
  clear hz hB
  go_wp2_with fail
  refine (nE z _).mono ?_
  rintro e w2 ⟨rfl,b2⟩
  clear q0 q1 q2 q3 q4 q5 q6 q7 q8 q9 q10 q11 u0 u1 u2 u3 u4 u5 u6 u7 u8 u9 u10 u11 y0 y1 y2 y3 y4 y5 y6 y7 y8 y9 y10 y11 s1 s2
  clear qm s0 gk hb1 k0 k1
  have X0:=X0.keep b2
  have X1:=X1.keep b2
  have X2:=X2.keep b2
  have B2:Hid (Below w.heap.size w w2):=aB B1.out b2
  clear b2 B1
  obtain⟨qm,-,s0⟩:=X0.one
  obtain⟨⟨q0,q1,q2,q3,q4,q5,q6,q7,q8,q9,q10,q11⟩,s1⟩:=X1.twelve
  obtain⟨⟨u0,u1,u2,u3,u4,u5,u6,u7,u8,u9,u10,u11⟩,s2⟩:=X2.twelve
  obtain⟨y0,y1,y2,y3,y4,y5,y6,y7,y8,y9,y10,y11⟩:=X2.marks
  cases hv:vC z
  ·have HT:Hid (goT zs ⟨2,ba,l,op,oh,ot,st,fe,fp,fh,ft,lo⟩ d p wt=(⟨2,ba,l,op,oh,ot,st,fe,fp,fh,ft,lo⟩,0,2)):=by show _=_;rw[HT1.out,byT,HZ.out,hv];rfl
   cases ho:okC z
   all_goals
    go_wp2
    refine bodyPost_ret (v:=.tuple #[.agg (rB 2 ba (.slice va l.length vk) op oh ot st fe fp fh ft lo),J 0,J 2]) (by simp[results,Tryz.results82,go_sem, *]) rfl ⟨_,_,_,_,rfl,HT.out,HS.out.keep ?_,?_,.inl rfl⟩
    all_goals (repeat (first|with_reducible exact B2.out|with_reducible refine Below.drew ?_|with_reducible refine aA ?_ _|(with_reducible refine aJ ?_ ?_ _ _ _ _ _ _ _ _ _ _ _ _;(focus omega))))
  have ho:okC z=true:=by
   cases ho:okC z
   ·simp[vC,ho] at hv
   ·rfl
  cases ha:aC z
  rotate_left
  ·have HT:Hid (goT zs ⟨2,ba,l,op,oh,ot,st,fe,fp,fh,ft,lo⟩ d p wt=(⟨2,ba,l,op,oh,ot,st,fe,fp,fh,ft,lo⟩,p,0)):=by show _=_;rw[HT1.out,byT,HZ.out,if_pos hv,if_pos ha]
   go_wp2
   refine bodyPost_ret (v:=.tuple #[.agg (rB 2 ba (.slice va l.length vk) op oh ot st fe fp fh ft lo),J p,J 0]) (by simp[results,Tryz.results82,go_sem, *]) rfl ⟨_,_,_,_,rfl,HT.out,HS.out.keep ?_,?_,.inl rfl⟩
   all_goals (repeat (first|with_reducible exact B2.out|with_reducible refine Below.drew ?_|with_reducible refine aA ?_ _|(with_reducible refine aJ ?_ ?_ _ _ _ _ _ _ _ _ _ _ _ _;(focus omega))))
  have HA:Hid (¬aC z=true):=by show ¬_;rw[ha];decide
  have HV:Hid (vC z=true):=hv
  rcases oS (wr:=wt) HK.out (oT z) (oU HP.out) with ⟨f,hff,hwk⟩|⟨x,a,haa,hx,hwk⟩
  ·have HT:Hid (goT zs ⟨2,ba,l,op,oh,ot,st,fe,fp,fh,ft,lo⟩ d p wt=(⟨2,ba,l,op,oh,ot,st,fe,fp,fh,ft,lo⟩,0,f)):=by
    show _=_;rw[HT1.out,byT,HZ.out,if_pos HV.out,if_neg HA.out,hwk];exact if_neg (show ¬f=0 by omega)
   have hfq:(f==0)=false:=by simp;omega
   have HW:Hid (_=_):=hwk
   clear hwk hff
   go_wp2_with fail
   refine (mG HW.out (HM.out.keep (aA B2.out _)) HK.out).mono ?_
   rintro e w3 ⟨rfl,b3⟩
   clear q0 q1 q2 q3 q4 q5 q6 q7 q8 q9 q10 q11 u0 u1 u2 u3 u4 u5 u6 u7 u8 u9 u10 u11 y0 y1 y2 y3 y4 y5 y6 y7 y8 y9 y10 y11 s1 s2
   clear qm s0
   have X1:=(X1.past _).keep b3
   have X2:=(X2.past _).keep b3
   have B3:Hid (Below w.heap.size w w3):=aB (aA B2.out _) b3
   clear b3 B2
   obtain⟨⟨q0,q1,q2,q3,q4,q5,q6,q7,q8,q9,q10,q11⟩,s1⟩:=X1.twelve
   obtain⟨⟨u0,u1,u2,u3,u4,u5,u6,u7,u8,u9,u10,u11⟩,s2⟩:=X2.twelve
   obtain⟨y0,y1,y2,y3,y4,y5,y6,y7,y8,y9,y10,y11⟩:=X2.marks
   go_wp2
   go_region
   go_wp2
   refine bodyPost_ret (v:=.tuple #[.agg (rB 2 ba (.slice va l.length vk) op oh ot st fe fp fh ft lo),J 0,J f]) (by simp[results,Tryz.results82,go_sem, *]) rfl ⟨_,_,_,_,rfl,HT.out,HS.out.keep ?_,?_,.inl rfl⟩
   all_goals (repeat (first|with_reducible exact B3.out|with_reducible refine Below.drew ?_|with_reducible refine aA ?_ _|(with_reducible refine aJ ?_ ?_ _ _ _ _ _ _ _ _ _ _ _ _;(focus omega))))
  obtain⟨c,hfc⟩:∃c,flC l (d,p,a,true,x)=c:=⟨_,rfl⟩
  have HT:Hid (goT zs ⟨2,ba,l,op,oh,ot,st,fe,fp,fh,ft,lo⟩ d p wt=(⟨2,ba,c,op,oh,ot,st,fe,fp,fh,ft,lo⟩,a,0)):=by
   show _=_;rw[HT1.out,byT,HZ.out,if_pos HV.out,if_neg HA.out,hwk];simp only[if_true,hfc];rfl
  have HF:Hid (flE l (d,p,a,true,x)=0):=zC HC.out HD.out HP.out haa (by have:=HFN.out;omega)
  have HFC:Hid (flC l (d,p,a,true,x)=c):=hfc
  have HW:Hid (_=_):=hwk
  clear hwk hx haa hfc
  go_wp2_with fail
  refine (mG HW.out (HM.out.keep (aA B2.out _)) HK.out).mono ?_
  rintro e w3 ⟨rfl,b3⟩
  clear q0 q1 q2 q3 q4 q5 q6 q7 q8 q9 q10 q11 u0 u1 u2 u3 u4 u5 u6 u7 u8 u9 u10 u11 y0 y1 y2 y3 y4 y5 y6 y7 y8 y9 y10 y11 s1 s2
  clear qm s0
  have X1:=(X1.past _).keep b3
  have X2:=(X2.past _).keep b3
  have B3:Hid (Below w.heap.size w w3):=aB (aA B2.out _) b3
  clear b3 B2
  obtain⟨⟨q0,q1,q2,q3,q4,q5,q6,q7,q8,q9,q10,q11⟩,s1⟩:=X1.twelve
  obtain⟨⟨u0,u1,u2,u3,u4,u5,u6,u7,u8,u9,u10,u11⟩,s2⟩:=X2.twelve
  obtain⟨y0,y1,y2,y3,y4,y5,y6,y7,y8,y9,y10,y11⟩:=X2.marks
  go_wp2_with fail
  refine (tU (HS.out.keep (aA B3.out _)) HF.out HFC.out).mono ?_
  rintro e w4 ⟨b',cap',rfl,hS4,b4,hN4⟩
  have HN4:Hid (Fresh w.heap.size (.slice b' c.length cap')):=hN4.mono (aA B3.out _).size
  clear hN4
  have n2:¬w3.heap.size=w.heap.size+1+1:=by omega
  have n1:¬w3.heap.size=w.heap.size+1:=by omega
  clear q0 q1 q2 q3 q4 q5 q6 q7 q8 q9 q10 q11 u0 u1 u2 u3 u4 u5 u6 u7 u8 u9 u10 u11 y0 y1 y2 y3 y4 y5 y6 y7 y8 y9 y10 y11 s1 s2
  have X1:=(X1.past _).keep b4
  have X2:=(X2.past _).keep b4
  have X3:=(Box.newAt (w:=w3) rfl 171 #[.bool true,.bool true,.bool x,.bool true,J a]).keep b4
  have B4:Hid (Below w.heap.size w w4):=aB (aA B3.out _) b4
  clear b4 B3
  have AP1:Hid (Apart _ _ _):=hS4.apart X1
  have AP2:Hid (Apart _ _ _):=hS4.apart X2
  have H4:Hid (Ls _ _ _):=hS4
  clear hS4
  obtain⟨⟨q0,q1,q2,q3,q4,q5,q6,q7,q8,q9,q10,q11⟩,s1⟩:=X1.twelve
  obtain⟨⟨u0,u1,u2,u3,u4,u5,u6,u7,u8,u9,u10,u11⟩,s2⟩:=X2.twelve
  obtain⟨y0,y1,y2,y3,y4,y5,y6,y7,y8,y9,y10,y11⟩:=X2.marks
  obtain⟨-,-,z2,-⟩:=X1.marks
  have e4:w4.cell? ⟨w3.heap.size,4,none⟩=some (J a):=X3.cell 4
  have s3:=X3.lt
  go_wp2
  go_region
  go_wp2
  refine bodyPost_ret (v:=.tuple #[.agg (rB 2 ba (.slice b' c.length cap') op oh ot st fe fp fh ft lo),J a,J 0]) (by simp[results,Tryz.results82,go_sem, *]) rfl ⟨_,_,_,_,rfl,HT.out,?_,?_,.inr HN4.out⟩
  ·(repeat (first|with_reducible exact H4.out|with_reducible refine Ls.drew ?_|with_reducible refine Ls.put12 ?_ AP2.out _ _ _ _ _ _ _ _ _ _ _ _|with_reducible refine Ls.putAt ?_ AP1.out _ _))
  ·(repeat (first|with_reducible exact B4.out|with_reducible refine Below.drew ?_|(with_reducible refine aJ ?_ ?_ _ _ _ _ _ _ _ _ _ _ _ _;(focus omega))|(with_reducible refine aI ?_ ?_ _;(focus (dsimp only;omega)))))
theorem bU {N:Nat}{a w:World}(hN:N≤a.heap.size)(h:Below N a w)(o:Obj):Below N a (w.alloc o):=h.alloc (Nat.le_trans hN h.size) o
theorem cS {N:Nat}{a w:World}{p:Addr}(hp:N≤p.block)(h:Below N a w)(u:Value):Below N a (w.setCell p u):=h.setCell hp u
theorem bV {N:Nat}{a b c:World}(k:Below b.heap.size b c)(hN:N≤a.heap.size)(h:Below N a b):Below N a c:=h.trans (k.mono (Nat.le_trans hN h.size))
theorem keepN {W w':World}{m n N:Nat}{v u0 u1 u2:Value}(hv:W.cell? ⟨m,0,none⟩=some v)(h0:W.cell? ⟨n,0,none⟩=some u0)(h1:W.cell? ⟨n,1,none⟩=some u1)(h2:W.cell? ⟨n,2,none⟩=some u2)(hm:m<N)(hn:n<N)(hb:Below N W w'):
  w'.cell? ⟨m,0,none⟩=some v∧w'.cell? ⟨n,0,none⟩=some u0∧w'.cell? ⟨n,1,none⟩=some u1∧w'.cell? ⟨n,2,none⟩=some u2∧Below N W w':=
 ⟨(hb.cell (p:=⟨m,0,none⟩) hm).trans hv,(hb.cell (p:=⟨n,0,none⟩) hn).trans h0,(hb.cell (p:=⟨n,1,none⟩) hn).trans h1,(hb.cell (p:=⟨n,2,none⟩) hn).trans h2,hb⟩
theorem wrapR (n:Int)(h0:0≤n)(h1:n<2 ^ 63):IntKind.i64.wrap n=n:=by rw[IntKind.wrap_i64];omega
theorem tV {p t:Int}(p0:0≤p)(p1:p<64)(t0:0≤t)(t1:t<8):IntKind.i64.wrap (IntKind.i64.wrap (p*8)+t)=p*8+t:=by
 rw[wrapR (p*8) (by omega) (by omega),wrapR _ (by omega) (by omega)]
theorem wT {t:Int}(t0:0≤t)(t1:t<8):(IntKind.i64.wrap (t+1)).tmod 8=(t+1)%8:=by
 rw[wrapR _ (by omega) (by omega),Int.tmod_eq_emod_of_nonneg (by omega)]
set_option maxHeartbeats 1000000 in
theorem tW (v:Value)(zs:List Int)(p h t x:Int)(w:World)(hs:Sl w v zs):
  Calls Tryz.prog 120 #[.agg #[v],.agg #[J p,J h,J t],J x] w fun e w'=>
   (∃v' p' h' t',e=.returned (.tuple #[.agg #[v'],.agg #[J p',J h',J t'],J (psE zs p h t x)])∧Sl w' v' (psM zs p h t x)∧Fresh w.heap.size v'∧psR zs p h t x=(p',h',t'))∧Below w.heap.size w w':=by
 obtain⟨a0,c0,rfl⟩:=hs.shape
 go_enter Tryz.func120,Tryz.ntmps120
 go_wp2_with fail
 refine (iQ _ zs _ (hs.keep (aA (aA (aA (aA (Below.refl _ _) _) _) _) _))).mono ?_
 rintro e w1 ⟨rfl,b1⟩
 have X0:=(((Box.newAt (n:=w.heap.size) (by simp) 24 #[.slice a0 zs.length c0]).past (.cells #[J p,J h,J t] 29)).past (.cells #[.slice none 0 0] 24)).past (.cells #[J 0,J 0,J 0] 29) |>.keep b1
 have X1:=((Box.newAt (w:=w.alloc (.cells #[.slice a0 zs.length c0] 24)) (n:=w.heap.size+1) (by simp) 29 #[J p,J h,J t]).past _).past _ |>.keep b1
 have X2:=(Box.newAt (n:=w.heap.size+1+1) (by simp) 24 #[.slice none 0 0]).past _ |>.keep b1
 have X3:=(Box.newAt (n:=w.heap.size+1+1+1) (by simp) 29 #[J 0,J 0,J 0]) |>.keep b1
 have B1:Hid (Below w.heap.size w w1):=aB (aA (aA (aA (aA (Below.refl _ _) _) _) _) _) b1
 clear b1
 obtain⟨q0,-,s0⟩:=X0.one
 obtain⟨q1,q2,q3,z1,z2,z3,s1⟩:=X1.three
 obtain⟨y0,y1,s2⟩:=X2.one
 obtain⟨u0,u1,u2,g0,g1,g2,s3⟩:=X3.three
 by_cases hz:chk zs=0
 rotate_left
 ·have hq:(chk zs !=0)=true:=by simpa using hz
  have hq2:(chk zs==0)=false:=by simpa using hz
  have hk:¬bothR zs p h t=0:=fun k=>hz (iU k).1
  have hkk:bothR zs p h t=chk zs:=if_neg hz
  have HE:Hid (psE zs p h t x=chk zs):=by show _=_;rw[psE,if_neg hk,hkk]
  have HF:Hid (psM zs p h t x=[]):=if_neg (by rw[HE.out];exact hz)
  have HG:Hid (psR zs p h t x=(0,0,0)):=if_neg (by rw[HE.out];exact hz)
  clear hk hkk
  go_wp2
  refine bodyPost_ret (v:=.tuple #[.agg #[.slice none 0 0],.agg #[J 0,J 0,J 0],J (chk zs)]) (by simp[results,Tryz.results120,go_sem, *]) rfl ⟨⟨_,_,_,_,by rw[HE.out],by rw[HF.out];exact Sl.nil _ _ _,Fresh.none _ _ _,HG.out⟩,?_⟩
  exact bO (by omega) (cW (by omega) B1.out _) _ _ _
 rw[hz]
 go_wp2_with fail
 refine (fG p h t _).mono ?_
 rintro e w2 ⟨rfl,rfl⟩
 by_cases hr:chkR p h t=0
 rotate_left
 ·have hq:(chkR p h t !=0)=true:=by simpa using hr
  have hk:¬bothR zs p h t=0:=fun k=>hr (iU k).2
  have hkk:bothR zs p h t=chkR p h t:=if_pos hz
  have HE:Hid (psE zs p h t x=chkR p h t):=by show _=_;rw[psE,if_neg hk,hkk]
  have HF:Hid (psM zs p h t x=[]):=if_neg (by rw[HE.out];exact hr)
  have HG:Hid (psR zs p h t x=(0,0,0)):=if_neg (by rw[HE.out];exact hr)
  clear hk hkk
  go_wp2
  refine bodyPost_ret (v:=.tuple #[.agg #[.slice none 0 0],.agg #[J 0,J 0,J 0],J (chkR p h t)]) (by simp[results,Tryz.results120,go_sem, *]) rfl ⟨⟨_,_,_,_,by rw[HE.out],by rw[HF.out];exact Sl.nil _ _ _,Fresh.none _ _ _,HG.out⟩,?_⟩
  (repeat (first|with_reducible exact B1.out|with_reducible refine aA ?_ _|(with_reducible refine aI ?_ ?_ _;(focus (dsimp only;omega)))))
 have hk:bothR zs p h t=0:=fM hz hr
 obtain⟨rp,rh,rt⟩:=dC hr
 have Rp:=dL rp
 have Rh:=bS rh
 have Rt:=bS rt
 rw[hr]
 go_wp2_with fail
 refine (aD _ _ _ _).mono ?_
 rintro e w3 ⟨rfl,rfl⟩
 rw[bI]
 cases hx:wordB x
 ·have HE:Hid (psE zs p h t x=2):=by show _=_;simp[psE,hk,hx]
  have HF:Hid (psM zs p h t x=[]):=if_neg (by rw[HE.out];decide)
  have HG:Hid (psR zs p h t x=(0,0,0)):=if_neg (by rw[HE.out];decide)
  go_wp2
  refine bodyPost_ret (v:=.tuple #[.agg #[.slice none 0 0],.agg #[J 0,J 0,J 0],J 2]) (by simp[results,Tryz.results120,go_sem, *]) rfl ⟨⟨_,_,_,_,by rw[HE.out],by rw[HF.out];exact Sl.nil _ _ _,Fresh.none _ _ _,HG.out⟩,?_⟩
  (repeat (first|with_reducible exact B1.out|with_reducible refine aA ?_ _|(with_reducible refine aI ?_ ?_ _;(focus (dsimp only;omega)))))
 go_wp2_with fail
 refine (jB p h t _ Rh Rt).mono ?_
 rintro e w4 ⟨rfl,rfl⟩
 by_cases hl:lenR h t=7
 ·have HE:Hid (psE zs p h t x=1):=by show _=_;simp[psE,hk,hx,hl]
  have HF:Hid (psM zs p h t x=[]):=if_neg (by rw[HE.out];decide)
  have HG:Hid (psR zs p h t x=(0,0,0)):=if_neg (by rw[HE.out];decide)
  rw[hl]
  go_wp2
  refine bodyPost_ret (v:=.tuple #[.agg #[.slice none 0 0],.agg #[J 0,J 0,J 0],J 1]) (by simp[results,Tryz.results120,go_sem, *]) rfl ⟨⟨_,_,_,_,by rw[HE.out],by rw[HF.out];exact Sl.nil _ _ _,Fresh.none _ _ _,HG.out⟩,?_⟩
  (repeat (first|with_reducible exact B1.out|with_reducible refine aA ?_ _|(with_reducible refine aI ?_ ?_ _;(focus (dsimp only;omega)))))
 have HE:Hid (psE zs p h t x=0):=by show _=_;simp[psE,hk,hx,hl]
 have HF:Hid (psM zs p h t x=zs.set (p*8+t).toNat x):=if_pos HE.out
 have HG:Hid (psR zs p h t x=(p,h,(t+1)%8)):=if_pos HE.out
 have hq:(lenR h t==7)=false:=by simpa using hl
 have HL5:Hid (zs.length=512):=(bF hz).1
 have X0:=(X0.past (ringB p h t)).past (ringB p h t)
 have X1:=(X1.past (ringB p h t)).past (ringB p h t)
 have X2:=(X2.past (ringB p h t)).past (ringB p h t)
 have X3:=(X3.past (ringB p h t)).past (ringB p h t)
 have B4:Hid (Below w.heap.size w ((w1.alloc (ringB p h t)).alloc (ringB p h t))):=aA (aA B1.out _) _
 have HS4:Hid (Sl w (.slice a0 zs.length c0) zs):=hs
 obtain⟨p0,p1⟩:=Rp
 obtain⟨h0,h1⟩:=Rh
 obtain⟨t0,t1⟩:=Rt
 have k0:0≤p*8+t:=by omega
 have k1:p*8+t<512:=by omega
 clear q0 q1 q2 q3 z1 z2 z3 u0 u1 u2 g0 g1 g2 s0 s1 s2 s3 y0 y1 B1 hs
 obtain⟨q0,-,s0⟩:=X0.one
 obtain⟨q1,q2,q3,z1,z2,z3,s1⟩:=X1.three
 obtain⟨y0,y1,s2⟩:=X2.one
 obtain⟨u0,u1,u2,g0,g1,g2,s3⟩:=X3.three
 go_upto_region 11 with fail
 generalize (w1.alloc (ringB p h t)).alloc (ringB p h t)=W at *
 have qw:Hid (IntKind.i64.wrap (IntKind.i64.wrap (p*8)+t)=p*8+t):=tV p0 p1 t0 t1
 have qn:Hid ((IntKind.i64.wrap (t+1)).tmod 8=(t+1)%8):=wT t0 t1
 have nW:w.heap.size+1+1≤W.heap.size:=by omega
 have nV:w.heap.size≤w.heap.size+1+1:=by omega
 have n0:w.heap.size<w.heap.size+1+1:=by omega
 have n1:w.heap.size+1<w.heap.size+1+1:=by omega
 go_region_held3 (fun w'=>w'.cell? ⟨w.heap.size,0,none⟩=some (.slice a0 zs.length c0)∧w'.cell? ⟨w.heap.size+1,0,none⟩=some (J p)∧w'.cell? ⟨w.heap.size+1,1,none⟩=some (J h)∧w'.cell? ⟨w.heap.size+1,2,none⟩=some (J t)∧Below (w.heap.size+1+1) W w')
  (with_reducible refine keepN q0 q1 q2 q3 n0 n1 ?_;(repeat (first|with_reducible assumption|(with_reducible (refine limb4 (?_:_∧_∧_∧_∧_);assumption))|with_reducible exact Below.refl _ _|with_reducible refine Below.drew ?_|with_reducible refine below_drewN ?_ _|(with_reducible refine bU nW ?_ _)|(with_reducible refine cS ?_ ?_ _;(focus (first|with_reducible exact Nat.le_refl _|with_reducible exact Nat.le_succ _)))|(with_reducible refine bV (by assumption) nW ?_))))
  (first
   | (go_at_call 79;rw[qw.out];refine (uQ _ zs (p*8+t) x _ ?_ HL5.out k0 k1).mono ?_;(focus (refine HS4.out.keep (B4.out.trans (Below.mono ?_ nV));(repeat (first|with_reducible assumption|(with_reducible (refine limb4 (?_:_∧_∧_∧_∧_);assumption))|with_reducible exact Below.refl _ _|with_reducible refine Below.drew ?_|with_reducible refine below_drewN ?_ _|(with_reducible refine bU nW ?_ _)|(with_reducible refine cS ?_ ?_ _;(focus (first|with_reducible exact Nat.le_refl _|with_reducible exact Nat.le_succ _)))|(with_reducible refine bV (by assumption) nW ?_)))));rintro e w5 ⟨v5,rfl,h5,n5,b5⟩;obtain⟨a5,c5,rfl⟩:=h5.shape;obtain⟨y5,f5,l5⟩:=(X2.drew.keep b5).one;obtain⟨i5,j5,k5,l6,m5,o5,r5⟩:=(X3.drew.keep b5).three))
 rename_i hH
 have hB:=limb4 hH
 rw[qn.out] at hB
 rw[qn.out]
 clear hH
 have HB:Hid (Below w.heap.size w _):=B4.out.trans (hB.mono nV)
 have H5:Hid (Sl w5 (.slice a5 zs.length c5) (zs.set (p*8+t).toNat x)):=by show Sl _ _ _;simpa using h5
 have N5:Hid (Fresh W.heap.size (.slice a5 zs.length c5)):=by show Fresh _ _;simpa using n5
 clear hB h5 n5
 go_wp2
 refine bodyPost_ret (v:=.tuple #[.agg #[.slice a5 zs.length c5],.agg #[J p,J h,J ((t+1)%8)],J 0]) (by simp[results,Tryz.results120,go_sem, *]) rfl ⟨⟨_,_,_,_,by rw[HE.out],?_,N5.out.mono (by omega),HG.out⟩,HB.out⟩
 rw[HF.out]
 refine Sl.setOther (Sl.setOther (Sl.setOther (Sl.setOther H5.out ?_ _) ?_ _) ?_ _) ?_ _ <;> exact N5.out.ne (by dsimp only;omega)
theorem wU {v:Value}{zs:List Int}{p h t x:Int}{w:World}(hs:Sl w v zs)(hz:chk zs=0)(hr:chkR p h t=0)(hx:wordB x=true)(hl:¬lenR h t=7):
  Calls Tryz.prog 120 #[.agg #[v],.agg #[J p,J h,J t],J x] w fun e w'=>
   ∃v',e=.returned (.tuple #[.agg #[v'],.agg #[J p,J h,J ((t+1)%8)],J 0])∧Sl w' v' (zs.set (p*8+t).toNat x)∧Fresh w.heap.size v'∧Below w.heap.size w w':=by
 refine (tW v zs p h t x w hs).mono ?_
 rintro e w' ⟨⟨v',p',h',t',rfl,hS,hF,hR⟩,hb⟩
 have e0:psE zs p h t x=0:=by rw[psE,if_pos (fM hz hr),if_pos hx,if_neg hl]
 rw[psR,if_pos e0] at hR
 simp only[Prod.mk.injEq] at hR
 obtain⟨rfl,rfl,rfl⟩:=hR
 rw[psM,if_pos e0] at hS
 rw[e0]
 exact⟨v',rfl,hS,hF,hb⟩
abbrev TlOutS (v vc:Value)(zs:List Int)(b:Br)(c d p:Int)(x:Bool)(w:World)(e:Ending)(w':World):Prop:=
 ∃ma1 mn1 mc1 mo1 ba1 op1 oh1 ot1 fe1 fp1 fh1 ft1 st1 lo1 va1 vk1 l1,e=.returned (.tuple #[.agg #[.slice ma1 mn1 mc1],.agg (rB mo1 ba1 (.slice va1 l1.length vk1) op1 oh1 ot1 st1 fe1 fp1 fh1 ft1 lo1),J (tlE zs b c d p)])∧tlB zs b c d p=⟨mo1,ba1,l1,op1,oh1,ot1,st1,fe1,fp1,fh1,ft1,lo1⟩∧(Value.slice ma1 mn1 mc1=v∨Fresh w.heap.size (.slice ma1 mn1 mc1))∧(Value.slice va1 l1.length vk1=vc∨Fresh w.heap.size (.slice va1 l1.length vk1))∧Sl w' (.slice ma1 mn1 mc1) (tlM zs b c d p x)∧Ls w' (.slice va1 l1.length vk1) l1∧Below w.heap.size w w'
set_option maxHeartbeats 8000000 in
theorem toldOf_anyS (v:Value)(zs:List Int)(mo ba op oh ot fe fp fh ft:Int)(st lo:Bool)(vc:Value)(l:List Ln)(c d p:Int)(x:Bool)(w:World)(hs:Sl w v zs)(h:Ls w vc l)(hk:bothB zs ⟨mo,ba,l,op,oh,ot,st,fe,fp,fh,ft,lo⟩=0):
  Calls Tryz.prog 83 #[.agg #[v],.agg (rB mo ba vc op oh ot st fe fp fh ft lo),.agg #[J c,J d,J p,.bool x]] w fun e w'=>TlOutS v vc zs ⟨mo,ba,l,op,oh,ot,st,fe,fp,fh,ft,lo⟩ c d p x w e w':=by
 have HS:Hid (Ls w vc l):=h
 obtain⟨va,vk,rfl,-⟩:=h.shape
 have HM:Hid (Sl w v zs):=hs
 obtain⟨ma,mc,rfl⟩:=hs.shape
 have HK:Hid (_=_):=hk
 clear h hs hk
 go_enter Tryz.func83,Tryz.ntmps83
 go_wp2_with fail
 refine (mY c d p x _).mono ?_
 rintro e w1 ⟨rfl,b1⟩
 have BA:Hid (Below w.heap.size w _):=aA (aA (aA (aA (aA (Below.refl w.heap.size w) (.cells #[.slice ma zs.length mc] 24)) (.cells (rB mo ba (.slice va l.length vk) op oh ot st fe fp fh ft lo) 31)) (.cells #[J c,J d,J p,.bool x] 74)) (.cells #[.slice none 0 0] 24)) (.cells zB 31)
 have X0:=(((((Box.newAt (n:=w.heap.size) rfl 24 #[.slice ma zs.length mc]).past _).past _).past _).past _).keep b1
 have X1:=((((Box.newAt (n:=w.heap.size+1) (by simp) 31 (rB mo ba (.slice va l.length vk) op oh ot st fe fp fh ft lo)).past _).past _).past _).keep b1
 have X3:=((Box.newAt (n:=w.heap.size+1+1+1) (by simp) 24 #[.slice none 0 0]).past _).keep b1
 have X4:=(Box.newAt (n:=w.heap.size+1+1+1+1) (by simp) 31 zB).keep b1
 have B1:Hid (Below w.heap.size w w1):=aB BA.out b1
 clear b1 BA
 obtain⟨m0,m1,s0⟩:=X0.one
 obtain⟨⟨q0,q1,q2,q3,q4,q5,q6,q7,q8,q9,q10,q11⟩,s1⟩:=X1.twelve
 obtain⟨i0,i1,i2,i3,i4,i5,i6,i7,i8,i9,i10,i11⟩:=X1.marks
 obtain⟨r0,r1,s3⟩:=X3.one
 obtain⟨⟨u0,u1,u2,u3,u4,u5,u6,u7,u8,u9,u10,u11⟩,s4⟩:=X4.twelve
 obtain⟨y0,y1,y2,y3,y4,y5,y6,y7,y8,y9,y10,y11⟩:=X4.marks
 by_cases hf:fE c d p=0
 rotate_left
 ·have HE:Hid (tlE zs ⟨mo,ba,l,op,oh,ot,st,fe,fp,fh,ft,lo⟩ c d p=fE c d p):=if_pos HK.out
  have HB:Hid (tlB zs ⟨mo,ba,l,op,oh,ot,st,fe,fp,fh,ft,lo⟩ c d p=B0):=if_neg (by rw[HE.out];exact hf)
  have HT:Hid (tlM zs ⟨mo,ba,l,op,oh,ot,st,fe,fp,fh,ft,lo⟩ c d p x=[]):=if_neg (by rw[HE.out];exact hf)
  generalize fE c d p=E at *
  have hq:(E !=0)=true:=by simpa using hf
  go_wp2
  refine bodyPost_ret (v:=.tuple #[.agg #[.slice none 0 0],.agg zB,J E]) (by simp[results,Tryz.results83,go_sem, *]) rfl ⟨_,_,_,_,_,_,_,_,_,_,_,_,_,_,_,_,[],by rw[HE.out];rfl,HB.out,.inr (Fresh.none _ _ _),.inr (Fresh.none _ _ _),by rw[HT.out];exact Sl.nil _ _ _,Ls.nothing _,?_⟩
  (repeat (first|with_reducible exact B1.out|with_reducible refine Below.drew ?_|with_reducible refine aA ?_ _|(with_reducible refine aJ ?_ ?_ _ _ _ _ _ _ _ _ _ _ _ _;(focus omega))|(with_reducible refine aI ?_ ?_ _;(focus (dsimp only;omega)))))
 have hE:tlE zs ⟨mo,ba,l,op,oh,ot,st,fe,fp,fh,ft,lo⟩ c d p=0:=by rw[tlE,if_pos HK.out,hf]
 have HE:Hid (_=_):=hE
 have HZ:Hid (chk zs=0):=(bL HK.out).1
 have HF:Hid (chkR fp fh ft=0):=(bK (bL HK.out).2).2.2.2.2.2
 have HW:Hid (wordB (fW c d p x)=true):=oZ x hf
 obtain⟨W0,hW0⟩:∃z,fW c d p x=z:=⟨_,rfl⟩
 have HW0:Hid (_=_):=hW0
 rw[hf,hW0]
 clear hE hf hW0
 cases lo
 rotate_left
 ·have HB:Hid (tlB zs ⟨mo,ba,l,op,oh,ot,st,fe,fp,fh,ft,true⟩ c d p=⟨mo,ba,l,op,oh,ot,st,fe,fp,fh,ft,true⟩):=by show _=_;rw[tlB,if_pos HE.out];rfl
  have HT:Hid (tlM zs ⟨mo,ba,l,op,oh,ot,st,fe,fp,fh,ft,true⟩ c d p x=zs):=by show _=_;rw[tlM,if_pos HE.out];rfl
  go_wp2
  go_region
  go_wp2
  refine bodyPost_ret (v:=.tuple #[.agg #[.slice ma zs.length mc],.agg (rB mo ba (.slice va l.length vk) op oh ot st fe fp fh ft true),J 0]) (by simp[results,Tryz.results83,go_sem, *]) rfl ⟨_,_,_,_,_,_,_,_,_,_,_,_,_,_,_,_,l,by rw[HE.out],HB.out,.inl rfl,.inl rfl,by rw[HT.out];refine HM.out.keep ?_;(repeat (first|with_reducible exact B1.out|with_reducible refine Below.drew ?_|with_reducible refine aA ?_ _|(with_reducible refine aJ ?_ ?_ _ _ _ _ _ _ _ _ _ _ _ _;(focus omega))|(with_reducible refine aI ?_ ?_ _;(focus (dsimp only;omega))))),HS.out.keep ?_,?_⟩
  all_goals (repeat (first|with_reducible exact B1.out|with_reducible refine Below.drew ?_|with_reducible refine aA ?_ _|(with_reducible refine aJ ?_ ?_ _ _ _ _ _ _ _ _ _ _ _ _;(focus omega))|(with_reducible refine aI ?_ ?_ _;(focus (dsimp only;omega)))))
 obtain⟨-,rh,rt⟩:=dC HF.out
 go_wp2_with fail
 refine (jB fp fh ft _ (bS rh) (bS rt)).mono ?_
 rintro e w2 ⟨rfl,rfl⟩
 clear rh rt
 by_cases hl:lenR fh ft=7
 ·have HB:Hid (tlB zs ⟨mo,ba,l,op,oh,ot,st,fe,fp,fh,ft,false⟩ c d p=⟨mo,ba,l,op,oh,ot,st,fe,fp,fh,ft,true⟩):=by show _=_;rw[tlB,if_pos HE.out,if_pos (by simp[fullB,hl])]
  have HT:Hid (tlM zs ⟨mo,ba,l,op,oh,ot,st,fe,fp,fh,ft,false⟩ c d p x=zs):=by show _=_;rw[tlM,if_pos HE.out,if_pos (by simp[fullB,hl])]
  rw[hl]
  go_wp2
  go_region
  go_wp2
  refine bodyPost_ret (v:=.tuple #[.agg #[.slice ma zs.length mc],.agg (rB mo ba (.slice va l.length vk) op oh ot st fe fp fh ft true),J 0]) (by simp[results,Tryz.results83,go_sem, *]) rfl ⟨_,_,_,_,_,_,_,_,_,_,_,_,_,_,_,_,l,by rw[HE.out],HB.out,.inl rfl,.inl rfl,by rw[HT.out];refine HM.out.keep ?_;(repeat (first|with_reducible exact B1.out|with_reducible refine Below.drew ?_|with_reducible refine aA ?_ _|(with_reducible refine aJ ?_ ?_ _ _ _ _ _ _ _ _ _ _ _ _;(focus omega))|(with_reducible refine aI ?_ ?_ _;(focus (dsimp only;omega))))),HS.out.keep ?_,?_⟩
  all_goals (repeat (first|with_reducible exact B1.out|with_reducible refine Below.drew ?_|with_reducible refine aA ?_ _|(with_reducible refine aJ ?_ ?_ _ _ _ _ _ _ _ _ _ _ _ _;(focus omega))|(with_reducible refine aI ?_ ?_ _;(focus (dsimp only;omega)))))
 have HB:Hid (tlB zs ⟨mo,ba,l,op,oh,ot,st,fe,fp,fh,ft,false⟩ c d p=⟨mo,ba,l,op,oh,ot,st,fe,fp,fh,(ft+1)%8,false⟩):=by show _=_;rw[tlB,if_pos HE.out,if_neg (by simp[fullB,hl])]
 have HT:Hid (tlM zs ⟨mo,ba,l,op,oh,ot,st,fe,fp,fh,ft,false⟩ c d p x=zs.set (fp*8+ft).toNat W0):=by show _=_;rw[tlM,if_pos HE.out,if_neg (by simp[fullB,hl]),HW0.out]
 have HQ:Hid (¬lenR fh ft=7):=hl
 have hq:(lenR fh ft==7)=false:=by simpa using hl
 clear hl
 go_wp2_with fail
 refine (wU (HM.out.keep (aA B1.out _)) HZ.out HF.out (HW0.out ▸ HW.out) HQ.out).mono ?_
 rintro e w4 ⟨v4,rfl,hS4,hF4,b4⟩
 have zz:w.heap.size+1+1+1+1<w1.heap.size:=s4
 have hF4:Fresh (w1.heap.size+1) v4:=by simpa using hF4
 have FF:Hid (Fresh w.heap.size v4):=hF4.mono (by omega)
 have F0:Hid (v4.ownBlock≠some w.heap.size):=hF4.ne (by omega)
 have F1:Hid (v4.ownBlock≠some (w.heap.size+1)):=hF4.ne (by omega)
 have F3:Hid (v4.ownBlock≠some (w.heap.size+1+1+1)):=hF4.ne (by omega)
 have F4:Hid (v4.ownBlock≠some (w.heap.size+1+1+1+1)):=hF4.ne (by omega)
 clear m0 m1 s0 q0 q1 q2 q3 q4 q5 q6 q7 q8 q9 q10 q11 s1 i0 i1 i2 i3 i4 i5 i6 i7 i8 i9 i10 i11 r0 r1 s3 u0 u1 u2 u3 u4 u5 u6 u7 u8 u9 u10 u11 s4 y0 y1 y2 y3 y4 y5 y6 y7 y8 y9 y10 y11
 have X0:=(X0.past _).keep b4
 have X1:=(X1.past _).keep b4
 have X3:=(X3.past _).keep b4
 have X4:=(X4.past _).keep b4
 have B4:Hid (Below w.heap.size w w4):=aB (aA B1.out _) b4
 obtain⟨a4,n4,c4,rfl⟩:∃a n c,v4=.slice a n c:=by obtain⟨a,cap,e,_⟩:=hS4;exact⟨_,_,_,e⟩
 have HS4:Hid (Sl _ _ _):=hS4
 clear b4 hF4 hS4 B1 zz
 generalize ((ft+1)%8)=nf at *
 obtain⟨m0,m1,s0⟩:=X0.one
 obtain⟨⟨q0,q1,q2,q3,q4,q5,q6,q7,q8,q9,q10,q11⟩,s1⟩:=X1.twelve
 obtain⟨i0,i1,i2,i3,i4,i5,i6,i7,i8,i9,i10,i11⟩:=X1.marks
 obtain⟨r0,r1,s3⟩:=X3.one
 obtain⟨⟨u0,u1,u2,u3,u4,u5,u6,u7,u8,u9,u10,u11⟩,s4⟩:=X4.twelve
 obtain⟨y0,y1,y2,y3,y4,y5,y6,y7,y8,y9,y10,y11⟩:=X4.marks
 go_wp2
 go_region
 go_wp2
 refine bodyPost_ret (v:=.tuple #[.agg #[.slice a4 n4 c4],.agg (rB mo ba (.slice va l.length vk) op oh ot st fe fp fh nf false),J 0]) (by simp[results,Tryz.results83,go_sem, *]) rfl ⟨_,_,_,_,_,_,_,_,_,_,_,_,_,_,_,_,l,by rw[HE.out],HB.out,.inr FF.out,.inl rfl,?_,HS.out.keep ?_,?_⟩
 ·rw[HT.out]
  exact Sl.drew (Sl.put12 (n:=w.heap.size+1+1+1+1) (Sl.setOther (p:=⟨w.heap.size+1+1+1,0,none⟩) (Sl.setOther (p:=⟨w.heap.size+1,10,none⟩) (Sl.setOther (p:=⟨w.heap.size+1,9,none⟩) (Sl.setOther (p:=⟨w.heap.size+1,8,none⟩) (Sl.setOther (p:=⟨w.heap.size,0,none⟩) HS4.out F0.out _) F1.out _) F1.out _) F1.out _) F3.out _) F4.out _ _ _ _ _ _ _ _ _ _ _ _)
 all_goals (repeat (first|with_reducible exact B4.out|with_reducible refine Below.drew ?_|with_reducible refine aA ?_ _|(with_reducible refine aJ ?_ ?_ _ _ _ _ _ _ _ _ _ _ _ _;(focus omega))|(with_reducible refine aI ?_ ?_ _;(focus (dsimp only;omega)))))
theorem OwnI.open {w:World}{base g n cap:Nat}{zs:List Int}(h:OwnI w base (.slice (some ⟨g,0,none⟩) n cap) zs):∃cur:Array Value,n=zs.length∧base≤g∧w.heap[g]?=some (.cells cur 3 (0,0))∧zs.length≤cap∧cap≤maxLen∧cur.size=cap∧cur.toList.take zs.length=zs.map (fun z=>J z):=by
 obtain⟨h1,h2⟩:=h
 rcases h2 with ⟨h2,_⟩|⟨g',cap',cur,e,hb,hg,hc,hm,hs,ht⟩
 ·simp at h2
 ·simp only[Value.slice.injEq,Option.some.injEq,Addr.mk.injEq,and_true] at e
  obtain⟨rfl,rfl,rfl⟩:=e
  exact⟨cur,rfl,hb,hg,hc,hm,by simpa using hs,by simpa using ht⟩
theorem OwnI.cellAt {w:World}{base g n cap:Nat}{zs:List Int}(h:OwnI w base (.slice (some ⟨g,0,none⟩) n cap) zs){i:Nat}(hi:i<zs.length):w.cell? ⟨g,i,none⟩=some (J (nth zs i)):=by
 obtain⟨cur,rfl,_,hg,hc,_,hs,ht⟩:=h.open
 rw[cell_of_row w g i cur _ _ hg,←Array.getElem?_toList]
 have:(cur.toList.take zs.length)[i]?=cur.toList[i]?:=by rw[List.getElem?_take,if_pos hi]
 rw[←this,ht]
 simp[nth,hi]
theorem OwnI.frozenAt {w:World}{base g n cap:Nat}{zs:List Int}(h:OwnI w base (.slice (some ⟨g,0,none⟩) n cap) zs)(i:Nat):w.frozen? ⟨g,i,none⟩=false:=by
 obtain⟨cur,_,_,hg,_⟩:=h.open
 exact frozen_of_row w g _ _ _ hg
theorem OwnI.setAt {w:World}{base g n cap:Nat}{zs:List Int}(h:OwnI w base (.slice (some ⟨g,0,none⟩) n cap) zs)(i:Nat)(z:Int):OwnI (w.setCell ⟨g,i,none⟩ (J z)) base (.slice (some ⟨g,0,none⟩) n cap) (zs.set i z):=by
 obtain⟨cur,rfl,hb,hg,hc,hm,hs,ht⟩:=h.open
 refine⟨by simp,.inr ⟨g,cap,cur.setIfInBounds i (J z),by simp,hb,heap_setCell_same w g i cur _ _ hg,by simpa using hc,hm,by simp[hs],?_⟩⟩
 rw[Array.toList_setIfInBounds,List.length_set,Nat.mul_one,List.take_set,ht,List.map_set]
end Go.Proofs.YthlhocneggcekaaGreat
