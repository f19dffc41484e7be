/-
  Laid together: MachB, MHapB, Stands, Code1, HasI.
-/
import Derived.Test.YthlhocneggcekaaGreatD22
namespace Go.Proofs.YthlhocneggcekaaGreat
open Go.RowKit
theorem Sl.long {w:World}{v:Value}{zs:List Int}(h:Sl w v zs){n:Nat}{t:TypeId}{cs:Array Value}(hb:Box w n t cs)(hc:cs.size<zs.length):∀q,v.ownBlock=some q→¬q=n:=by
 intro q hq e
 subst e
 obtain⟨a,cap,rfl,_,hs⟩:=h
 rcases hs with rfl|⟨b,o,rfl,_,hcs⟩
 ·simp at hc
 ·simp[Value.ownBlock] at hq
  subst hq
  have h1:=hcs (zs.length-1) (by omega)
  rw[hb.cell,Array.getElem?_eq_none (by omega)] at h1
  cases h1
theorem Sl.regsM {w:World}{v:Value}{r:List Int}(h:Sl w v r)(h8:r.length=8){n:Nat}{t:TypeId}{v0 v2:Value}{p:Int}{d:Bool}{i0 i1 i3 i4 i5 i7 i8 i9 i10:Int}{p6 p11:Bool}{sc:Value}
  (hb:Box w n t (rM v0 p v2 d i0 i1 sc i3 i4 i5 p6 i7 i8 i9 i10 p11)):∀q,v.ownBlock=some q→¬q=n:=by
 intro q hq e
 subst e
 obtain⟨a,cap,rfl,_,hs⟩:=h
 rcases hs with rfl|⟨b,o,rfl,_,hcs⟩
 ·simp at h8
 ·simp[Value.ownBlock] at hq
  subst hq
  by_cases ho:o≤3
  ·have h1:=hcs (3-o) (by omega)
   rw[hb.cell,show o+(3-o)=3 by omega] at h1
   simp at h1
  ·by_cases ho2:o≤10
   ·have h1:=hcs (10-o)
    by_cases ho3:10-o<r.length
    ·have h2:=h1 ho3
     rw[hb.cell,show o+(10-o)=10 by omega] at h2
     simp at h2
    ·omega
   ·have h1:=hcs 7 (by omega)
    rw[hb.cell,Array.getElem?_eq_none (by simp;omega)] at h1
    cases h1
theorem Ls.apartM {w:World}{v:Value}{l:List Ln}(hl:Ls w v l){n:Nat}{t:TypeId}{a0 a2 a6:Option Addr}{n0 n2 n6 c0 c2 c6:Nat}{p:Int}{d:Bool}{i0 i1 i3 i4 i5 i7 i8 i9 i10:Int}{p6 p11:Bool}
  (hb:Box w n t (rM (.slice a0 n0 c0) p (.slice a2 n2 c2) d i0 i1 (.slice a6 n6 c6) i3 i4 i5 p6 i7 i8 i9 i10 p11)):Apart v l n:=by
 obtain⟨ad,cap,rfl,_,_,hl⟩:=hl
 rcases hl with rfl|⟨b',o,rfl,_,hc⟩
 ·exact .inl rfl
 ·by_cases h0:l=[]
  ·exact .inl h0
  ·refine .inr fun b2 o2 k c2 e=>?_
   simp only[Value.slice.injEq,Option.some.injEq,Addr.mk.injEq,and_true] at e
   obtain⟨⟨rfl,rfl⟩,-⟩:=e
   rintro rfl
   obtain⟨_,_,h2,h3,h4⟩:=hc 0 (List.length_pos_iff.2 h0)
   rw[hb.cell] at h2 h3 h4
   by_cases ho:o+0*5<12
   ·obtain⟨j,hj⟩:∃j,o+0*5=j:=⟨_,rfl⟩
    rw[hj] at h2 h3 h4 ho
    obtain rfl|rfl|rfl|rfl|rfl|rfl|rfl|rfl|rfl|rfl|rfl|rfl:j=0∨j=1∨j=2∨j=3∨j=4∨j=5∨j=6∨j=7∨j=8∨j=9∨j=10∨j=11:=by omega
    all_goals simp at h2 h3 h4
   ·rw[Array.getElem?_eq_none (by simp;omega)] at h4
    cases h4
theorem Ls.keptP {may:Nat→Prop}{a w:World}{v:Value}{l:List Ln}(hs:Ls a v l)(h:KeptB may a w)(hm:∀q,may q→Apart v l q):Ls w v l:=by
 by_cases h0:l=[]
 ·exact hs.keptA h (.inl h0)
 ·refine hs.keptA h (.inr fun q hq hq2=>?_)
  rcases hm q hq2 with e|e
  ·exact h0 e
  ·obtain⟨ad,cap,rfl,_,_,hl⟩:=hs
   rcases hl with e2|⟨b,o,rfl,_,_⟩
   ·exact h0 e2
   ·simp[Value.ownBlock] at hq
    exact e b o _ _ rfl hq
def Off (bad:Nat→Prop)(v:Value):Prop:=∀q,v.ownBlock=some q→¬bad q
theorem Off.none (bad:Nat→Prop)(n c:Nat):Off bad (.slice none n c):=fun k hk=>by simp[Value.ownBlock] at hk
theorem Fresh.off {base:Nat}{v:Value}{bad:Nat→Prop}(h:Fresh base v)(k:∀q,bad q→q<base):Off bad v:=fun q hq hb=>by have:=h q hq;have:=k q hb;omega
theorem Off.fresh {base:Nat}{v:Value}(h:Off (fun q=>q<base) v):Fresh base v:=fun q hq=>Nat.le_of_not_lt (h q hq)
theorem Off.less {a b:Nat→Prop}{v:Value}(h:Off b v)(k:∀q,a q→b q):Off a v:=fun q hq ha=>h q hq (k q ha)
abbrev HapG (bad:Nat→Prop)(m:Mc)(x:Hp)(w':World)(v1:Value)(p1:Int)(u1:Value)(d1:Bool)(mo1 ba1 op1 oh1 ot1 fe1 fp1 fh1 ft1:Int)(st1 lo1:Bool)(vc1:Value)(dn1:Bool)(vd1:Value)(f1:Int)(vt1:Value):Prop:=
 ∃zs1 r1 l1 dat1 tch1,hpR m x=(⟨zs1,⟨p1,r1,d1⟩,⟨mo1,ba1,l1,op1,oh1,ot1,st1,fe1,fp1,fh1,ft1,lo1⟩⟩,⟨dn1,dat1,f1,tch1⟩)∧Sl w' v1 zs1∧Sl w' u1 r1∧Ls w' vc1 l1∧Sl w' vd1 dat1∧Ts w' vt1 tch1∧Off bad v1∧Off bad u1∧Off bad vc1∧Off bad vd1∧Off bad vt1
abbrev HapC (bad:Nat→Prop)(m:Mc)(x:Hp)(e:Ending)(w':World):Prop:=
 ∃a1 n1 c1 p1 a2 n2 c2 d1 mo1 ba1 a3 n3 c3 op1 oh1 ot1 st1 fe1 fp1 fh1 ft1 lo1 dn1 a4 n4 c4 f1 a5 n5 c5,e=.returned (.tuple #[.agg (rM (.slice a1 n1 c1) p1 (.slice a2 n2 c2) d1 mo1 ba1 (.slice a3 n3 c3) op1 oh1 ot1 st1 fe1 fp1 fh1 ft1 lo1),.agg #[.bool dn1,.slice a4 n4 c4,J f1,.slice a5 n5 c5],J (hpE m x)])∧
  (hpE m x=0→HapG bad m x w' (.slice a1 n1 c1) p1 (.slice a2 n2 c2) d1 mo1 ba1 op1 oh1 ot1 fe1 fp1 fh1 ft1 st1 lo1 (.slice a3 n3 c3) dn1 (.slice a4 n4 c4) f1 (.slice a5 n5 c5))
theorem cK {a b:Value}{x y:Int}(h:x=y):Ending.returned (.tuple #[a,b,J x])=.returned (.tuple #[a,b,J y]):=by rw[h]
set_option maxRecDepth 10000 in
set_option maxHeartbeats 8000000 in
theorem wW (v:Value)(zs:List Int)(p:Int)(u:Value)(r:List Int)(d:Bool)(mo ba op oh ot fe fp fh ft:Int)(st lo:Bool)(vc:Value)(l:List Ln)(kd num dv a ct:Int)(wr:Bool)(y:Value)(ds:List Int)(bad:Nat→Prop)(w:World)(hs:Sl w v zs)(hr:Sl w u r)(h:Ls w vc l)(hd:Sl w y ds)(hE:chkM ⟨zs,⟨p,r,d⟩,⟨mo,ba,l,op,oh,ot,st,fe,fp,fh,ft,lo⟩⟩=0)(hN:∀q,bad q→q<w.heap.size)(f1:Off bad v)(f2:Off bad u)(f3:Off bad vc)(hk:¬(1≤kd∧kd≤4)):
  Calls Tryz.prog 35 #[.agg (rM v p u d mo ba vc op oh ot st fe fp fh ft lo),.agg #[J kd,J num,J dv,J a,J ct,.bool wr,y]] w fun e w'=>HapC bad ⟨zs,⟨p,r,d⟩,⟨mo,ba,l,op,oh,ot,st,fe,fp,fh,ft,lo⟩⟩ ⟨kd,num,dv,a,ct,wr,ds⟩ e w'∧Below w.heap.size w w':=by
 have HM:Hid (Sl w v zs):=hs
 have HR:Hid (Sl w u r):=hr
 have HL:Hid (Ls w vc l):=h
 have HD:Hid (Sl w y ds):=hd
 have HE:Hid (chkM _=0):=hE
 have HN:Hid (∀q,bad q→q<w.heap.size):=hN
 have F1:Hid (Off bad v):=f1
 have F2:Hid (Off bad u):=f2
 have F3:Hid (Off bad vc):=f3
 obtain⟨ma,mn,mc,rfl⟩:∃a k c,v=.slice a k c:=let ⟨a,c,e,_⟩:=hs;⟨a,_,c,e⟩
 obtain⟨ra,rn,rc,rfl⟩:∃a k c,u=.slice a k c:=let ⟨a,c,e,_⟩:=hr;⟨a,_,c,e⟩
 obtain⟨va,vn,vk,rfl⟩:∃a k c,vc=.slice a k c:=let ⟨a,c,e,_⟩:=h;⟨a,_,c,e⟩
 obtain⟨da,dn,dc,rfl⟩:∃a k c,y=.slice a k c:=let ⟨a,c,e,_⟩:=hd;⟨a,_,c,e⟩
 clear hs hr h hd hE hN f1 f2 f3
 have X0:=((((Box.newAt (w:=w) (n:=w.heap.size) rfl 33 (rM (.slice ma mn mc) p (.slice ra rn rc) d mo ba (.slice va vn vk) op oh ot st fe fp fh ft lo)).past (.cells #[J kd,J num,J dv,J a,J ct,.bool wr,.slice da dn dc] 37)).past (.cells zM 33)).past (.cells zT 40)).past (.cells zT 40)
 have X1:=(((Box.newAt (w:=(w.alloc (.cells (rM (.slice ma mn mc) p (.slice ra rn rc) d mo ba (.slice va vn vk) op oh ot st fe fp fh ft lo) 33))) (n:=w.heap.size+1) (by simp) 37 #[J kd,J num,J dv,J a,J ct,.bool wr,.slice da dn dc]).past (.cells zM 33)).past (.cells zT 40)).past (.cells zT 40)
 have X2:=((Box.newAt (w:=((w.alloc (.cells (rM (.slice ma mn mc) p (.slice ra rn rc) d mo ba (.slice va vn vk) op oh ot st fe fp fh ft lo) 33)).alloc (.cells #[J kd,J num,J dv,J a,J ct,.bool wr,.slice da dn dc] 37))) (n:=w.heap.size+1+1) (by simp) 33 zM).past (.cells zT 40)).past (.cells zT 40)
 have X3:=(Box.newAt (w:=(((w.alloc (.cells (rM (.slice ma mn mc) p (.slice ra rn rc) d mo ba (.slice va vn vk) op oh ot st fe fp fh ft lo) 33)).alloc (.cells #[J kd,J num,J dv,J a,J ct,.bool wr,.slice da dn dc] 37)).alloc (.cells zM 33))) (n:=w.heap.size+1+1+1) (by simp) 40 zT).past (.cells zT 40)
 have X4:=Box.newAt (w:=((((w.alloc (.cells (rM (.slice ma mn mc) p (.slice ra rn rc) d mo ba (.slice va vn vk) op oh ot st fe fp fh ft lo) 33)).alloc (.cells #[J kd,J num,J dv,J a,J ct,.bool wr,.slice da dn dc] 37)).alloc (.cells zM 33)).alloc (.cells zT 40))) (n:=w.heap.size+1+1+1+1) (by simp) 40 zT
 have BW:Hid (Below w.heap.size w (((((w.alloc (.cells (rM (.slice ma mn mc) p (.slice ra rn rc) d mo ba (.slice va vn vk) op oh ot st fe fp fh ft lo) 33)).alloc (.cells #[J kd,J num,J dv,J a,J ct,.bool wr,.slice da dn dc] 37)).alloc (.cells zM 33)).alloc (.cells zT 40)).alloc (.cells zT 40))):=aA (aA (aA (aA (aA (Below.refl w.heap.size w) _) _) _) _) _
 have hsz:(((((w.alloc (.cells (rM (.slice ma mn mc) p (.slice ra rn rc) d mo ba (.slice va vn vk) op oh ot st fe fp fh ft lo) 33)).alloc (.cells #[J kd,J num,J dv,J a,J ct,.bool wr,.slice da dn dc] 37)).alloc (.cells zM 33)).alloc (.cells zT 40)).alloc (.cells zT 40)).heap.size=w.heap.size+1+1+1+1+1:=by simp
 go_enter Tryz.func35,Tryz.ntmps35
 go_upto_region 2 with fail
 generalize (((((w.alloc (.cells (rM (.slice ma mn mc) p (.slice ra rn rc) d mo ba (.slice va vn vk) op oh ot st fe fp fh ft lo) 33)).alloc (.cells #[J kd,J num,J dv,J a,J ct,.bool wr,.slice da dn dc] 37)).alloc (.cells zM 33)).alloc (.cells zT 40)).alloc (.cells zT 40))=W at *
 have HSZ:Hid (W.heap.size=w.heap.size+1+1+1+1+1):=hsz
 clear hsz
 obtain⟨⟨k0,k1,k2,k3,k4,k5,k6⟩,sH⟩:=X1.seven
 have HZ:Hid (hpE ⟨zs,⟨p,r,d⟩,⟨mo,ba,l,op,oh,ot,st,fe,fp,fh,ft,lo⟩⟩ ⟨kd,num,dv,a,ct,wr,ds⟩=3):=by show _=_;rw[hpE,if_pos HE.out];dsimp only;rw[if_neg (by omega),if_neg (by omega),if_neg (by omega),if_neg (by omega)]
 have e1:(kd==1)=false:=by simp;omega
 have e2:(kd==2)=false:=by simp;omega
 have e3:(kd==3)=false:=by simp;omega
 have e4:(kd==4)=false:=by simp;omega
 have PH:Hid (∀w',KeptB (fun q=>q=w.heap.size+1+1∨q=w.heap.size+1+1+1) W w'→Below w.heap.size w w'→hpE ⟨zs,⟨p,r,d⟩,⟨mo,ba,l,op,oh,ot,st,fe,fp,fh,ft,lo⟩⟩ ⟨kd,num,dv,a,ct,wr,ds⟩=0→HapG bad ⟨zs,⟨p,r,d⟩,⟨mo,ba,l,op,oh,ot,st,fe,fp,fh,ft,lo⟩⟩ ⟨kd,num,dv,a,ct,wr,ds⟩ w' (.slice ma mn mc) p (.slice ra rn rc) d mo ba op oh ot fe fp fh ft st lo (.slice va vn vk) false (.slice none 0 0) 0 (.slice none 0 0)):=fun w' _ _ h0=>by rw[HZ.out] at h0;exact absurd h0 (by decide)
 go_upto_region 12 with fail
 clear e1 e2 e3 e4
 clear k0 k1 k2 k3 k4 k5 k6 sH
 obtain⟨⟨i0,i1,i2,i3⟩,⟨j0,j1,j2,j3,j4,j5,j6,j7,j8,j9,j10,j11⟩,s0⟩:=X0.sixteen
 obtain⟨⟨q0,q1,q2,q3⟩,⟨g0,g1,g2,g3,g4,g5,g6,g7,g8,g9,g10,g11⟩,s2⟩:=X2.sixteen
 have mk:=X2.marksOf
 obtain⟨t0,t1,t2,t3,mf0,mf1,mf2,mf3,s3⟩:=X3.four
 obtain⟨z0,z1,z2,z3,-,-,-,-,s4⟩:=X4.four
 clear X0 X2 X3 X4
 have n02:¬w.heap.size=w.heap.size+1+1:=by omega
 have n03:¬w.heap.size=w.heap.size+1+1+1:=by omega
 have n20:¬w.heap.size+1+1=w.heap.size:=by omega
 have n23:¬w.heap.size+1+1=w.heap.size+1+1+1:=by omega
 have n24:¬w.heap.size+1+1=w.heap.size+1+1+1+1:=by omega
 have n30:¬w.heap.size+1+1+1=w.heap.size:=by omega
 have n32:¬w.heap.size+1+1+1=w.heap.size+1+1:=by omega
 have n34:¬w.heap.size+1+1+1=w.heap.size+1+1+1+1:=by omega
 have n42:¬w.heap.size+1+1+1+1=w.heap.size+1+1:=by omega
 have n43:¬w.heap.size+1+1+1+1=w.heap.size+1+1+1:=by omega
 go_region
 all_goals
  go_wp2
  refine bodyPost_ret (v:=.tuple #[.agg (rM (.slice ma mn mc) p (.slice ra rn rc) d mo ba (.slice va vn vk) op oh ot st fe fp fh ft lo),.agg zT,J 3]) (by simp[results,Tryz.results35,go_sem, *]) rfl ⟨⟨_,_,_,_,_,_,_,_,_,_,_,_,_,_,_,_,_,_,_,_,_,_,_,_,_,_,_,_,_,_,cK HZ.out.symm,fun h0=>PH.out _ ?_ ?_ h0⟩,?_⟩
  ·(repeat (first|with_reducible exact KeptB.refl _ _|with_reducible refine KeptB.drew ?_|with_reducible refine KeptB.alloc ?_ _|(with_reducible refine KeptB.setCell ?_ ?_ _;rotate_left;(focus (dsimp only;omega)))))
  ·(repeat (first|with_reducible exact BW.out|with_reducible refine Below.drew ?_|(with_reducible refine aX ?_ ?_ _ _ _ _ _ _ _ _ _ _ _ _ _ _ _ _;(focus omega))|(with_reducible refine aZ ?_ ?_ _ _ _ _;(focus omega))|(with_reducible refine aI ?_ ?_ _;(focus (dsimp only;omega)))))
  ·(repeat (first|with_reducible exact BW.out|with_reducible refine Below.drew ?_|(with_reducible refine aX ?_ ?_ _ _ _ _ _ _ _ _ _ _ _ _ _ _ _ _;(focus omega))|(with_reducible refine aZ ?_ ?_ _ _ _ _;(focus omega))|(with_reducible refine aI ?_ ?_ _;(focus (dsimp only;omega)))))
structure ButOne (w w':World)(n:Nat):Prop where
 box:∀k t cs,k≠n→Box w k t cs→Box w' k t cs
 bel:∀W:World,W.heap.size≤n→Below W.heap.size W w→Below W.heap.size W w'
set_option maxHeartbeats 4000000 in
theorem uA (n m q:Nat)(v u:Value)(p:Int)(d:Bool)(mo ba op oh ot fe fp fh ft:Int)(st lo:Bool)(vc:Value)(w:World)(hH:Box w n 26 #[J p,u,.bool d])(hM:Box w m 24 #[v])(hB:Box w q 31 (rB mo ba vc op oh ot st fe fp fh ft lo))(nm:n≠m)(nq:n≠q)
  (hu:∃a k c,u=.slice a k c) (hv:∃a k c,v=.slice a k c) (hc:∃a k c,vc=.slice a k c):
  Calls Tryz.prog 77 #[.pointer (some ⟨n,0,none⟩),.pointer (some ⟨m,0,none⟩),.pointer (some ⟨q,0,none⟩)] w fun e w'=>
   e=.returned (.tuple #[.agg #[v],.agg #[J p,u,.bool true],.agg (rB mo ba vc op oh ot st fe fp fh ft lo)])∧ButOne w w' n:=by
 obtain⟨ua,uk,uc,rfl⟩:=hu
 obtain⟨va,vk,vcc,rfl⟩:=hv
 obtain⟨ca,ck,cc,rfl⟩:=hc
 obtain⟨h0,h1,h2,f0,f1,f2,s0⟩:=hH.three
 obtain⟨m0,g0,s1⟩:=hM.one
 obtain⟨⟨q0,q1,q2,q3,q4,q5,q6,q7,q8,q9,q10,q11⟩,s2⟩:=hB.twelve
 have s3:n<w.heap.size+1:=by omega
 have s4:n<w.heap.size+1+1:=by omega
 have s5:m<w.heap.size+1:=by omega
 have s6:m<w.heap.size+1+1:=by omega
 have s7:q<w.heap.size+1:=by omega
 have s8:q<w.heap.size+1+1:=by omega
 have n1:¬n=m:=nm
 have n2:¬n=q:=nq
 have n3:¬m=n:=fun e=>nm e.symm
 have n4:¬q=n:=fun e=>nq e.symm
 go_enter Tryz.func77,Tryz.ntmps77
 go_wp2
 go_region
 go_wp2
 refine bodyPost_ret (v:=.tuple #[.agg #[.slice va vk vcc],.agg #[J p,.slice ua uk uc,.bool true],.agg (rB mo ba (.slice ca ck cc) op oh ot st fe fp fh ft lo)]) (by simp[results,Tryz.results77,go_sem, *]) rfl ⟨rfl,?_,?_⟩
 ·intro k t cs hk hb
  exact ((((hb.other (p:=⟨n,2,none⟩) hk _).past _).past _).past _).drew
 ·intro W hW hb
  exact Below.drew (aA (aA (aA (hb.setCell (p:=⟨n,2,none⟩) hW _) _) _) _)
theorem fP (z:Int)(w:World):Calls Tryz.prog 166 #[J z] w fun e w'=>e=.returned (.bool (betweenB 0 7 z))∧w'=w:=by
 by_cases h1:0≤z
 ·by_cases h2:z<8
  ·rw[dR ⟨h1,by omega⟩]
   go_enter Tryz.func166,Tryz.ntmps166
   go_wp2
   go_ret
   exact⟨rfl,rfl⟩
  ·rw[cH fun h=>h2 (by omega)]
   go_enter Tryz.func166,Tryz.ntmps166
   go_wp2
   go_ret
   exact⟨rfl,rfl⟩
 ·rw[cH fun h=>h1 h.1]
  go_enter Tryz.func166,Tryz.ntmps166
  go_wp2
  go_ret
  exact⟨rfl,rfl⟩
theorem kA (z:Int)(w:World):Calls Tryz.prog 167 #[J z] w fun e w'=>e=.returned (.bool (betweenB 0 63 z))∧w'=w:=by
 by_cases h1:0≤z
 ·by_cases h2:z≤63
  ·rw[dR ⟨h1,by omega⟩]
   go_enter Tryz.func167,Tryz.ntmps167
   go_wp2
   go_ret
   exact⟨rfl,rfl⟩
  ·rw[cH fun h=>h2 (by omega)]
   go_enter Tryz.func167,Tryz.ntmps167
   go_wp2
   go_ret
   exact⟨rfl,rfl⟩
 ·rw[cH fun h=>h1 h.1]
  go_enter Tryz.func167,Tryz.ntmps167
  go_wp2
  go_ret
  exact⟨rfl,rfl⟩
theorem fit0 (a b i:Int):fitI 0 a b i=(decide (a=0)&&decide (b=0)&&decide (i=0)):=rfl
theorem fit1 {k:Int}(h:k=1∨k=3∨k=7∨k=8)(a b i:Int):fitI k a b i=decide (b=0):=by
 rcases h with rfl|rfl|rfl|rfl <;> simp[fitI,useA,useB,useI]
theorem fit2 (a b i:Int):fitI 2 a b i=decide (i=0):=by simp[fitI,useA,useB,useI]
theorem fit4 {k:Int}(h:k=4∨k=5∨k=6)(a b i:Int):fitI k a b i=true:=by
 rcases h with rfl|rfl|rfl <;> simp[fitI,useA,useB,useI]
set_option maxHeartbeats 1000000 in
theorem oD (k a b i:Int)(w:World)(hk:0≤k∧k≤8):
  Calls Tryz.prog 168 #[.agg #[J k,J a,J b,J i]] w fun e w'=>e=.returned (.bool (fitI k a b i))∧∃o,w'=w.alloc o:=by
 have parts:k=0∨k=2∨(k=4∨k=5∨k=6)∨(k=1∨k=3∨k=7∨k=8):=by omega
 clear hk
 rcases parts with rfl|rfl|h|h
 ·rw[fit0]
  by_cases ha:a=0
  ·subst ha
   by_cases hb:b=0
   ·subst hb
    by_cases hi:i=0
    ·subst hi
     go_enter Tryz.func168,Tryz.ntmps168
     go_wp2
     go_ret
     exact⟨rfl,_,rfl⟩
    ·have ni:(i==0)=false:=by simpa using hi
     have di:Hid (decide (i=0)=false):=decide_eq_false hi
     clear hi
     go_enter Tryz.func168,Tryz.ntmps168
     go_wp2
     go_ret
     exact⟨aL (by rw[di.out];rfl),_,rfl⟩
   ·have nb:(b==0)=false:=by simpa using hb
    have db:Hid (decide (b=0)=false):=decide_eq_false hb
    clear hb
    go_enter Tryz.func168,Tryz.ntmps168
    go_wp2
    go_ret
    exact⟨aL (by rw[db.out];rfl),_,rfl⟩
  ·have na:(a==0)=false:=by simpa using ha
   have da:Hid (decide (a=0)=false):=decide_eq_false ha
   clear ha
   go_enter Tryz.func168,Tryz.ntmps168
   go_wp2
   go_ret
   exact⟨aL (by rw[da.out];rfl),_,rfl⟩
 ·rw[fit2]
  by_cases hi:i=0
  ·subst hi
   go_enter Tryz.func168,Tryz.ntmps168
   go_wp2
   go_ret
   exact⟨rfl,_,rfl⟩
  ·have ni:(i==0)=false:=by simpa using hi
   have di:Hid (decide (i=0)=false):=decide_eq_false hi
   clear hi
   go_enter Tryz.func168,Tryz.ntmps168
   go_wp2
   go_ret
   exact⟨aL (by rw[di.out]),_,rfl⟩
 ·rw[fit4 h]
  rcases h with rfl|rfl|rfl
  all_goals
   go_enter Tryz.func168,Tryz.ntmps168
   go_wp2
   go_ret
   exact⟨rfl,_,rfl⟩
 ·rw[fit1 h]
  by_cases hb:b=0
  ·subst hb
   rcases h with rfl|rfl|rfl|rfl
   all_goals
    go_enter Tryz.func168,Tryz.ntmps168
    go_wp2
    go_ret
    exact⟨rfl,_,rfl⟩
  ·have nb:(b==0)=false:=by simpa using hb
   have db:Hid (decide (b=0)=false):=decide_eq_false hb
   clear hb
   rcases h with rfl|rfl|rfl|rfl
   all_goals
    go_enter Tryz.func168,Tryz.ntmps168
    go_wp2
    go_ret
    exact⟨aL (by rw[db.out]),_,rfl⟩
theorem gC {k a b i:Int}(h:¬((0≤k∧k≤8)∧(0≤a∧a≤7)∧(0≤b∧b≤7)∧(0≤i∧i≤63))):iE k a b i=2:=by
 unfold iE
 rw[if_neg]
 simp only[rngI,Bool.and_eq_true,decide_eq_true_eq]
 exact fun x=>h ⟨x.1.1.1,x.1.1.2,x.1.2,x.2⟩
theorem iC {k a b i:Int}(hk:0≤k∧k≤8)(ha:0≤a∧a≤7)(hb:0≤b∧b≤7)(hi:0≤i∧i≤63):iE k a b i=if fitI k a b i=true then 0 else 3:=by
 unfold iE
 rw[if_pos]
 simp only[rngI,Bool.and_eq_true,decide_eq_true_eq]
 exact⟨⟨⟨hk,ha⟩,hb⟩,hi⟩
theorem cB {k a b i e:Int}(h:iE k a b i=e)(hn:¬e=0):iW k a b i=0:=if_neg (fun x=>hn (h.symm.trans x))
set_option maxHeartbeats 1000000 in
theorem aAs (k a b i:Int)(w:World):
  Calls Tryz.prog 153 #[.agg #[J k,J a,J b,J i]] w fun e w'=>e=.returned (.tuple #[J (iW k a b i),J (iE k a b i)])∧Below w.heap.size w w':=by
 by_cases k0:k<0
 ·have he:iE k a b i=2:=gC (by omega)
  rw[cB he (by decide),he]
  clear he
  go_enter Tryz.func153,Tryz.ntmps153
  go_wp2
  go_ret2
  exact⟨rfl,aA (Below.refl _ _) _⟩
 by_cases k1:8<k
 ·have he:iE k a b i=2:=gC (by omega)
  rw[cB he (by decide),he]
  clear he
  go_enter Tryz.func153,Tryz.ntmps153
  go_wp2
  go_ret2
  exact⟨rfl,aA (Below.refl _ _) _⟩
 cases ha:betweenB 0 7 a
 ·have ha':¬(0≤a∧a≤7):=of_decide_eq_false ha
  have he:iE k a b i=2:=gC (by omega)
  rw[cB he (by decide),he]
  clear he ha'
  go_enter Tryz.func153,Tryz.ntmps153
  go_wp2_with (first|(go_at_call 166;refine (fP _ _).mono ?_;rintro e w1 ⟨rfl,rfl⟩;rw[ha]))
  go_ret2
  exact⟨rfl,aA (Below.refl _ _) _⟩
 have ha':=aK ha
 cases hb:betweenB 0 7 b
 ·have hb':¬(0≤b∧b≤7):=of_decide_eq_false hb
  have he:iE k a b i=2:=gC (by omega)
  rw[cB he (by decide),he]
  clear he ha' hb'
  go_enter Tryz.func153,Tryz.ntmps153
  go_wp2_with (first|(go_at_call 166;refine (fP _ _).mono ?_;rintro e w1 ⟨rfl,rfl⟩;first|rw[ha]|rw[hb]))
  go_ret2
  exact⟨rfl,aA (Below.refl _ _) _⟩
 have hb':=aK hb
 cases hi:betweenB 0 63 i
 ·have hi':¬(0≤i∧i≤63):=of_decide_eq_false hi
  have he:iE k a b i=2:=gC (by omega)
  rw[cB he (by decide),he]
  clear he ha' hb' hi'
  go_enter Tryz.func153,Tryz.ntmps153
  go_wp2_with (first|(go_at_call 166;refine (fP _ _).mono ?_;rintro e w1 ⟨rfl,rfl⟩;first|rw[ha]|rw[hb])|(go_at_call 167;refine (kA _ _).mono ?_;rintro e w1 ⟨rfl,rfl⟩;rw[hi]))
  go_ret2
  exact⟨rfl,aA (Below.refl _ _) _⟩
 have hi':=aK hi
 have he:=iC (k:=k) (by omega) ha' hb' hi'
 have k0:0≤k:=by omega
 have k1:k≤8:=by omega
 cases hf:fitI k a b i
 ·rw[hf] at he
  rw[cB he (by decide),he]
  clear he ha' hb' hi'
  go_enter Tryz.func153,Tryz.ntmps153
  go_wp2_with (first|(go_at_call 166;refine (fP _ _).mono ?_;rintro e w1 ⟨rfl,rfl⟩;first|rw[ha]|rw[hb])|(go_at_call 167;refine (kA _ _).mono ?_;rintro e w1 ⟨rfl,rfl⟩;rw[hi])|(go_at_call 168;refine (oD _ _ _ _ _ ⟨k0,k1⟩).mono ?_;rintro e w1 ⟨rfl,o1,rfl⟩;rw[hf]))
  go_ret2
  exact⟨rfl,aA (aA (Below.refl _ _) _) _⟩
 ·rw[hf] at he
  have he:iE k a b i=0:=he
  rw[bH he,he]
  clear he
  obtain⟨a0,a1⟩:=ha'
  obtain⟨b0,b1⟩:=hb'
  obtain⟨i0,i1⟩:=hi'
  go_enter Tryz.func153,Tryz.ntmps153
  go_wp2_with (first|(go_at_call 166;refine (fP _ _).mono ?_;rintro e w1 ⟨rfl,rfl⟩;first|rw[ha]|rw[hb])|(go_at_call 167;refine (kA _ _).mono ?_;rintro e w1 ⟨rfl,rfl⟩;rw[hi])|(go_at_call 168;refine (oD _ _ _ _ _ ⟨k0,k1⟩).mono ?_;rintro e w1 ⟨rfl,o1,rfl⟩;rw[hf]))
  go_ret2
  exact⟨rfl,aA (aA (Below.refl _ _) _) _⟩
theorem aN {x y x1 y1:Int}(h:x=x1)(k:y=y1):Ending.returned (.tuple #[J x,J y])=.returned (.tuple #[J x1,J y1]):=by rw[h,k]
theorem aAt (n:Nat)(w:World)(h:w.cell? ⟨n,0,none⟩=some (.string ⟨#[]⟩)):
  Calls Tryz.prog 140 #[.int .u8 97,.pointer (some ⟨n,0,none⟩)] w fun e w'=>e=.returned (.bool false)∧w'=w:=by
 go_enter Tryz.func140,Tryz.ntmps140
 go_wp2
 refine wp_loop_rounds 1 ?_
 rw[rounds_succ]
 go_wp2
 go_ret
 exact⟨rfl,rfl⟩
theorem aAu (n:Nat)(w:World)(h:w.cell? ⟨n,0,none⟩=some (.string ⟨#[]⟩)):
  Calls Tryz.prog 140 #[.int .u8 98,.pointer (some ⟨n,0,none⟩)] w fun e w'=>e=.returned (.bool false)∧w'=w:=by
 go_enter Tryz.func140,Tryz.ntmps140
 go_wp2
 refine wp_loop_rounds 1 ?_
 rw[rounds_succ]
 go_wp2
 go_ret
 exact⟨rfl,rfl⟩
theorem aAv (n:Nat)(w:World)(h:w.cell? ⟨n,0,none⟩=some (.string ⟨#[]⟩)):
  Calls Tryz.prog 140 #[.int .u8 105,.pointer (some ⟨n,0,none⟩)] w fun e w'=>e=.returned (.bool false)∧w'=w:=by
 go_enter Tryz.func140,Tryz.ntmps140
 go_wp2
 refine wp_loop_rounds 1 ?_
 rw[rounds_succ]
 go_wp2
 go_ret
 exact⟨rfl,rfl⟩
theorem dA (n:Nat)(w:World)(h:w.cell? ⟨n,0,none⟩=some (.string ⟨#[97,105]⟩)):
  Calls Tryz.prog 140 #[.int .u8 97,.pointer (some ⟨n,0,none⟩)] w fun e w'=>e=.returned (.bool true)∧w'=w:=by
 go_enter Tryz.func140,Tryz.ntmps140
 go_wp2
 refine wp_loop_rounds 1 ?_
 rw[rounds_succ]
 go_wp2
 go_ret
 exact⟨rfl,rfl⟩
theorem eG (n:Nat)(w:World)(h:w.cell? ⟨n,0,none⟩=some (.string ⟨#[97,105]⟩)):
  Calls Tryz.prog 140 #[.int .u8 98,.pointer (some ⟨n,0,none⟩)] w fun e w'=>e=.returned (.bool false)∧w'=w:=by
 go_enter Tryz.func140,Tryz.ntmps140
 go_wp2
 refine wp_loop_rounds 3 ?_
 rw[rounds_succ]
 go_wp2
 rw[rounds_succ]
 go_wp2
 rw[rounds_succ]
 go_wp2
 go_ret
 exact⟨rfl,rfl⟩
theorem eH (n:Nat)(w:World)(h:w.cell? ⟨n,0,none⟩=some (.string ⟨#[97,105]⟩)):
  Calls Tryz.prog 140 #[.int .u8 105,.pointer (some ⟨n,0,none⟩)] w fun e w'=>e=.returned (.bool true)∧w'=w:=by
 go_enter Tryz.func140,Tryz.ntmps140
 go_wp2
 refine wp_loop_rounds 2 ?_
 rw[rounds_succ]
 go_wp2
 rw[rounds_succ]
 go_wp2
 go_ret
 exact⟨rfl,rfl⟩
theorem jH (n:Nat)(w:World)(h:w.cell? ⟨n,0,none⟩=some (.string ⟨#[97,98]⟩)):
  Calls Tryz.prog 140 #[.int .u8 97,.pointer (some ⟨n,0,none⟩)] w fun e w'=>e=.returned (.bool true)∧w'=w:=by
 go_enter Tryz.func140,Tryz.ntmps140
 go_wp2
 refine wp_loop_rounds 1 ?_
 rw[rounds_succ]
 go_wp2
 go_ret
 exact⟨rfl,rfl⟩
theorem jI (n:Nat)(w:World)(h:w.cell? ⟨n,0,none⟩=some (.string ⟨#[97,98]⟩)):
  Calls Tryz.prog 140 #[.int .u8 98,.pointer (some ⟨n,0,none⟩)] w fun e w'=>e=.returned (.bool true)∧w'=w:=by
 go_enter Tryz.func140,Tryz.ntmps140
 go_wp2
 refine wp_loop_rounds 2 ?_
 rw[rounds_succ]
 go_wp2
 rw[rounds_succ]
 go_wp2
 go_ret
 exact⟨rfl,rfl⟩
theorem jJ (n:Nat)(w:World)(h:w.cell? ⟨n,0,none⟩=some (.string ⟨#[97,98]⟩)):
  Calls Tryz.prog 140 #[.int .u8 105,.pointer (some ⟨n,0,none⟩)] w fun e w'=>e=.returned (.bool false)∧w'=w:=by
 go_enter Tryz.func140,Tryz.ntmps140
 go_wp2
 refine wp_loop_rounds 3 ?_
 rw[rounds_succ]
 go_wp2
 rw[rounds_succ]
 go_wp2
 rw[rounds_succ]
 go_wp2
 go_ret
 exact⟨rfl,rfl⟩
theorem cL (n:Nat)(w:World)(h:w.cell? ⟨n,0,none⟩=some (.string ⟨#[97,98,105]⟩)):
  Calls Tryz.prog 140 #[.int .u8 97,.pointer (some ⟨n,0,none⟩)] w fun e w'=>e=.returned (.bool true)∧w'=w:=by
 go_enter Tryz.func140,Tryz.ntmps140
 go_wp2
 refine wp_loop_rounds 1 ?_
 rw[rounds_succ]
 go_wp2
 go_ret
 exact⟨rfl,rfl⟩
theorem cM (n:Nat)(w:World)(h:w.cell? ⟨n,0,none⟩=some (.string ⟨#[97,98,105]⟩)):
  Calls Tryz.prog 140 #[.int .u8 98,.pointer (some ⟨n,0,none⟩)] w fun e w'=>e=.returned (.bool true)∧w'=w:=by
 go_enter Tryz.func140,Tryz.ntmps140
 go_wp2
 refine wp_loop_rounds 2 ?_
 rw[rounds_succ]
 go_wp2
 rw[rounds_succ]
 go_wp2
 go_ret
 exact⟨rfl,rfl⟩
theorem cO (n:Nat)(w:World)(h:w.cell? ⟨n,0,none⟩=some (.string ⟨#[97,98,105]⟩)):
  Calls Tryz.prog 140 #[.int .u8 105,.pointer (some ⟨n,0,none⟩)] w fun e w'=>e=.returned (.bool true)∧w'=w:=by
 go_enter Tryz.func140,Tryz.ntmps140
 go_wp2
 refine wp_loop_rounds 3 ?_
 rw[rounds_succ]
 go_wp2
 rw[rounds_succ]
 go_wp2
 rw[rounds_succ]
 go_wp2
 go_ret
 exact⟨rfl,rfl⟩
end Go.Proofs.YthlhocneggcekaaGreat
