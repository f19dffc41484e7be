/-
  Laid together: Asked.
-/
import Derived.Test.YthlhocneggcekaaGreatD18
import Derived.Test.YthlhocneggcekaaGreatD21
namespace Go.Proofs.YthlhocneggcekaaGreat
open Go.RowKit
theorem tY {v:Value}{zs:List Int}{mo ba op oh ot fe fp fh ft:Int}{st lo:Bool}{vc:Value}{l:List Ln}{d p:Int}{wt:Bool}{w:World}{l1:List Ln}{k f:Int}(hs:Sl w v zs)(h:Ls w vc l)(hE:thE zs ⟨mo,ba,l,op,oh,ot,st,fe,fp,fh,ft,lo⟩ d p=0)(hR:goT zs ⟨mo,ba,l,op,oh,ot,st,fe,fp,fh,ft,lo⟩ d p wt=(⟨mo,ba,l1,op,oh,ot,st,fe,fp,fh,ft,lo⟩,k,f)):
  Calls Tryz.prog 82 #[.agg #[v],.agg (rB mo ba vc op oh ot st fe fp fh ft lo),J d,J p,.bool wt] w fun e w'=>
   ∃va1 vk1,e=.returned (.tuple #[.agg (rB mo ba (.slice va1 l1.length vk1) op oh ot st fe fp fh ft lo),J k,J f])∧Ls w' (.slice va1 l1.length vk1) l1∧Below w.heap.size w w'∧(Value.slice va1 l1.length vk1=vc∨Fresh w.heap.size (.slice va1 l1.length vk1)):=by
 refine (rV v zs mo ba op oh ot fe fp fh ft st lo vc l d p wt w hs h hE).mono ?_
 rintro e w' ⟨vc2,l2,k2,f2,rfl,hg,hl,hb,hn⟩
 rw[hR] at hg
 simp only[Prod.mk.injEq,Br.mk.injEq,true_and,and_true] at hg
 obtain⟨rfl,rfl,rfl⟩:=hg
 obtain⟨va1,vk1,rfl,-⟩:=hl.shape
 exact⟨va1,vk1,rfl,hl,hb,hn⟩
theorem toldOf_atS {v:Value}{zs:List Int}{mo ba op oh ot fe fp fh ft:Int}{st lo:Bool}{vc:Value}{l:List Ln}{c d p:Int}{x:Bool}{w:World}{mo1 ba1 op1 oh1 ot1 fe1 fp1 fh1 ft1:Int}{st1 lo1:Bool}{l1:List Ln}{ms:List Int}{e0:Int}(hs:Sl w v zs)(h:Ls w vc l)(hk:bothB zs ⟨mo,ba,l,op,oh,ot,st,fe,fp,fh,ft,lo⟩=0)(hE:tlE zs ⟨mo,ba,l,op,oh,ot,st,fe,fp,fh,ft,lo⟩ c d p=e0)(hB:tlB zs ⟨mo,ba,l,op,oh,ot,st,fe,fp,fh,ft,lo⟩ c d p=⟨mo1,ba1,l1,op1,oh1,ot1,st1,fe1,fp1,fh1,ft1,lo1⟩)(hM:tlM zs ⟨mo,ba,l,op,oh,ot,st,fe,fp,fh,ft,lo⟩ c d p x=ms):
  Calls Tryz.prog 83 #[.agg #[v],.agg (rB mo ba vc op oh ot st fe fp fh ft lo),.agg #[J c,J d,J p,.bool x]] w fun e w'=>
   ∃ma1 mc1 va1 vk1,e=.returned (.tuple #[.agg #[.slice ma1 ms.length mc1],.agg (rB mo1 ba1 (.slice va1 l1.length vk1) op1 oh1 ot1 st1 fe1 fp1 fh1 ft1 lo1),J e0])∧(Value.slice ma1 ms.length mc1=v∨Fresh w.heap.size (.slice ma1 ms.length mc1))∧(Value.slice va1 l1.length vk1=vc∨Fresh w.heap.size (.slice va1 l1.length vk1))∧Sl w' (.slice ma1 ms.length mc1) ms∧Ls w' (.slice va1 l1.length vk1) l1∧Below w.heap.size w w':=by
 refine (toldOf_anyS v zs mo ba op oh ot fe fp fh ft st lo vc l c d p x w hs h hk).mono ?_
 rintro e w' ⟨ma2,mn2,mc2,mo2,ba2,op2,oh2,ot2,fe2,fp2,fh2,ft2,st2,lo2,va2,vk2,l2,rfl,hB2,p1,p2,hS,hL,hb⟩
 rw[hB] at hB2
 simp only[Br.mk.injEq] at hB2
 obtain⟨rfl,rfl,rfl,rfl,rfl,rfl,rfl,rfl,rfl,rfl,rfl,rfl⟩:=hB2
 rw[hM] at hS
 rw[hE]
 obtain⟨a,cap,he,_⟩:=id hS
 simp only[Value.slice.injEq] at he
 obtain⟨rfl,rfl,rfl⟩:=he
 exact⟨ma2,mc2,va2,vk2,rfl,p1,p2,hS,hL,hb⟩
theorem Sl.big {w:World}{v:Value}{zs:List Int}(h:Sl w v zs)(hl:zs.length=512){n:Nat}{t:TypeId}{cs:Array Value}(hb:Box w n t cs)(hc:cs.size≤12):∀q,v.ownBlock=some q→¬q=n:=by
 intro q hq e
 subst e
 obtain⟨b,o,cap,rfl,_,hcs⟩:=h.open512 hl
 simp[Value.ownBlock] at hq
 subst hq
 have h1:=hcs 511 (by omega)
 rw[hb.cell,Array.getElem?_eq_none (by omega)] at h1
 cases h1
theorem Ls.keptA {may:Nat→Prop}{a w:World}{v:Value}{l:List Ln}(hs:Ls a v l)(h:KeptB may a w)(hm:l=[]∨∀q,v.ownBlock=some q→¬may q):Ls w v l:=by
 rcases hm with rfl|hm
 ·obtain⟨ad,cap,rfl,hl,hc,_⟩:=hs
  exact⟨ad,cap,rfl,hl,hc,.inl rfl⟩
 ·exact hs.kept h hm
theorem Ls.inB {w:World}{a:Option Addr}{n c:Nat}{l:List Ln}(h:Ls w (.slice a n c) l):l=[]∨∀q,(Value.slice a n c).ownBlock=some q→q<w.heap.size:=by
 obtain⟨a',c',e,_,_,h⟩:=h
 simp only[Value.slice.injEq] at e
 obtain⟨rfl,-,-⟩:=e
 rcases h with h|⟨b,o,rfl,hb,_⟩
 ·exact .inl h
 ·exact .inr fun q hq=>by simp[Value.ownBlock] at hq;omega
theorem Ls.apart4 {w:World}{v:Value}{l:List Ln}(hl:Ls w v l){n:Nat}{t:TypeId}{a b c d:Value}(h:Box w n t #[a,b,c,d]):Apart v l n:=by
 obtain⟨ad,cap,rfl,_,_,hl⟩:=hl
 rcases hl with rfl|⟨b',o,rfl,_,hc⟩
 ·exact .inl rfl
 ·by_cases h0:l=[]
  ·exact .inl h0
  ·refine .inr fun b2 o2 k c2 e=>?_
   simp only[Value.slice.injEq,Option.some.injEq,Addr.mk.injEq,and_true] at e
   obtain⟨⟨rfl,rfl⟩,-⟩:=e
   rintro rfl
   obtain⟨_,_,_,_,h4⟩:=hc 0 (List.length_pos_iff.2 h0)
   rw[h.cell,Array.getElem?_eq_none (by simp)] at h4
   simp at h4
def RelA (A0:Nat→Prop)(N g T base:Nat)(d:Int)(fw:Bool)(ds:List Int)(o cnt:Nat)(mo ba op oh ot fe fp fh ft:Int)(st lo:Bool)(R:St × Int)(W:World)(cap B0:Nat)(i:Nat)(k pg:Int)(wx:World):Prop:=
 ∃zj lj dat tch va vk vd vt,OwnI wx B0 (.slice (some ⟨g,0,none⟩) 512 cap) zj∧Box wx (N+1) 31 (rB mo ba (.slice va (List.length lj) vk) op oh ot st fe fp fh ft lo)∧Ls wx (.slice va lj.length vk) lj∧
  Box wx T 40 #[.bool false,vd,J 0,vt]∧OwnI wx base vd dat∧OwnT wx base vt tch∧
  runW d fw ds o (cnt-i) (o+i) k ⟨zj,⟨mo,ba,lj,op,oh,ot,st,fe,fp,fh,ft,lo⟩,dat,tch⟩=R∧GoodS ⟨zj,⟨mo,ba,lj,op,oh,ot,st,fe,fp,fh,ft,lo⟩,dat,tch⟩∧dat.length≤i∧tch.length=i∧(0≤k∧k≤63)∧
  pg=(if i=0 then -1 else (((o+i-1)/8:Nat):Int))∧
  (lj=[]∨∀q,(Value.slice va lj.length vk).ownBlock=some q→¬q=g∧¬q=N+1∧¬q=T∧vd.ownBlock≠some q∧vt.ownBlock≠some q∧(A0 q∨W.heap.size≤q))∧
  KeptB (fun q=>q=g∨q=N+1∨q=T) W wx
def RelB (A0:Nat→Prop)(N g T base:Nat)(d:Int)(fw:Bool)(ds:List Int)(o cnt:Nat)(mo ba op oh ot fe fp fh ft:Int)(st lo:Bool)(R:St × Int)(W:World)(cap B0:Nat)(i:Nat)(k:Int)(wx:World):Prop:=
 ∃zj lj dat tch va vk vd vt,OwnI wx B0 (.slice (some ⟨g,0,none⟩) 512 cap) zj∧Box wx (N+1) 31 (rB mo ba (.slice va (List.length lj) vk) op oh ot st fe fp fh ft lo)∧Ls wx (.slice va lj.length vk) lj∧
  Box wx T 40 #[.bool false,vd,J 0,vt]∧OwnI wx base vd dat∧OwnT wx base vt tch∧
  runW d fw ds o (cnt-(i+1)) (o+i+1) k (wd d fw ds o k (o+i) ⟨zj,⟨mo,ba,lj,op,oh,ot,st,fe,fp,fh,ft,lo⟩,dat,tch⟩)=R∧GoodS ⟨zj,⟨mo,ba,lj,op,oh,ot,st,fe,fp,fh,ft,lo⟩,dat,tch⟩∧dat.length≤i∧tch.length=i∧(0≤k∧k≤63)∧
  (lj=[]∨∀q,(Value.slice va lj.length vk).ownBlock=some q→¬q=g∧¬q=N+1∧¬q=T∧vd.ownBlock≠some q∧vt.ownBlock≠some q∧(A0 q∨W.heap.size≤q))∧
  KeptB (fun q=>q=g∨q=N+1∨q=T) W wx
abbrev AskOutS (vc:Value)(zs:List Int)(b:Br)(d:Int)(o cnt:Nat)(fw:Bool)(ds:List Int)(w:World)(e:Ending)(w':World):Prop:=
 ∃ma1 mn1 mc1 mo1 ba1 op1 oh1 ot1 fe1 fp1 fh1 ft1 st1 lo1 va1 vk1 l1 da1 dc1 ta1 tc1 dat1 tch1 ms1 f1,e=.returned (.tuple #[.agg #[.slice ma1 mn1 mc1],.agg (rB mo1 ba1 (.slice va1 l1.length vk1) op1 oh1 ot1 st1 fe1 fp1 fh1 ft1 lo1),.agg #[.bool (decide (f1=0)),.slice da1 (List.length dat1) dc1,J f1,.slice ta1 (List.length tch1) tc1]])∧
    doR zs b d o cnt fw ds=(⟨ms1,⟨mo1,ba1,l1,op1,oh1,ot1,st1,fe1,fp1,fh1,ft1,lo1⟩,dat1,tch1⟩,f1)∧Fresh w.heap.size (.slice ma1 mn1 mc1)∧(l1=[]∨∀q,(Value.slice va1 l1.length vk1).ownBlock=some q→(b.cache≠[]∧vc.ownBlock=some q)∨w.heap.size≤q)∧Sl w' (.slice ma1 mn1 mc1) ms1∧Ls w' (.slice va1 l1.length vk1) l1∧Sl w' (.slice da1 dat1.length dc1) dat1∧Ts w' (.slice ta1 tch1.length tc1) tch1∧Fresh w.heap.size (.slice da1 dat1.length dc1)∧Fresh w.heap.size (.slice ta1 tch1.length tc1)∧Below w.heap.size w w'
set_option maxRecDepth 10000 in
set_option maxHeartbeats 8000000 in
theorem asked_anyS (v:Value)(zs:List Int)(mo ba op oh ot fe fp fh ft:Int)(st lo:Bool)(vc:Value)(l:List Ln)(d:Int)(o cnt:Nat)(fw:Bool)(u:Value)(ds:List Int)(w:World)(hs:Sl w v zs)(h:Ls w vc l)(hd:Sl w u ds)(hE:doE zs ⟨mo,ba,l,op,oh,ot,st,fe,fp,fh,ft,lo⟩ d o cnt fw ds=0):
  Calls Tryz.prog 52 #[.agg #[v],.agg (rB mo ba vc op oh ot st fe fp fh ft lo),.agg #[J d,J o,J cnt,.bool fw,u]] w fun e w'=>AskOutS vc zs ⟨mo,ba,l,op,oh,ot,st,fe,fp,fh,ft,lo⟩ d o cnt fw ds w e w':=by
 obtain⟨hz,hb,hc⟩:=pA hE
 obtain⟨⟨n1,n2⟩,hdv,⟨a1,a2⟩,hln,hal⟩:=lV hc
 have HR:Hid (doR zs ⟨mo,ba,l,op,oh,ot,st,fe,fp,fh,ft,lo⟩ d o cnt fw ds=runW d fw ds o cnt o 0 ⟨zs,⟨mo,ba,l,op,oh,ot,st,fe,fp,fh,ft,lo⟩,[],[]⟩):=by show _=_;rw[doR,if_pos hE];simp
 have HZ:Hid (chk zs=0∧chkB ⟨mo,ba,l,op,oh,ot,st,fe,fp,fh,ft,lo⟩=0):=⟨hz,hb⟩
 have HN:Hid (zs.length=512):=(bF hz).1
 have HDV:Hid (0≤d∧d≤7):=hdv
 have HDS:Hid (fw=true→ds.length=cnt):=by
  intro e
  rw[e,needA,if_pos rfl] at hln
  omega
 have HAL:Hid (ds.all wordB=true):=hal
 have hcn:1≤cnt:=by omega
 have hc20:cnt≤20:=by omega
 have hoc:o+cnt≤512:=by omega
 have HS:Hid (Ls w vc l):=h
 obtain⟨va,vk,rfl,-⟩:=h.shape
 obtain⟨mb,mof,mc,rfl,hmb,hmc⟩:=hs.open512 HN.out
 have HM:Hid (Sl w (.slice (some ⟨mb,mof,none⟩) 512 mc) zs):=hs
 have HMC:Hid (∀i,i<512→w.cell? ⟨mb,mof+i,none⟩=some (J (nth zs i))):=hmc
 have HD:Hid (Sl w u ds):=hd
 obtain⟨da,dc,rfl⟩:=hd.shape
 clear h hs hd hmc hE hz hb hc n1 n2 hdv a1 a2 hln hal
 obtain⟨R,hR⟩:∃R,runW d fw ds o cnt o 0 ⟨zs,⟨mo,ba,l,op,oh,ot,st,fe,fp,fh,ft,lo⟩,[],[]⟩=R:=⟨_,rfl⟩
 rw[hR] at HR
 have HRW:Hid (runW d fw ds o cnt o 0 ⟨zs,⟨mo,ba,l,op,oh,ot,st,fe,fp,fh,ft,lo⟩,[],[]⟩=R):=hR
 clear hR
 have B0:Hid (Below w.heap.size w ((((((w.alloc (.cells #[.slice (some ⟨mb,mof,none⟩) 512 mc] 24)).alloc (.cells (rB mo ba (.slice va l.length vk) op oh ot st fe fp fh ft lo) 31)).alloc (.cells #[J d,J o,J cnt,.bool fw,.slice da ds.length dc] 35)).alloc (.cells #[.slice none 0 0] 24)).alloc (.cells zB 31)).alloc (.cells zT 40))):=aA (aA (aA (aA (aA (aA (Below.refl w.heap.size w) _) _) _) _) _) _
 have X0:=(((((Box.newAt (n:=w.heap.size) rfl 24 #[.slice (some ⟨mb,mof,none⟩) 512 mc]).past (.cells (rB mo ba (.slice va l.length vk) op oh ot st fe fp fh ft lo) 31)).past (.cells #[J d,J o,J cnt,.bool fw,.slice da ds.length dc] 35)).past (.cells #[.slice none 0 0] 24)).past (.cells zB 31)).past (.cells zT 40)
 have X1:=((((Box.newAt (w:=w.alloc (.cells #[.slice (some ⟨mb,mof,none⟩) 512 mc] 24)) (n:=w.heap.size+1) (by simp) 31 (rB mo ba (.slice va l.length vk) op oh ot st fe fp fh ft lo)).past (.cells #[J d,J o,J cnt,.bool fw,.slice da ds.length dc] 35)).past (.cells #[.slice none 0 0] 24)).past (.cells zB 31)).past (.cells zT 40)
 have X2:=(((Box.newAt (w:=(w.alloc (.cells #[.slice (some ⟨mb,mof,none⟩) 512 mc] 24)).alloc (.cells (rB mo ba (.slice va l.length vk) op oh ot st fe fp fh ft lo) 31)) (n:=w.heap.size+1+1) (by simp) 35 #[J d,J o,J cnt,.bool fw,.slice da ds.length dc]).past (.cells #[.slice none 0 0] 24)).past (.cells zB 31)).past (.cells zT 40)
 have X3:=((Box.newAt (w:=((w.alloc (.cells #[.slice (some ⟨mb,mof,none⟩) 512 mc] 24)).alloc (.cells (rB mo ba (.slice va l.length vk) op oh ot st fe fp fh ft lo) 31)).alloc (.cells #[J d,J o,J cnt,.bool fw,.slice da ds.length dc] 35)) (n:=w.heap.size+1+1+1) (by simp) 24 #[.slice none 0 0]).past (.cells zB 31)).past (.cells zT 40)
 have X4:=(Box.newAt (w:=(((w.alloc (.cells #[.slice (some ⟨mb,mof,none⟩) 512 mc] 24)).alloc (.cells (rB mo ba (.slice va l.length vk) op oh ot st fe fp fh ft lo) 31)).alloc (.cells #[J d,J o,J cnt,.bool fw,.slice da ds.length dc] 35)).alloc (.cells #[.slice none 0 0] 24)) (n:=w.heap.size+1+1+1+1) (by simp) 31 zB).past (.cells zT 40)
 have X5:=Box.newAt (w:=((((w.alloc (.cells #[.slice (some ⟨mb,mof,none⟩) 512 mc] 24)).alloc (.cells (rB mo ba (.slice va l.length vk) op oh ot st fe fp fh ft lo) 31)).alloc (.cells #[J d,J o,J cnt,.bool fw,.slice da ds.length dc] 35)).alloc (.cells #[.slice none 0 0] 24)).alloc (.cells zB 31)) (n:=w.heap.size+1+1+1+1+1) (by simp) 40 zT
 go_enter Tryz.func52,Tryz.ntmps52
 go_upto_region 1 with fail
 have hsz:((((((w.alloc (.cells #[.slice (some ⟨mb,mof,none⟩) 512 mc] 24)).alloc (.cells (rB mo ba (.slice va l.length vk) op oh ot st fe fp fh ft lo) 31)).alloc (.cells #[J d,J o,J cnt,.bool fw,.slice da ds.length dc] 35)).alloc (.cells #[.slice none 0 0] 24)).alloc (.cells zB 31)).alloc (.cells zT 40)).heap.size=w.heap.size+1+1+1+1+1+1:=by simp
 generalize ((((((w.alloc (.cells #[.slice (some ⟨mb,mof,none⟩) 512 mc] 24)).alloc (.cells (rB mo ba (.slice va l.length vk) op oh ot st fe fp fh ft lo) 31)).alloc (.cells #[J d,J o,J cnt,.bool fw,.slice da ds.length dc] 35)).alloc (.cells #[.slice none 0 0] 24)).alloc (.cells zB 31)).alloc (.cells zT 40))=W0 at *
 have H1:Hid ((W0.alloc (.cells #[] 3)).ownsRow W0.heap.size 3 1 (.slice (some ⟨W0.heap.size,0,none⟩) 0 0) 0 []):=by
  have h0:=kT W0 W0.heap.size (by simp)
  show World.ownsRow _ _ _ _ _ _ _
  simpa using h0
 have HSZ:Hid (W0.heap.size=w.heap.size+1+1+1+1+1+1):=hsz
 have hszl:w.heap.size+1+1+1+1+1<W0.heap.size:=by omega
 clear hsz
 obtain⟨m0,m1,s0⟩:=X0.one
 go_wp2_with (at_builtin;refine fA rfl (.tmp 16) (.tmp 18) rfl W0.heap.size _ rfl H1.out mb mof mc zs rfl HN.out ?hc ?hbase ?hrest)
 case hbase=>simp
 case hc=>
  intro i hi
  rw[World.cell?_alloc_past _ _ _ (by omega),B0.out.cell (p:=⟨mb,mof+i,none⟩) hmb]
  exact HMC.out i hi
 case hrest=>
  intro g cap w2 hown hgr hat hlt
  have b2:Below W0.heap.size W0 w2:=(aA (Below.refl _ _) (.cells #[] 3)).trans ((Below.refl W0.heap.size (W0.alloc (.cells #[] 3))).grown hgr (by simp) (fun k hk=>by simp[Value.ownBlock] at hk;omega))
  have HO2:Hid (OwnI w2 W0.heap.size (.slice (some ⟨g,0,none⟩) 512 cap) zs):=by
   show OwnI _ _ _ _
   unfold OwnI
   rw[HN.out]
   exact hown
  have hg0:W0.heap.size≤g:=(hown.lt g rfl).1
  clear m0 m1 s0
  replace X0:=X0.keep b2
  replace X1:=X1.keep b2
  replace X2:=X2.keep b2
  replace X3:=X3.keep b2
  replace X4:=X4.keep b2
  replace X5:=X5.keep b2
  have B2:Hid (Below w.heap.size w w2):=aB B0.out b2
  clear hown hgr hat b2 B0 H1 HMC hmb
  obtain⟨m0,m1,s0⟩:=X0.one
  obtain⟨c0,c1,c2,c3,c4⟩:=X2.blk.five
  have s2:=X2.lt
  have z2:w.heap.size+1+1<w2.heap.size+1:=by omega
  go_wp2
  have XM:Box ((w2.setCell ⟨w.heap.size,0,none⟩ (.slice (some ⟨g,0,none⟩) 512 cap)).alloc (.cells zT 40)) w.heap.size 24 #[.slice (some ⟨g,0,none⟩) 512 cap]:=(X0.set1 _).past _
  have XT:=Box.newAt (w:=w2.setCell ⟨w.heap.size,0,none⟩ (.slice (some ⟨g,0,none⟩) 512 cap)) (n:=w2.heap.size) (by simp[World.setCell]) 40 zT
  have K0:KeptB (fun q=>q=w.heap.size) w2 ((w2.setCell ⟨w.heap.size,0,none⟩ (.slice (some ⟨g,0,none⟩) 512 cap)).alloc (.cells zT 40)):=((KeptB.refl (fun q=>q=w.heap.size) w2).setCell (p:=⟨w.heap.size,0,none⟩) (.inl rfl) _).alloc _
  replace X1:=X1.kept K0 (by omega)
  replace X2:=X2.kept K0 (by omega)
  replace X3:=X3.kept K0 (by omega)
  replace X4:=X4.kept K0 (by omega)
  replace X5:=X5.kept K0 (by omega)
  have HOW:Hid (OwnI ((w2.setCell ⟨w.heap.size,0,none⟩ (.slice (some ⟨g,0,none⟩) 512 cap)).alloc (.cells zT 40)) W0.heap.size (.slice (some ⟨g,0,none⟩) 512 cap) zs):=HO2.out.kept K0 (fun q hq e=>by have:=HO2.out.base q hq;omega)
  have BW:Hid (Below w.heap.size w ((w2.setCell ⟨w.heap.size,0,none⟩ (.slice (some ⟨g,0,none⟩) 512 cap)).alloc (.cells zT 40))):=aA (aI (p:=⟨w.heap.size,0,none⟩) (Nat.le_refl _) B2.out _) _
  have HLW:Hid (Ls ((w2.setCell ⟨w.heap.size,0,none⟩ (.slice (some ⟨g,0,none⟩) 512 cap)).alloc (.cells zT 40)) (.slice va l.length vk) l):=HS.out.keep BW.out
  have HDW:Hid (Sl ((w2.setCell ⟨w.heap.size,0,none⟩ (.slice (some ⟨g,0,none⟩) 512 cap)).alloc (.cells zT 40)) (.slice da ds.length dc) ds):=HD.out.keep BW.out
  have HDB:Hid (ds=[]∨∀q,(Value.slice da ds.length dc).ownBlock=some q→q<w.heap.size):=HD.out.block
  have HLB:Hid (l=[]∨∀q,(Value.slice va l.length vk).ownBlock=some q→q<w.heap.size):=HS.out.inB
  obtain⟨A0,hA0⟩:∃A:Nat→Prop,A=fun q=>l≠[]∧(Value.slice va l.length vk).ownBlock=some q:=⟨_,rfl⟩
  have HA0:Hid (∀q,A0 q↔l≠[]∧(Value.slice va l.length vk).ownBlock=some q):=fun q=>by rw[hA0]
  clear hA0
  have FG:Hid (Fresh w.heap.size (.slice (some ⟨g,0,none⟩) 512 cap)):=bJ (by omega) _ _ _
  have hgT:g<w2.heap.size:=hlt
  clear m0 m1 s0 c0 c1 c2 c3 c4 s2 z2 X0 K0 HO2 B2 HS HD HM hlt
  generalize ((w2.setCell ⟨w.heap.size,0,none⟩ (.slice (some ⟨g,0,none⟩) 512 cap)).alloc (.cells zT 40))=W at *
  generalize w2.heap.size=T at *
  have hTW:T<W.heap.size:=XT.lt
  have HR0:Hid (RelA A0 w.heap.size g T W.heap.size d fw ds o cnt mo ba op oh ot fe fp fh ft st lo R W cap W0.heap.size 0 0 (-1) W):=by
   refine⟨zs,l,[],[],va,vk,.slice none 0 0,.slice none 0 0,HOW.out,X1,HLW.out,XT,OwnI.nothing _ _,OwnT.nothing _ _,HRW.out,HZ.out,by simp,rfl,by omega,rfl,?_,KeptB.refl _ _⟩
   by_cases hl0:l=[]
   ·exact .inl hl0
   refine HLB.out.imp id fun h q hq=>?_
   have:=h q hq
   exact⟨by omega,by omega,by omega,by simp[Value.ownBlock],by simp[Value.ownBlock],.inl ((HA0.out q).2 ⟨hl0,hq⟩)⟩
  clear HOW X1 HLW XT HRW HZ HLB
  go_loopw [10,11,12,13,14,15,23] (fun s10 s11 _ _ _ _ s23 wx=>∃(i:Nat) (k pg:Int),i≤cnt∧s23=J i∧s10=J k∧s11=J pg∧RelA A0 w.heap.size g T W.heap.size d fw ds o cnt mo ba op oh ot fe fp fh ft st lo R W cap W0.heap.size i k pg wx) (fun _ _ _ _ _ _ s23 _=>cnt-(intOf s23).toNat)
  case atStart=>exact⟨0,0,-1,Nat.zero_le _,rfl,rfl,rfl,HR0.out⟩
  case round=>
   clear HR0
   obtain⟨i,k,pg,hi,rfl,rfl,rfl,zj,lj,dat,tch,va,vk,vd,vt,hO,XB,hL,XT,hOI,hOT,hRun,hGood,hdl,htl,hk,hpg,hlb,hKB⟩:=hrel
   obtain⟨da',dc',rfl⟩:=hOI.shape
   obtain⟨ta',tc',rfl⟩:=hOT.shape
   have HO:Hid (OwnI wr _ _ zj):=hO
   have HL:Hid (Ls wr _ lj):=hL
   have HOI:Hid (OwnI wr W.heap.size _ dat):=hOI
   have HOT:Hid (OwnT wr W.heap.size _ tch):=hOT
   have HRun:Hid (_=R):=hRun
   have HG:Hid (GoodS _):=hGood
   have HK:Hid (0≤k∧k≤63):=hk
   have HPG:Hid (pg=_):=hpg
   have HLB:Hid _:=hlb
   have HKB:Hid (KeptB _ W wr):=hKB
   have HZL:Hid (zj.length=512):=(bF hGood.1).1
   have XAr:=X2.kept hKB (by rintro (h|h|h) <;> omega)
   have XMr:=XM.kept hKB (by rintro (h|h|h) <;> omega)
   have X3r:=X3.kept hKB (by rintro (h|h|h) <;> omega)
   have X4r:=X4.kept hKB (by rintro (h|h|h) <;> omega)
   have X5r:=X5.kept hKB (by rintro (h|h|h) <;> omega)
   have hWr:W.heap.size≤wr.heap.size:=hKB.size
   have HTL:Hid (tch.length=i):=htl
   have htl2:tch.length≤20:=by omega
   clear hO hL hOI hOT hRun hGood hk hpg hlb hKB htl
   by_cases hlt:i<cnt
   ·have hlt1:(i:Int)<(cnt:Int):=by omega
    obtain⟨y,hy⟩:∃y:Nat,(o:Int)+(i:Int)=y:=⟨o+i,by omega⟩
    have HY:Hid (o+i=y):=by show _=_;omega
    have hy5:y<512:=by omega
    obtain⟨pn,hpn⟩:∃pn:Nat,(y:Int)/8=pn:=⟨y/8,by omega⟩
    have HPN:Hid (y/8=pn):=by show _=_;omega
    obtain⟨c0,c1,c2,c3,c4⟩:=XAr.blk.five
    have sA:=XAr.lt
    go_upto_if 33 with fail
    go_cut [10,11,14] from 33 to 68 (fun s10 s11 _ wx=>∃k2:Int,s10=J k2∧s11=J pn∧RelB A0 w.heap.size g T W.heap.size d fw ds o cnt mo ba op oh ot fe fp fh ft st lo R W cap W0.heap.size i k2 wx)
    case first=>
     by_cases hps:o+i=o∨(o+i)%8=0
     rotate_left
     ·have htest:((pn:Int) !=pg)=false:=by
       have h0:=HPG.out
       have h1:=HPN.out
       have h2:=HY.out
       rw[if_neg (by omega)] at h0
       simp
       omega
      have hpp:pg=(pn:Int):=by
       have h0:(pn:Int)=pg:=by simpa using htest
       exact h0.symm
      have HREL:Hid (RelB A0 w.heap.size g T W.heap.size d fw ds o cnt mo ba op oh ot fe fp fh ft st lo R W cap W0.heap.size i k wr):=by
       refine⟨zj,lj,dat,tch,va,vk,_,_,HO.out,XB,HL.out,XT,HOI.out,HOT.out,?_,HG.out,hdl,HTL.out,HK.out,HLB.out,HKB.out⟩
       rw[←HRun.out,show cnt-i=(cnt-(i+1))+1 by omega,jZ hps]
      clear c0 c1 c2 c3 c4 sA XAr XMr X3r X4r X5r XB XT
      subst hpp
      go_wp2
      go_meet
      exact⟨k,rfl,rfl,HREL.out⟩
     have htest:((pn:Int) !=pg)=true:=by
      have h0:=HPG.out
      have h1:=HPN.out
      have h2:=HY.out
      simp
      by_cases hi0:i=0
      ·rw[if_pos hi0] at h0;omega
      ·rw[if_neg hi0] at h0;omega
     have HPS:Hid (o+i=o∨(o+i)%8=0):=hps
     clear hps
     have hpg6:0≤(pn:Int)∧(pn:Int)≤63:=by omega
     obtain⟨⟨c,k',f⟩,hg⟩:∃r,goT zj ⟨mo,ba,lj,op,oh,ot,st,fe,fp,fh,ft,lo⟩ d (pn:Int) fw=r:=⟨_,rfl⟩
     have hth:thE zj ⟨mo,ba,lj,op,oh,ot,st,fe,fp,fh,ft,lo⟩ d (pn:Int)=0:=tA HG.out.1 HG.out.2 HDV.out hpg6
     obtain⟨g1,g2,g3,g4,l1,rfl⟩:=lQ hth hg
     have HTH:Hid (thE zj ⟨mo,ba,lj,op,oh,ot,st,fe,fp,fh,ft,lo⟩ d (pn:Int)=0):=hth
     have HGO:Hid (goT zj ⟨mo,ba,lj,op,oh,ot,st,fe,fp,fh,ft,lo⟩ d (pn:Int) fw=(⟨mo,ba,l1,op,oh,ot,st,fe,fp,fh,ft,lo⟩,k',f)):=hg
     have HG1:Hid (chkB ⟨mo,ba,l1,op,oh,ot,st,fe,fp,fh,ft,lo⟩=0):=g1
     have HK2:Hid (0≤k'∧k'≤63):=g3
     have HF:Hid (0≤f∧f≤5):=g4
     clear hg hth g1 g2 g3 g4 hpg6
     obtain⟨m0,m1,sM⟩:=XMr.one
     obtain⟨⟨q0,q1,q2,q3,q4,q5,q6,q7,q8,q9,q10,q11⟩,sB⟩:=XB.twelve
     go_wp2_with fail
     refine (tY (HO.out.sl (by have:=HZL.out;unfold maxLen;omega)) HL.out HTH.out HGO.out).mono ?_
     rintro e w5 ⟨va5,vk5,rfl,hL5,b5,hF5⟩
     clear c0 c1 c2 c3 c4 sA m0 m1 sM q0 q1 q2 q3 q4 q5 q6 q7 q8 q9 q10 q11 sB
     have hW5:W.heap.size≤w5.heap.size:=Nat.le_trans hWr b5.size
     have HLB5:Hid (l1=[]∨∀q,(Value.slice va5 l1.length vk5).ownBlock=some q→¬q=g∧¬q=w.heap.size+1∧¬q=T∧(Value.slice da' dat.length dc').ownBlock≠some q∧(Value.slice ta' tch.length tc').ownBlock≠some q∧(A0 q∨W.heap.size≤q)):=by
      rcases hF5 with he|hn
      ·simp only[Value.slice.injEq] at he
       obtain⟨rfl,hll,rfl⟩:=he
       rcases HLB.out with h0|h0
       ·left;rw[h0] at hll;exact List.eq_nil_of_length_eq_zero hll
       ·right
        rw[hll];exact h0
      ·right
       intro q hq
       have h1:=hn q hq
       refine⟨by have:=HO.out.lt g rfl;omega,by omega,by omega,fun e=>by have:=HOI.out.lt q e;omega,fun e=>by have:=HOT.out.lt q e;omega,.inr (by omega)⟩
     have XA5:=XAr.keep b5
     have XM5:=XMr.keep b5
     have XB5:=XB.keep b5
     have XT5:=XT.keep b5
     have X35:=X3r.keep b5
     have X45:=X4r.keep b5
     have X55:=X5r.keep b5
     have HO5:Hid (OwnI w5 _ _ zj):=HO.out.keep fun q hq=>b5.block q (HO.out.lt q hq)
     have HOI5:Hid (OwnI w5 _ _ dat):=HOI.out.keep fun q hq=>b5.block q (HOI.out.lt q hq)
     have HOT5:Hid (OwnT w5 _ _ tch):=HOT.out.keep fun q hq=>b5.block q (HOT.out.lt q hq)
     have HL5:Hid (Ls w5 _ l1):=hL5
     have HK5:Hid (KeptB _ W w5):=HKB.out.below b5
     clear b5 XAr XMr XB XT X3r X4r X5r HO HOI HOT hL5 hF5 HL HKB HLB
     have K12:KeptB (fun q=>q=w.heap.size+1) w5 ((((((((((((w5.setCell ⟨w.heap.size+1,0,none⟩ (J mo)).setCell ⟨w.heap.size+1,1,none⟩ (J ba)).setCell ⟨w.heap.size+1,2,none⟩ (.slice va5 l1.length vk5)).setCell ⟨w.heap.size+1,3,none⟩ (J op)).setCell ⟨w.heap.size+1,4,none⟩ (J oh)).setCell ⟨w.heap.size+1,5,none⟩ (J ot)).setCell ⟨w.heap.size+1,6,none⟩ (.bool st)).setCell ⟨w.heap.size+1,7,none⟩ (J fe)).setCell ⟨w.heap.size+1,8,none⟩ (J fp)).setCell ⟨w.heap.size+1,9,none⟩ (J fh)).setCell ⟨w.heap.size+1,10,none⟩ (J ft)).setCell ⟨w.heap.size+1,11,none⟩ (.bool lo)):=gB _ _ _ _ _ _ _ _ _ _ _ _
     have XA6:=XA5.kept K12 (by omega)
     have XM6:=XM5.kept K12 (by omega)
     have XT6:=XT5.kept K12 (by omega)
     have X36:=X35.kept K12 (by omega)
     have X46:=X45.kept K12 (by omega)
     have X56:=X55.kept K12 (by omega)
     have XB6:Box ((((((((((((w5.setCell ⟨w.heap.size+1,0,none⟩ (J mo)).setCell ⟨w.heap.size+1,1,none⟩ (J ba)).setCell ⟨w.heap.size+1,2,none⟩ (.slice va5 l1.length vk5)).setCell ⟨w.heap.size+1,3,none⟩ (J op)).setCell ⟨w.heap.size+1,4,none⟩ (J oh)).setCell ⟨w.heap.size+1,5,none⟩ (J ot)).setCell ⟨w.heap.size+1,6,none⟩ (.bool st)).setCell ⟨w.heap.size+1,7,none⟩ (J fe)).setCell ⟨w.heap.size+1,8,none⟩ (J fp)).setCell ⟨w.heap.size+1,9,none⟩ (J fh)).setCell ⟨w.heap.size+1,10,none⟩ (J ft)).setCell ⟨w.heap.size+1,11,none⟩ (.bool lo)) (w.heap.size+1) 31 (rB mo ba (.slice va5 l1.length vk5) op oh ot st fe fp fh ft lo):=XB5.set12 _ _ _ _ _ _ _ _ _ _ _ _
     have HO6:Hid (OwnI ((((((((((((w5.setCell ⟨w.heap.size+1,0,none⟩ (J mo)).setCell ⟨w.heap.size+1,1,none⟩ (J ba)).setCell ⟨w.heap.size+1,2,none⟩ (.slice va5 l1.length vk5)).setCell ⟨w.heap.size+1,3,none⟩ (J op)).setCell ⟨w.heap.size+1,4,none⟩ (J oh)).setCell ⟨w.heap.size+1,5,none⟩ (J ot)).setCell ⟨w.heap.size+1,6,none⟩ (.bool st)).setCell ⟨w.heap.size+1,7,none⟩ (J fe)).setCell ⟨w.heap.size+1,8,none⟩ (J fp)).setCell ⟨w.heap.size+1,9,none⟩ (J fh)).setCell ⟨w.heap.size+1,10,none⟩ (J ft)).setCell ⟨w.heap.size+1,11,none⟩ (.bool lo)) W0.heap.size (.slice (some ⟨g,0,none⟩) 512 cap) zj):=HO5.out.kept K12 (fun q hq e=>by have:=HO5.out.base q hq;omega)
     have HOI6:Hid (OwnI ((((((((((((w5.setCell ⟨w.heap.size+1,0,none⟩ (J mo)).setCell ⟨w.heap.size+1,1,none⟩ (J ba)).setCell ⟨w.heap.size+1,2,none⟩ (.slice va5 l1.length vk5)).setCell ⟨w.heap.size+1,3,none⟩ (J op)).setCell ⟨w.heap.size+1,4,none⟩ (J oh)).setCell ⟨w.heap.size+1,5,none⟩ (J ot)).setCell ⟨w.heap.size+1,6,none⟩ (.bool st)).setCell ⟨w.heap.size+1,7,none⟩ (J fe)).setCell ⟨w.heap.size+1,8,none⟩ (J fp)).setCell ⟨w.heap.size+1,9,none⟩ (J fh)).setCell ⟨w.heap.size+1,10,none⟩ (J ft)).setCell ⟨w.heap.size+1,11,none⟩ (.bool lo)) W.heap.size (.slice da' dat.length dc') dat):=HOI5.out.kept K12 (fun q hq e=>by have:=HOI5.out.base q hq;omega)
     have HOT6:Hid (OwnT ((((((((((((w5.setCell ⟨w.heap.size+1,0,none⟩ (J mo)).setCell ⟨w.heap.size+1,1,none⟩ (J ba)).setCell ⟨w.heap.size+1,2,none⟩ (.slice va5 l1.length vk5)).setCell ⟨w.heap.size+1,3,none⟩ (J op)).setCell ⟨w.heap.size+1,4,none⟩ (J oh)).setCell ⟨w.heap.size+1,5,none⟩ (J ot)).setCell ⟨w.heap.size+1,6,none⟩ (.bool st)).setCell ⟨w.heap.size+1,7,none⟩ (J fe)).setCell ⟨w.heap.size+1,8,none⟩ (J fp)).setCell ⟨w.heap.size+1,9,none⟩ (J fh)).setCell ⟨w.heap.size+1,10,none⟩ (J ft)).setCell ⟨w.heap.size+1,11,none⟩ (.bool lo)) W.heap.size (.slice ta' tch.length tc') tch):=HOT5.out.kept K12 (fun q hq e=>by have:=HOT5.out.base q hq;omega)
     have HL6:Hid (Ls ((((((((((((w5.setCell ⟨w.heap.size+1,0,none⟩ (J mo)).setCell ⟨w.heap.size+1,1,none⟩ (J ba)).setCell ⟨w.heap.size+1,2,none⟩ (.slice va5 l1.length vk5)).setCell ⟨w.heap.size+1,3,none⟩ (J op)).setCell ⟨w.heap.size+1,4,none⟩ (J oh)).setCell ⟨w.heap.size+1,5,none⟩ (J ot)).setCell ⟨w.heap.size+1,6,none⟩ (.bool st)).setCell ⟨w.heap.size+1,7,none⟩ (J fe)).setCell ⟨w.heap.size+1,8,none⟩ (J fp)).setCell ⟨w.heap.size+1,9,none⟩ (J fh)).setCell ⟨w.heap.size+1,10,none⟩ (J ft)).setCell ⟨w.heap.size+1,11,none⟩ (.bool lo)) (.slice va5 l1.length vk5) l1):=HL5.out.keptA K12 (HLB5.out.imp id fun h q hq=>(h q hq).2.1)
     have HK6:Hid (KeptB (fun q=>q=g∨q=w.heap.size+1∨q=T) W ((((((((((((w5.setCell ⟨w.heap.size+1,0,none⟩ (J mo)).setCell ⟨w.heap.size+1,1,none⟩ (J ba)).setCell ⟨w.heap.size+1,2,none⟩ (.slice va5 l1.length vk5)).setCell ⟨w.heap.size+1,3,none⟩ (J op)).setCell ⟨w.heap.size+1,4,none⟩ (J oh)).setCell ⟨w.heap.size+1,5,none⟩ (J ot)).setCell ⟨w.heap.size+1,6,none⟩ (.bool st)).setCell ⟨w.heap.size+1,7,none⟩ (J fe)).setCell ⟨w.heap.size+1,8,none⟩ (J fp)).setCell ⟨w.heap.size+1,9,none⟩ (J fh)).setCell ⟨w.heap.size+1,10,none⟩ (J ft)).setCell ⟨w.heap.size+1,11,none⟩ (.bool lo))):=HK5.out.trans K12 (fun q _ h=>.inr (.inl h))
     clear K12 HO5 HOI5 HOT5 HL5 HK5 XA5 XM5 XT5 X35 X45 X55
     obtain⟨⟨q0,q1,q2,q3,q4,q5,q6,q7,q8,q9,q10,q11⟩,sB⟩:=XB5.twelve
     obtain⟨y0,y1,y2,y3,y4,y5,y6,y7,y8,y9,y10,y11⟩:=XB5.marks
     go_upto_region 12 with fail
     clear q0 q1 q2 q3 q4 q5 q6 q7 q8 q9 q10 q11 sB y0 y1 y2 y3 y4 y5 y6 y7 y8 y9 y10 y11 XB5
     generalize ((((((((((((w5.setCell ⟨w.heap.size+1,0,none⟩ (J mo)).setCell ⟨w.heap.size+1,1,none⟩ (J ba)).setCell ⟨w.heap.size+1,2,none⟩ (.slice va5 l1.length vk5)).setCell ⟨w.heap.size+1,3,none⟩ (J op)).setCell ⟨w.heap.size+1,4,none⟩ (J oh)).setCell ⟨w.heap.size+1,5,none⟩ (J ot)).setCell ⟨w.heap.size+1,6,none⟩ (.bool st)).setCell ⟨w.heap.size+1,7,none⟩ (J fe)).setCell ⟨w.heap.size+1,8,none⟩ (J fp)).setCell ⟨w.heap.size+1,9,none⟩ (J fh)).setCell ⟨w.heap.size+1,10,none⟩ (J ft)).setCell ⟨w.heap.size+1,11,none⟩ (.bool lo))=w6 at *
     by_cases hf:f=0
     ·subst hf
      have HREL:Hid (RelB A0 w.heap.size g T W.heap.size d fw ds o cnt mo ba op oh ot fe fp fh ft st lo R W cap W0.heap.size i k' w6):=by
       refine⟨zj,l1,dat,tch,va5,vk5,_,_,HO6.out,XB6,HL6.out,XT6,HOI6.out,HOT6.out,?_,⟨HG.out.1,HG1.out⟩,hdl,HTL.out,HK2.out,HLB5.out,HK6.out⟩
       have h0:=jY (d:=d) (wr:=fw) (ds:=ds) (o:=o) (m:=cnt-(i+1)) (x:=o+i) (k:=k) (k':=k') (s:=⟨zj,⟨mo,ba,lj,op,oh,ot,st,fe,fp,fh,ft,lo⟩,dat,tch⟩) (c:=⟨mo,ba,l1,op,oh,ot,st,fe,fp,fh,ft,lo⟩) HPS.out (by rw[HY.out,HPN.out];exact HGO.out)
       rw[←HRun.out,show cnt-i=(cnt-(i+1))+1 by omega,h0]
      clear XA6 XM6 XT6 X36 X46 X56 XB6
      go_wp2
      go_meet
      exact⟨k',rfl,rfl,HREL.out⟩
     ·have hpg6:0≤(pn:Int)∧(pn:Int)≤63:=by omega
      have HTE:Hid (tlE zj ⟨mo,ba,l1,op,oh,ot,st,fe,fp,fh,ft,lo⟩ f d (pn:Int)=0):=by
       show _=_
       rw[tlE,if_pos (dW HG.out.1 HG1.out),fE,if_pos ⟨by have:=HF.out;omega,HDV.out,hpg6⟩]
      obtain⟨ms,hms⟩:∃ms,tlM zj ⟨mo,ba,l1,op,oh,ot,st,fe,fp,fh,ft,lo⟩ f d (pn:Int) fw=ms:=⟨_,rfl⟩
      obtain⟨⟨mo2,ba2,l2,op2,oh2,ot2,st2,fe2,fp2,fh2,ft2,lo2⟩,hBB⟩:∃BB,tlB zj ⟨mo,ba,l1,op,oh,ot,st,fe,fp,fh,ft,lo⟩ f d (pn:Int)=BB:=⟨_,rfl⟩
      have HRR:Hid (R=(⟨ms,⟨mo2,ba2,l2,op2,oh2,ot2,st2,fe2,fp2,fh2,ft2,lo2⟩,dat,tch⟩,f)):=by
       show _=_
       have h0:=iJ (d:=d) (wr:=fw) (ds:=ds) (o:=o) (m:=cnt-(i+1)) (x:=o+i) (k:=k) (s:=⟨zj,⟨mo,ba,lj,op,oh,ot,st,fe,fp,fh,ft,lo⟩,dat,tch⟩) (c:=⟨mo,ba,l1,op,oh,ot,st,fe,fp,fh,ft,lo⟩) (k':=k') (f:=f) HPS.out (by rw[HY.out,HPN.out];exact HGO.out) hf
       rw[←HRun.out,show cnt-i=(cnt-(i+1))+1 by omega,h0]
       simp only[HY.out,HPN.out,hms,hBB]
      have HML:Hid (ms.length=512):=by show _=_;rw[←hms];exact (bF (uW fw HTE.out).1).1
      have HMS:Hid (_=ms):=hms
      have HBB:Hid (_=_):=hBB
      have HBO:Hid (bothB zj ⟨mo,ba,l1,op,oh,ot,st,fe,fp,fh,ft,lo⟩=0):=dW HG.out.1 HG1.out
      have hfq:(f !=0)=true:=by simpa using hf
      clear hms hBB hpg6
      obtain⟨c0,c1,c2,c3,c4⟩:=XA6.blk.five
      have sA:=XA6.lt
      obtain⟨m0,m1,sM⟩:=XM6.one
      obtain⟨⟨q0,q1,q2,q3,q4,q5,q6,q7,q8,q9,q10,q11⟩,sB⟩:=XB6.twelve
      go_wp2_with fail
      refine (toldOf_atS (HO6.out.sl (by have:=HZL.out;unfold maxLen;omega)) HL6.out HBO.out HTE.out HBB.out HMS.out).mono ?_
      rintro e w8 ⟨ma8,mc8,va2,vk2,rfl,p8,q8,hS8,hL8,b8⟩
      have hw6:w.heap.size≤w6.heap.size:=Nat.le_trans BW.out.size HK6.out.size
      have FM8:Hid (Fresh w.heap.size (.slice ma8 ms.length mc8)):=by
       rcases p8 with e|e
       ·rw[e];exact FG.out
       ·exact e.mono hw6
      have FL8:Hid (l2=[]∨∀q,(Value.slice va2 l2.length vk2).ownBlock=some q→A0 q∨w.heap.size≤q):=by
       rcases q8 with e|e
       ·simp only[Value.slice.injEq] at e
        obtain⟨rfl,hll,rfl⟩:=e
        rcases HLB5.out with h0|h0
        ·left;rw[h0] at hll;exact List.eq_nil_of_length_eq_zero hll
        ·right
         intro q hq
         rw[hll] at hq
         exact (h0 q hq).2.2.2.2.2.imp id (fun h=>Nat.le_trans BW.out.size h)
       ·right
        exact fun q hq=>.inr (Nat.le_trans hw6 (e q hq))
      clear p8 q8 hw6
      clear c0 c1 c2 c3 c4 sA m0 m1 sM q0 q1 q2 q3 q4 q5 q6 q7 q8 q9 q10 q11 sB
      have hW6:W.heap.size≤w6.heap.size:=HK6.out.size
      have B8:Hid (Below w.heap.size w w8):=(BW.out.trans (HK6.out.low (B:=w.heap.size) (by omega) (by rintro q hq (h|h|h) <;> omega))).trans (b8.mono (by omega))
      have XT8:=XT6.keep b8
      have XM8:=XM6.keep b8
      have XB8:=XB6.keep b8
      have X38:=X36.keep b8
      have X48:=X46.keep b8
      have X58:=X56.keep b8
      have HI8:Hid (OwnI w8 _ _ dat):=HOI6.out.keep fun q hq=>b8.block q (HOI6.out.lt q hq)
      have HT8:Hid (OwnT w8 _ _ tch):=HOT6.out.keep fun q hq=>b8.block q (HOT6.out.lt q hq)
      have HS8:Hid (Sl w8 _ ms):=hS8
      have HL8:Hid (Ls w8 _ l2):=hL8
      have HSa:=hS8.big HML.out XM8 (by simp)
      have HSb:=hS8.big HML.out XB8 (by simp)
      have HSc:=hS8.big HML.out XT8 (by simp)
      have HLa:=hL8.apart1 XM8
      have HLb:=hL8.apart XB8
      have HLc:=hL8.apart4 XT8
      clear b8 hS8 hL8 XT6 XM6 XB6 X36 X46 X56 HOI6 HOT6 HO6 HL6 HK6 HTE HBB HMS XA6
      have K9:KeptB (fun q=>q=w.heap.size∨q=w.heap.size+1∨q=T) w8 ((((((((((((((w8.setCell ⟨w.heap.size,0,none⟩ (.slice ma8 ms.length mc8)).setCell ⟨w.heap.size+1,0,none⟩ (J mo2)).setCell ⟨w.heap.size+1,1,none⟩ (J ba2)).setCell ⟨w.heap.size+1,2,none⟩ (.slice va2 l2.length vk2)).setCell ⟨w.heap.size+1,3,none⟩ (J op2)).setCell ⟨w.heap.size+1,4,none⟩ (J oh2)).setCell ⟨w.heap.size+1,5,none⟩ (J ot2)).setCell ⟨w.heap.size+1,6,none⟩ (.bool st2)).setCell ⟨w.heap.size+1,7,none⟩ (J fe2)).setCell ⟨w.heap.size+1,8,none⟩ (J fp2)).setCell ⟨w.heap.size+1,9,none⟩ (J fh2)).setCell ⟨w.heap.size+1,10,none⟩ (J ft2)).setCell ⟨w.heap.size+1,11,none⟩ (.bool lo2)).setCell ⟨T,2,none⟩ (J f)):=(((KeptB.refl (fun q=>q=w.heap.size∨q=w.heap.size+1∨q=T) w8).setCell (p:=⟨w.heap.size,0,none⟩) (.inl (.inl rfl)) _).trans (gB _ _ _ _ _ _ _ _ _ _ _ _) (fun q _ h=>.inr (.inl h))).setCell (p:=⟨T,2,none⟩) (.inl (.inr (.inr rfl))) _
      have XM9:Box ((((((((((((((w8.setCell ⟨w.heap.size,0,none⟩ (.slice ma8 ms.length mc8)).setCell ⟨w.heap.size+1,0,none⟩ (J mo2)).setCell ⟨w.heap.size+1,1,none⟩ (J ba2)).setCell ⟨w.heap.size+1,2,none⟩ (.slice va2 l2.length vk2)).setCell ⟨w.heap.size+1,3,none⟩ (J op2)).setCell ⟨w.heap.size+1,4,none⟩ (J oh2)).setCell ⟨w.heap.size+1,5,none⟩ (J ot2)).setCell ⟨w.heap.size+1,6,none⟩ (.bool st2)).setCell ⟨w.heap.size+1,7,none⟩ (J fe2)).setCell ⟨w.heap.size+1,8,none⟩ (J fp2)).setCell ⟨w.heap.size+1,9,none⟩ (J fh2)).setCell ⟨w.heap.size+1,10,none⟩ (J ft2)).setCell ⟨w.heap.size+1,11,none⟩ (.bool lo2)).setCell ⟨T,2,none⟩ (J f)) w.heap.size 24 #[.slice ma8 ms.length mc8]:=((XM8.set1 _).other12 (by omega) _ _ _ _ _ _ _ _ _ _ _ _).other (p:=⟨T,2,none⟩) (by dsimp only;omega) _
      have XB9:Box ((((((((((((((w8.setCell ⟨w.heap.size,0,none⟩ (.slice ma8 ms.length mc8)).setCell ⟨w.heap.size+1,0,none⟩ (J mo2)).setCell ⟨w.heap.size+1,1,none⟩ (J ba2)).setCell ⟨w.heap.size+1,2,none⟩ (.slice va2 l2.length vk2)).setCell ⟨w.heap.size+1,3,none⟩ (J op2)).setCell ⟨w.heap.size+1,4,none⟩ (J oh2)).setCell ⟨w.heap.size+1,5,none⟩ (J ot2)).setCell ⟨w.heap.size+1,6,none⟩ (.bool st2)).setCell ⟨w.heap.size+1,7,none⟩ (J fe2)).setCell ⟨w.heap.size+1,8,none⟩ (J fp2)).setCell ⟨w.heap.size+1,9,none⟩ (J fh2)).setCell ⟨w.heap.size+1,10,none⟩ (J ft2)).setCell ⟨w.heap.size+1,11,none⟩ (.bool lo2)).setCell ⟨T,2,none⟩ (J f)) (w.heap.size+1) 31 (rB mo2 ba2 (.slice va2 l2.length vk2) op2 oh2 ot2 st2 fe2 fp2 fh2 ft2 lo2):=((XB8.other (p:=⟨w.heap.size,0,none⟩) (by dsimp only;omega) _).set12 _ _ _ _ _ _ _ _ _ _ _ _).other (p:=⟨T,2,none⟩) (by dsimp only;omega) _
      have XT9:Box ((((((((((((((w8.setCell ⟨w.heap.size,0,none⟩ (.slice ma8 ms.length mc8)).setCell ⟨w.heap.size+1,0,none⟩ (J mo2)).setCell ⟨w.heap.size+1,1,none⟩ (J ba2)).setCell ⟨w.heap.size+1,2,none⟩ (.slice va2 l2.length vk2)).setCell ⟨w.heap.size+1,3,none⟩ (J op2)).setCell ⟨w.heap.size+1,4,none⟩ (J oh2)).setCell ⟨w.heap.size+1,5,none⟩ (J ot2)).setCell ⟨w.heap.size+1,6,none⟩ (.bool st2)).setCell ⟨w.heap.size+1,7,none⟩ (J fe2)).setCell ⟨w.heap.size+1,8,none⟩ (J fp2)).setCell ⟨w.heap.size+1,9,none⟩ (J fh2)).setCell ⟨w.heap.size+1,10,none⟩ (J ft2)).setCell ⟨w.heap.size+1,11,none⟩ (.bool lo2)).setCell ⟨T,2,none⟩ (J f)) T 40 #[.bool false,.slice da' dat.length dc',J f,.slice ta' tch.length tc']:=((XT8.other (p:=⟨w.heap.size,0,none⟩) (by dsimp only;omega) _).other12 (by omega) _ _ _ _ _ _ _ _ _ _ _ _).set 2 _
      have X39:=X38.kept K9 (by omega)
      have X49:=X48.kept K9 (by omega)
      have X59:=X58.kept K9 (by omega)
      have HS9:Hid (Sl ((((((((((((((w8.setCell ⟨w.heap.size,0,none⟩ (.slice ma8 ms.length mc8)).setCell ⟨w.heap.size+1,0,none⟩ (J mo2)).setCell ⟨w.heap.size+1,1,none⟩ (J ba2)).setCell ⟨w.heap.size+1,2,none⟩ (.slice va2 l2.length vk2)).setCell ⟨w.heap.size+1,3,none⟩ (J op2)).setCell ⟨w.heap.size+1,4,none⟩ (J oh2)).setCell ⟨w.heap.size+1,5,none⟩ (J ot2)).setCell ⟨w.heap.size+1,6,none⟩ (.bool st2)).setCell ⟨w.heap.size+1,7,none⟩ (J fe2)).setCell ⟨w.heap.size+1,8,none⟩ (J fp2)).setCell ⟨w.heap.size+1,9,none⟩ (J fh2)).setCell ⟨w.heap.size+1,10,none⟩ (J ft2)).setCell ⟨w.heap.size+1,11,none⟩ (.bool lo2)).setCell ⟨T,2,none⟩ (J f)) (.slice ma8 ms.length mc8) ms):=HS8.out.kept K9 (by rintro q hq (h|h|h);exact HSa q hq h;exact HSb q hq h;exact HSc q hq h)
      have HL9:Hid (Ls ((((((((((((((w8.setCell ⟨w.heap.size,0,none⟩ (.slice ma8 ms.length mc8)).setCell ⟨w.heap.size+1,0,none⟩ (J mo2)).setCell ⟨w.heap.size+1,1,none⟩ (J ba2)).setCell ⟨w.heap.size+1,2,none⟩ (.slice va2 l2.length vk2)).setCell ⟨w.heap.size+1,3,none⟩ (J op2)).setCell ⟨w.heap.size+1,4,none⟩ (J oh2)).setCell ⟨w.heap.size+1,5,none⟩ (J ot2)).setCell ⟨w.heap.size+1,6,none⟩ (.bool st2)).setCell ⟨w.heap.size+1,7,none⟩ (J fe2)).setCell ⟨w.heap.size+1,8,none⟩ (J fp2)).setCell ⟨w.heap.size+1,9,none⟩ (J fh2)).setCell ⟨w.heap.size+1,10,none⟩ (J ft2)).setCell ⟨w.heap.size+1,11,none⟩ (.bool lo2)).setCell ⟨T,2,none⟩ (J f)) (.slice va2 l2.length vk2) l2):=((HL8.out.putAt HLa 0 _).put12 HLb _ _ _ _ _ _ _ _ _ _ _ _).putAt HLc 2 _
      have HI9:Hid (OwnI ((((((((((((((w8.setCell ⟨w.heap.size,0,none⟩ (.slice ma8 ms.length mc8)).setCell ⟨w.heap.size+1,0,none⟩ (J mo2)).setCell ⟨w.heap.size+1,1,none⟩ (J ba2)).setCell ⟨w.heap.size+1,2,none⟩ (.slice va2 l2.length vk2)).setCell ⟨w.heap.size+1,3,none⟩ (J op2)).setCell ⟨w.heap.size+1,4,none⟩ (J oh2)).setCell ⟨w.heap.size+1,5,none⟩ (J ot2)).setCell ⟨w.heap.size+1,6,none⟩ (.bool st2)).setCell ⟨w.heap.size+1,7,none⟩ (J fe2)).setCell ⟨w.heap.size+1,8,none⟩ (J fp2)).setCell ⟨w.heap.size+1,9,none⟩ (J fh2)).setCell ⟨w.heap.size+1,10,none⟩ (J ft2)).setCell ⟨w.heap.size+1,11,none⟩ (.bool lo2)).setCell ⟨T,2,none⟩ (J f)) W.heap.size (.slice da' dat.length dc') dat):=HI8.out.kept K9 (fun q hq=>by have:=HI8.out.base q hq;omega)
      have HT9:Hid (OwnT ((((((((((((((w8.setCell ⟨w.heap.size,0,none⟩ (.slice ma8 ms.length mc8)).setCell ⟨w.heap.size+1,0,none⟩ (J mo2)).setCell ⟨w.heap.size+1,1,none⟩ (J ba2)).setCell ⟨w.heap.size+1,2,none⟩ (.slice va2 l2.length vk2)).setCell ⟨w.heap.size+1,3,none⟩ (J op2)).setCell ⟨w.heap.size+1,4,none⟩ (J oh2)).setCell ⟨w.heap.size+1,5,none⟩ (J ot2)).setCell ⟨w.heap.size+1,6,none⟩ (.bool st2)).setCell ⟨w.heap.size+1,7,none⟩ (J fe2)).setCell ⟨w.heap.size+1,8,none⟩ (J fp2)).setCell ⟨w.heap.size+1,9,none⟩ (J fh2)).setCell ⟨w.heap.size+1,10,none⟩ (J ft2)).setCell ⟨w.heap.size+1,11,none⟩ (.bool lo2)).setCell ⟨T,2,none⟩ (J f)) W.heap.size (.slice ta' tch.length tc') tch):=HT8.out.kept K9 (fun q hq=>by have:=HT8.out.base q hq;omega)
      have B9:Hid (Below w.heap.size w ((((((((((((((w8.setCell ⟨w.heap.size,0,none⟩ (.slice ma8 ms.length mc8)).setCell ⟨w.heap.size+1,0,none⟩ (J mo2)).setCell ⟨w.heap.size+1,1,none⟩ (J ba2)).setCell ⟨w.heap.size+1,2,none⟩ (.slice va2 l2.length vk2)).setCell ⟨w.heap.size+1,3,none⟩ (J op2)).setCell ⟨w.heap.size+1,4,none⟩ (J oh2)).setCell ⟨w.heap.size+1,5,none⟩ (J ot2)).setCell ⟨w.heap.size+1,6,none⟩ (.bool st2)).setCell ⟨w.heap.size+1,7,none⟩ (J fe2)).setCell ⟨w.heap.size+1,8,none⟩ (J fp2)).setCell ⟨w.heap.size+1,9,none⟩ (J fh2)).setCell ⟨w.heap.size+1,10,none⟩ (J ft2)).setCell ⟨w.heap.size+1,11,none⟩ (.bool lo2)).setCell ⟨T,2,none⟩ (J f))):=aI (p:=⟨T,2,none⟩) (by dsimp only;omega) (aJ (by omega) (aI (p:=⟨w.heap.size,0,none⟩) (Nat.le_refl _) B8.out _) _ _ _ _ _ _ _ _ _ _ _ _) _
      obtain⟨m0,m1,sM⟩:=XM8.one
      obtain⟨⟨q0,q1,q2,q3,q4,q5,q6,q7,q8,q9,q10,q11⟩,sB⟩:=XB8.twelve
      obtain⟨y0,y1,y2,y3,y4,y5,y6,y7,y8,y9,y10,y11⟩:=XB8.marks
      obtain⟨t0,t1,t2,t3,f0,f1,f2,f3,sT⟩:=XT8.four
      have nA:¬w.heap.size=w.heap.size+1:=by omega
      have nB:¬w.heap.size+1=T:=by omega
      have nC:¬w.heap.size=T:=by omega
      go_upto_region 15 with fail
      clear m0 m1 sM q0 q1 q2 q3 q4 q5 q6 q7 q8 q9 q10 q11 sB y0 y1 y2 y3 y4 y5 y6 y7 y8 y9 y10 y11 t0 t1 t2 t3 f0 f1 f2 f3 sT K9 XT8 XM8 XB8 X38 X48 X58 HI8 HT8 HS8 HL8 B8 HSa HSb HSc HLa HLb HLc nA nB nC
      generalize ((((((((((((((w8.setCell ⟨w.heap.size,0,none⟩ (.slice ma8 ms.length mc8)).setCell ⟨w.heap.size+1,0,none⟩ (J mo2)).setCell ⟨w.heap.size+1,1,none⟩ (J ba2)).setCell ⟨w.heap.size+1,2,none⟩ (.slice va2 l2.length vk2)).setCell ⟨w.heap.size+1,3,none⟩ (J op2)).setCell ⟨w.heap.size+1,4,none⟩ (J oh2)).setCell ⟨w.heap.size+1,5,none⟩ (J ot2)).setCell ⟨w.heap.size+1,6,none⟩ (.bool st2)).setCell ⟨w.heap.size+1,7,none⟩ (J fe2)).setCell ⟨w.heap.size+1,8,none⟩ (J fp2)).setCell ⟨w.heap.size+1,9,none⟩ (J fh2)).setCell ⟨w.heap.size+1,10,none⟩ (J ft2)).setCell ⟨w.heap.size+1,11,none⟩ (.bool lo2)).setCell ⟨T,2,none⟩ (J f))=w9 at *
      obtain⟨m0,m1,sM⟩:=XM9.one
      obtain⟨⟨q0,q1,q2,q3,q4,q5,q6,q7,q8,q9,q10,q11⟩,sB⟩:=XB9.twelve
      obtain⟨t0,t1,t2,t3,f0,f1,f2,f3,sT⟩:=XT9.four
      obtain⟨r0,r1,s3⟩:=X39.one
      obtain⟨⟨u0,u1,u2,u3,u4,u5,u6,u7,u8,u9,u10,u11⟩,s4⟩:=X49.twelve
      obtain⟨y0,y1,y2,y3,y4,y5,y6,y7,y8,y9,y10,y11⟩:=X49.marks
      obtain⟨v0,v1,v2,v3,x0,x1,x2,x3,s5⟩:=X59.four
      have HL9B:Hid (Apart (.slice va2 l2.length vk2) l2 (w.heap.size+1+1+1)):=HL9.out.apart1 X39
      have HL9C:Hid (Apart (.slice va2 l2.length vk2) l2 (w.heap.size+1+1+1+1)):=HL9.out.apart X49
      have HL9D:Hid (Apart (.slice va2 l2.length vk2) l2 (w.heap.size+1+1+1+1+1)):=HL9.out.apart4 X59
      have HS9B:Hid (∀q,((.slice ma8 ms.length mc8:Value)).ownBlock=some q→¬(q=w.heap.size+1+1+1∨q=w.heap.size+1+1+1+1∨q=w.heap.size+1+1+1+1+1)):=by
       rintro q hq (h|h|h)
       ·exact HS9.out.big HML.out X39 (by simp) q hq h
       ·exact HS9.out.big HML.out X49 (by simp) q hq h
       ·exact HS9.out.big HML.out X59 (by simp) q hq h
      clear XM9 XB9 XT9 X39 X49 X59
      have n34:¬w.heap.size+1+1+1=w.heap.size+1:=by omega
      have n35:¬w.heap.size+1+1+1+1=w.heap.size+1:=by omega
      have n36:¬w.heap.size+1+1+1+1+1=w.heap.size+1:=by omega
      have n37:¬w.heap.size+1+1+1=w.heap.size:=by omega
      have n38:¬w.heap.size+1+1+1+1=w.heap.size:=by omega
      have n39:¬w.heap.size+1+1+1+1+1=w.heap.size:=by omega
      have n40:¬w.heap.size+1+1+1=T:=by omega
      have n41:¬w.heap.size+1+1+1+1=T:=by omega
      have n42:¬w.heap.size+1+1+1+1+1=T:=by omega
      go_region
      all_goals
       go_wp2
       refine bodyPost_ret (v:=.tuple #[.agg #[.slice ma8 ms.length mc8],.agg (rB mo2 ba2 (.slice va2 l2.length vk2) op2 oh2 ot2 st2 fe2 fp2 fh2 ft2 lo2),.agg #[.bool false,.slice da' dat.length dc',J f,.slice ta' tch.length tc']]) (by simp[results,Tryz.results52,go_sem, *]) rfl ⟨_,_,_,_,_,_,_,_,_,_,_,_,_,_,_,_,l2,_,_,_,_,dat,tch,ms,f,by rw[decide_eq_false hf],HR.out.trans HRR.out,FM8.out,FL8.out.imp id (fun h q hq=>(h q hq).imp (HA0.out q).1 id),?_,?_,?_,?_,fun q hq=>by have:=HI9.out.base q hq;omega,fun q hq=>by have:=HT9.out.base q hq;omega,?_⟩
       ·refine HS9.out.kept (may:=fun q=>q=w.heap.size+1+1+1∨q=w.heap.size+1+1+1+1∨q=w.heap.size+1+1+1+1+1) ?_ HS9B.out
        (repeat (first|with_reducible exact KeptB.refl _ _|with_reducible refine KeptB.drew ?_|(with_reducible refine KeptB.setCell ?_ ?_ _;rotate_left;(focus (dsimp only;omega)))))
       ·(repeat (first|with_reducible exact HL9.out|with_reducible refine Ls.drew ?_|with_reducible refine Ls.put12 ?_ HL9C.out _ _ _ _ _ _ _ _ _ _ _ _|with_reducible refine Ls.putAt ?_ HL9B.out _ _|with_reducible refine Ls.putAt ?_ HL9D.out _ _))
       ·refine (HI9.out.sl (by unfold maxLen;omega)).kept (may:=fun q=>q=w.heap.size+1+1+1∨q=w.heap.size+1+1+1+1∨q=w.heap.size+1+1+1+1+1) ?_ (fun q hq=>by have:=HI9.out.base q hq;omega)
        (repeat (first|with_reducible exact KeptB.refl _ _|with_reducible refine KeptB.drew ?_|(with_reducible refine KeptB.setCell ?_ ?_ _;rotate_left;(focus (dsimp only;omega)))))
       ·refine HT9.out.ls.kept (may:=fun q=>q=w.heap.size+1+1+1∨q=w.heap.size+1+1+1+1∨q=w.heap.size+1+1+1+1+1) ?_ (fun q hq=>by have:=HT9.out.base q hq;omega)
        (repeat (first|with_reducible exact KeptB.refl _ _|with_reducible refine KeptB.drew ?_|(with_reducible refine KeptB.setCell ?_ ?_ _;rotate_left;(focus (dsimp only;omega)))))
       ·(repeat (first|with_reducible exact B9.out|with_reducible refine Below.drew ?_|(with_reducible refine aJ ?_ ?_ _ _ _ _ _ _ _ _ _ _ _ _;(focus omega))|(with_reducible refine aI ?_ ?_ _;(focus (dsimp only;omega)))))
    case rest=>
     clear HO HL HOI HOT HRun HG HKB HLB HPG XB XT XAr XMr X3r X4r X5r c0 c1 c2 c3 c4 sA HTL HZL HK hWr htl2 hdl
     obtain⟨k2,rfl,rfl,zj,lj,dat,tch,va,vk,vd,vt,hO,XB,hL,XT,hOI,hOT,hRun,hGood,hdl,htl,hk,hlb,hKB⟩:=hcut
     obtain⟨wB,rfl⟩:∃wB,wB=wc:=⟨wc,rfl⟩
     obtain⟨da',dc',rfl⟩:=hOI.shape
     obtain⟨ta',tc',rfl⟩:=hOT.shape
     have HO:Hid (OwnI wB W0.heap.size (.slice (some ⟨g,0,none⟩) 512 cap) zj):=hO
     have HL:Hid (Ls wB (.slice va lj.length vk) lj):=hL
     have HOI:Hid (OwnI wB W.heap.size (.slice da' dat.length dc') dat):=hOI
     have HOT:Hid (OwnT wB W.heap.size (.slice ta' tch.length tc') tch):=hOT
     have HRun:Hid (_=R):=hRun
     have HG:Hid (GoodS _):=hGood
     have HK:Hid (0≤k2∧k2≤63):=hk
     have HLB:Hid (lj=[]∨∀q,(Value.slice va lj.length vk).ownBlock=some q→¬q=g∧¬q=w.heap.size+1∧¬q=T∧(Value.slice da' dat.length dc').ownBlock≠some q∧(Value.slice ta' tch.length tc').ownBlock≠some q∧(A0 q∨W.heap.size≤q)):=hlb
     have HKB:Hid (KeptB (fun q=>q=g∨q=w.heap.size+1∨q=T) W wB):=hKB
     have HZL:Hid (zj.length=512):=(bF hGood.1).1
     have XAr:=X2.kept hKB (by rintro (h|h|h) <;> omega)
     have XMr:=XM.kept hKB (by rintro (h|h|h) <;> omega)
     have hWr:W.heap.size≤wB.heap.size:=hKB.size
     have HTL:Hid (tch.length=i):=htl
     have htl2:tch.length≤20:=by omega
     obtain⟨k0,k63⟩:=hk
     clear hO hL hOI hOT hRun hGood hlb hKB htl
     obtain⟨p,hp⟩:∃p:Nat,8*k2+(y:Int)%8=p:=⟨(8*k2+(y:Int)%8).toNat,by omega⟩
     have hp5:p<512:=by omega
     have HP:Hid (plc k2 y=(p:Int)):=by show _=_;unfold plc;omega
     have hpp0:(0:Int)≤(p:Int):=by omega
     have hpp1:(p:Int)<512:=by omega
     obtain⟨zn,hzn⟩:∃zn,wdM fw ds o k2 y zj=zn:=⟨_,rfl⟩
     obtain⟨Z,hZ⟩:∃Z,nth zn p=Z:=⟨_,rfl⟩
     have HZN:Hid (wdM fw ds o k2 y zj=zn):=hzn
     have HZZ:Hid (nth zn p=Z):=hZ
     have hIy:y-o=i:=by have:=HY.out;omega
     obtain⟨c0,c1,c2,c3,c4⟩:=XAr.blk.five
     have sA:=XAr.lt
     obtain⟨m0,m1,sM⟩:=XMr.one
     have sg:g<wB.heap.size:=HO.out.lt g rfl
     have gf:wB.frozen? ⟨g,p,none⟩=false:=HO.out.frozenAt p
     cases fw
     ·have hze:zn=zj:=by rw[←hzn];rfl
      subst hze
      have gp:wB.cell? ⟨g,p,none⟩=some (J Z):=by rw[HO.out.cellAt (by have:=HZL.out;omega),HZZ.out]
      have HWD:Hid (wd d false ds o k2 (o+i) ⟨zn,⟨mo,ba,lj,op,oh,ot,st,fe,fp,fh,ft,lo⟩,dat,tch⟩=⟨zn,⟨mo,ba,lj,op,oh,ot,st,fe,fp,fh,ft,lo⟩,dat++[Z],tch++[((d,(y:Int),(p:Int),false,Z):Tc)]⟩):=by
       show _=_
       rw[HY.out,wd]
       simp only[HP.out,Int.toNat_natCast,hzn,hZ,Bool.false_eq_true,if_false]
      clear hzn hZ hIy
      have K19:KeptB (fun q=>wB.heap.size≤q) wB (wB.alloc (.cells #[J d,J y,J p,.bool false,J Z] 72)):=(KeptB.refl (fun q=>wB.heap.size≤q) wB).alloc _
      have XX19:Box (wB.alloc (.cells #[J d,J y,J p,.bool false,J Z] 72)) wB.heap.size 72 #[J d,J y,J p,.bool false,J Z]:=Box.newAt (w:=wB) rfl 72 #[J d,J y,J p,.bool false,J Z]
      have XT18:=XT.kept K19 (by have:=XT.lt;omega)
      have XB18:=XB.kept K19 (by have:=XB.lt;omega)
      have HO18:Hid (OwnI (wB.alloc (.cells #[J d,J y,J p,.bool false,J Z] 72)) W0.heap.size (.slice (some ⟨g,0,none⟩) 512 cap) zn):=HO.out.kept K19 (fun q hq e=>by have:=HO.out.lt q hq;omega)
      have HI18:Hid (OwnI (wB.alloc (.cells #[J d,J y,J p,.bool false,J Z] 72)) W.heap.size (.slice da' dat.length dc') dat):=HOI.out.kept K19 (fun q hq e=>by have:=HOI.out.lt q hq;omega)
      have HT18:Hid (OwnT (wB.alloc (.cells #[J d,J y,J p,.bool false,J Z] 72)) W.heap.size (.slice ta' tch.length tc') tch):=HOT.out.kept K19 (fun q hq e=>by have:=HOT.out.lt q hq;omega)
      have HL18:Hid (Ls (wB.alloc (.cells #[J d,J y,J p,.bool false,J Z] 72)) (.slice va lj.length vk) lj):=HL.out.keptA K19 (HL.out.inB.imp id fun h q hq e=>by have:=h q hq;omega)
      have HK18:Hid (KeptB (fun q=>q=g∨q=w.heap.size+1∨q=T) W (wB.alloc (.cells #[J d,J y,J p,.bool false,J Z] 72))):=HKB.out.trans K19 (fun q hq h=>by omega)
      have hz1:g<wB.heap.size+1:=by omega
      have hz2:w.heap.size<wB.heap.size+1:=by omega
      have hz3:w.heap.size+1+1<wB.heap.size+1:=by omega
      have hz4:¬w.heap.size+1+1=wB.heap.size:=by omega
      have hz5:¬wB.heap.size=w.heap.size+1+1:=by omega
      go_upto_region 21 with fail
      clear c0 c1 c2 c3 c4 sA m0 m1 sM gp gf sg K19 HO HOI HOT HL HKB XT XB XAr XMr hz1 hz2 hz3 hz4 hz5
      have hX:W.heap.size≤wB.heap.size:=hWr
      generalize (wB.alloc (.cells #[J d,J y,J p,.bool false,J Z] 72))=w18 at *
      generalize wB.heap.size=X at *
      obtain⟨t0,t1,t2,t3,f0,f1,f2,f3,sT⟩:=XT18.four
      obtain⟨x0,x1,x2,x3,x4⟩:=XX19.blk.five
      have sX:=XX19.lt
      have hb18:W.heap.size≤w18.heap.size:=HK18.out.size
      go_wp2_with (at_builtin;refine gG rfl (.tmp 103) (.tmp 106) rfl W.heap.size _ _ dat [Z] rfl rfl (HI18.out.alloc _) (rF (by simp) _ _) (by simp;omega) (by simp;omega) (by simp) ?_)
      intro g3 c3 w6 hown hgr hbel hat
      clear t0 t1 t2 t3 f0 f1 f2 f3 sT x0 x1 x2 x3 x4 sX hbel
      have hNT:some T≠(Value.slice da' dat.length dc').ownBlock:=fun e=>HI18.out.neBox XT18 (by decide) e.symm
      have ZT:=(XT18.past (.cells #[J Z] 3)).grownT hgr hNT
      have K21:KeptB (fun q=>q=T∨(Value.slice da' dat.length dc').ownBlock=some q) w18 (w6.setCell ⟨T,1,none⟩ (.slice (some ⟨g3,0,none⟩) (dat.length+1) c3)):=(((KeptB.refl (fun q=>q=T∨(Value.slice da' dat.length dc').ownBlock=some q) w18).alloc (.cells #[J Z] 3)).grown hgr (fun q hq=>.inl (.inr hq))).setCell (p:=⟨T,1,none⟩) (.inl (.inl rfl)) _
      have hrow:∀q,(Value.slice da' dat.length dc').ownBlock=some q→W.heap.size≤q:=HI18.out.base
      have XT19:Box (w6.setCell ⟨T,1,none⟩ (.slice (some ⟨g3,0,none⟩) (dat.length+1) c3)) T 40 #[.bool false,.slice (some ⟨g3,0,none⟩) (dat.length+1) c3,J 0,.slice ta' tch.length tc']:=ZT.set 1 _
      have XX19:=XX19.kept K21 (by rintro (h|h);omega;exact HI18.out.neBox XX19 (by decide) h)
      have XB19:=XB18.kept K21 (by rintro (h|h);omega;have:=hrow _ h;omega)
      have HO19:Hid (OwnI (w6.setCell ⟨T,1,none⟩ (.slice (some ⟨g3,0,none⟩) (dat.length+1) c3)) W0.heap.size (.slice (some ⟨g,0,none⟩) 512 cap) zn):=HO18.out.kept K21 (by rintro q hq (h|h);simp[Value.ownBlock] at hq;omega;have:=hrow q h;simp[Value.ownBlock] at hq;omega)
      have HO19T:Hid (∀q,(Value.slice (some ⟨g,0,none⟩) 512 cap).ownBlock=some q→¬q=T):=fun q hq e=>by simp[Value.ownBlock] at hq;omega
      have HI19:Hid (OwnI (w6.setCell ⟨T,1,none⟩ (.slice (some ⟨g3,0,none⟩) (dat.length+1) c3)) W.heap.size (.slice (some ⟨g3,0,none⟩) (dat.length+1) c3) (dat++[Z])):=OwnI.setFar (p:=⟨T,1,none⟩) hown (OwnI.neBox hown ZT (by decide)) _
      have HT19:Hid (OwnT (w6.setCell ⟨T,1,none⟩ (.slice (some ⟨g3,0,none⟩) (dat.length+1) c3)) W.heap.size (.slice ta' tch.length tc') tch):=HT18.out.kept K21 (by rintro q hq (h|h);exact HT18.out.neBox XT18 (by decide) (h ▸ hq);exact eU HI18.out HT18.out q h hq)
      have HL19:Hid (Ls (w6.setCell ⟨T,1,none⟩ (.slice (some ⟨g3,0,none⟩) (dat.length+1) c3)) (.slice va lj.length vk) lj):=HL18.out.keptA K21 (HLB.out.imp id fun h q hq=>by have:=h q hq;rintro (e|e);exact this.2.2.1 e;exact this.2.2.2.1 e)
      have HK19:Hid (KeptB (fun q=>q=g∨q=w.heap.size+1∨q=T) W (w6.setCell ⟨T,1,none⟩ (.slice (some ⟨g3,0,none⟩) (dat.length+1) c3))):=HK18.out.trans K21 (by rintro q hq (h|h);exact .inr (.inr h);have:=hrow q h;omega)
      have HLB19:Hid (lj=[]∨∀q,(Value.slice va lj.length vk).ownBlock=some q→¬q=g∧¬q=w.heap.size+1∧¬q=T∧(Value.slice (some ⟨g3,0,none⟩) (dat.length+1) c3).ownBlock≠some q∧(Value.slice ta' tch.length tc').ownBlock≠some q∧(A0 q∨W.heap.size≤q)):=by
       rcases HLB.out with h|h
       ·exact .inl h
       ·rcases HL18.out.inB with h0|h0
        ·exact .inl h0
        ·refine .inr fun q hq=>?_
         obtain⟨e1,e2,e3,e4,e5,e6⟩:=h q hq
         have h1:=h0 q hq
         refine⟨e1,e2,e3,fun e=>?_,e5,e6⟩
         simp[Value.ownBlock] at e
         subst e
         rcases hat with h2|h2
         ·exact e4 h2
         ·first|omega|(simp at h2;omega)
      clear hown hgr hat K21 hrow HL18 HI18 HT18 HO18 XB18 XT18 HK18 hNT
      obtain⟨t0,t1,t2,t3,f0,f1,f2,f3,sT⟩:=ZT.four
      go_upto_region 22 with fail
      clear t0 t1 t2 t3 f0 f1 f2 f3 sT ZT
      generalize (w6.setCell ⟨T,1,none⟩ (.slice (some ⟨g3,0,none⟩) (dat.length+1) c3))=w19 at *
      obtain⟨t0,t1,t2,t3,f0,f1,f2,f3,sT⟩:=XT19.four
      obtain⟨x0,x1,x2,x3,x4⟩:=XX19.blk.five
      have sX:=XX19.lt
      have hb19:W.heap.size≤w19.heap.size:=HK19.out.size
      go_wp2_with (at_builtin;refine gF rfl (.tmp 110) (.tmp 112) rfl W.heap.size _ _ tch [(d,(y:Int),(p:Int),false,Z)] rfl rfl (HT19.out.alloc _) (mD (by simp) _ _ _ _ _ _) (by simp;omega) (by simp;omega) (.inr (by simp)) ?_)
      intro g4 c4 w7 hown hgr hbel hat
      clear t0 t1 t2 t3 f0 f1 f2 f3 sT x0 x1 x2 x3 x4 sX hbel
      have hNT:some T≠(Value.slice ta' tch.length tc').ownBlock:=fun e=>HT19.out.neBox XT19 (by decide) e.symm
      have ZT:=(XT19.past (.cells #[J d,J y,J p,.bool false,J Z] 72)).grownT hgr hNT
      have K22:KeptB (fun q=>q=T∨(Value.slice ta' tch.length tc').ownBlock=some q) w19 (w7.setCell ⟨T,3,none⟩ (.slice (some ⟨g4,0,none⟩) (tch.length+1) c4)):=(((KeptB.refl (fun q=>q=T∨(Value.slice ta' tch.length tc').ownBlock=some q) w19).alloc (.cells #[J d,J y,J p,.bool false,J Z] 72)).grown hgr (fun q hq=>.inl (.inr hq))).setCell (p:=⟨T,3,none⟩) (.inl (.inl rfl)) _
      have hrow:∀q,(Value.slice ta' tch.length tc').ownBlock=some q→W.heap.size≤q:=HT19.out.base
      have HREL:Hid (RelA A0 w.heap.size g T W.heap.size d false ds o cnt mo ba op oh ot fe fp fh ft st lo R W cap W0.heap.size (i+1) k2 pn (w7.setCell ⟨T,3,none⟩ (.slice (some ⟨g4,0,none⟩) (tch.length+1) c4))):=by
       refine⟨zn,lj,dat++[Z],tch++[((d,(y:Int),(p:Int),false,Z):Tc)],va,vk,.slice (some ⟨g3,0,none⟩) (dat.length+1) c3,.slice (some ⟨g4,0,none⟩) (tch.length+1) c4,?_,?_,?_,?_,?_,?_,?_,?_,?_,?_,HK.out,?_,?_,?_⟩
       ·exact HO19.out.kept K22 (by rintro q hq (h|h);exact HO19T.out q hq h;have:=hrow q h;simp[Value.ownBlock] at hq;omega)
       ·exact XB19.kept K22 (by rintro (h|h);omega;have:=hrow _ h;omega)
       ·exact HL19.out.keptA K22 (HLB19.out.imp id fun h q hq=>by have:=h q hq;rintro (e|e);exact this.2.2.1 e;exact this.2.2.2.2.1 e)
       ·exact ZT.set 3 _
       ·exact HI19.out.kept K22 (by rintro q hq (h|h);exact HI19.out.neBox XT19 (by decide) (h ▸ hq);exact eU HI19.out HT19.out q hq h)
       ·exact hown.setFar (p:=⟨T,3,none⟩) (OwnT.neBox hown ZT (by decide)) _
       ·rw[←HRun.out,HWD.out];rfl
       ·have h0:=iX (d:=d) (wr:=false) (ds:=ds) (o:=o) (x:=o+i) (k:=k2) HG.out (fun e=>absurd e (by decide))
        rw[HWD.out] at h0
        exact h0
       ·first|omega|(simp;omega)
       ·simp[HTL.out]
       ·rw[if_neg (by omega),show o+(i+1)-1=y by have:=HY.out;omega,HPN.out]
       ·rcases HLB19.out with h|h
        ·exact .inl h
        ·rcases HL19.out.inB with h0|h0
         ·exact .inl h0
         ·refine .inr fun q hq=>?_
          obtain⟨e1,e2,e3,e4,e5,e6⟩:=h q hq
          have h1:=h0 q hq
          refine⟨e1,e2,e3,e4,fun e=>?_,e6⟩
          simp[Value.ownBlock] at e
          subst e
          rcases hat with h2|h2
          ·exact e5 h2
          ·first|omega|(simp at h2;omega)
       ·exact HK19.out.trans K22 (by rintro q hq (h|h);exact .inr (.inr h);have:=hrow q h;omega)
      clear hown hgr hat K22 hrow
      obtain⟨t0,t1,t2,t3,f0,f1,f2,f3,sT⟩:=ZT.four
      go_wp2
      exact⟨⟨i+1,k2,pn,by omega,by go_num,rfl,rfl,HREL.out⟩,by simp[intOf];omega⟩
     ·have hdc:ds.length=cnt:=HDS.out rfl
      have HDC:Hid (ds.length=cnt):=hdc
      obtain⟨bd,od,rfl,hbd,gd⟩:=(HDW.out.keptO HKB.out (HDB.out.imp id fun h q hq=>by have:=h q hq;rintro (e|e|e) <;> omega)).open (i:=i) (by omega)
      have hgD:¬g=bd:=fun e=>by
       rcases HDB.out with h0|h0
       ·rw[h0] at hdc;simp at hdc;omega
       ·have:=h0 bd (by simp[Value.ownBlock]);omega
      have hid1:i<ds.length:=by omega
      have hid2:(i:Int)<(ds.length:Int):=by omega
      have hze:zn=zj.set p (nth ds i):=by rw[←hzn,wdM,if_pos rfl,HP.out,Int.toNat_natCast,hIy]
      have hZd:nth ds i=Z:=by
       rw[←hZ,hze]
       have:=HZL.out
       simp[nth,show p<zj.length by omega]
      rw[hZd] at gd hze
      have HZE:Hid (zn=zj.set p Z):=hze
      have gp:wB.cell? ⟨g,p,none⟩=some (J (nth zj p)):=HO.out.cellAt (by have:=HZL.out;omega)
      have HWD:Hid (wd d true ds o k2 (o+i) ⟨zj,⟨mo,ba,lj,op,oh,ot,st,fe,fp,fh,ft,lo⟩,dat,tch⟩=⟨zn,⟨mo,ba,lj,op,oh,ot,st,fe,fp,fh,ft,lo⟩,dat,tch++[((d,(y:Int),(p:Int),true,Z):Tc)]⟩):=by
       show _=_
       rw[HY.out,wd]
       simp only[HP.out,Int.toNat_natCast,hzn,hZ,if_true]
      clear hzn hZ hIy hdc hZd hze
      have K19:KeptB (fun q=>wB.heap.size≤q∨q=g) wB ((((wB.alloc (.cells #[J d,J y,J p,.bool true,J 0] 72)).setCell ⟨g,p,none⟩ (J Z)).setCell ⟨wB.heap.size,4,none⟩ (J Z)).drew):=((((KeptB.refl (fun q=>wB.heap.size≤q∨q=g) wB).alloc (.cells #[J d,J y,J p,.bool true,J 0] 72)).setCell (p:=⟨g,p,none⟩) (.inl (.inr rfl)) _).setCell (p:=⟨wB.heap.size,4,none⟩) (.inl (.inl (Nat.le_refl _))) _).drew
      have XX19:Box ((((wB.alloc (.cells #[J d,J y,J p,.bool true,J 0] 72)).setCell ⟨g,p,none⟩ (J Z)).setCell ⟨wB.heap.size,4,none⟩ (J Z)).drew) wB.heap.size 72 #[J d,J y,J p,.bool true,J Z]:=Box.drew (Box.set ((Box.newAt (w:=wB) rfl 72 #[J d,J y,J p,.bool true,J 0]).other (p:=⟨g,p,none⟩) (by dsimp only;omega) _) 4 _)
      have XT19:=XT.kept K19 (by have:=XT.lt;rintro (h|h) <;> omega)
      have XB19:=XB.kept K19 (by have:=XB.lt;rintro (h|h) <;> omega)
      have HO19:Hid (OwnI ((((wB.alloc (.cells #[J d,J y,J p,.bool true,J 0] 72)).setCell ⟨g,p,none⟩ (J Z)).setCell ⟨wB.heap.size,4,none⟩ (J Z)).drew) W0.heap.size (.slice (some ⟨g,0,none⟩) 512 cap) zn):=by
       show OwnI _ _ _ _
       rw[HZE.out]
       exact OwnI.drew (OwnI.setFar (p:=⟨wB.heap.size,4,none⟩) (OwnI.setAt (HO.out.alloc (.cells #[J d,J y,J p,.bool true,J 0] 72)) p Z) (by simp[Value.ownBlock];omega) _)
      have HO19T:Hid (∀q,(Value.slice (some ⟨g,0,none⟩) 512 cap).ownBlock=some q→¬q=T):=fun q hq e=>by simp[Value.ownBlock] at hq;omega
      have HI19:Hid (OwnI ((((wB.alloc (.cells #[J d,J y,J p,.bool true,J 0] 72)).setCell ⟨g,p,none⟩ (J Z)).setCell ⟨wB.heap.size,4,none⟩ (J Z)).drew) W.heap.size (.slice da' dat.length dc') dat):=HOI.out.kept K19 (fun q hq e=>by have:=HOI.out.lt q hq;have:=HOI.out.base q hq;omega)
      have HT19:Hid (OwnT ((((wB.alloc (.cells #[J d,J y,J p,.bool true,J 0] 72)).setCell ⟨g,p,none⟩ (J Z)).setCell ⟨wB.heap.size,4,none⟩ (J Z)).drew) W.heap.size (.slice ta' tch.length tc') tch):=HOT.out.kept K19 (fun q hq e=>by have:=HOT.out.lt q hq;have:=HOT.out.base q hq;omega)
      have HL19:Hid (Ls ((((wB.alloc (.cells #[J d,J y,J p,.bool true,J 0] 72)).setCell ⟨g,p,none⟩ (J Z)).setCell ⟨wB.heap.size,4,none⟩ (J Z)).drew) (.slice va lj.length vk) lj):=by
       rcases HLB.out with h|h
       ·exact HL.out.keptA K19 (.inl h)
       ·exact HL.out.keptA K19 (HL.out.inB.imp id fun h0 q hq e=>by have:=h0 q hq;have:=(h q hq).1;omega)
      have HK19:Hid (KeptB (fun q=>q=g∨q=w.heap.size+1∨q=T) W ((((wB.alloc (.cells #[J d,J y,J p,.bool true,J 0] 72)).setCell ⟨g,p,none⟩ (J Z)).setCell ⟨wB.heap.size,4,none⟩ (J Z)).drew)):=HKB.out.trans K19 (fun q hq h=>by omega)
      have HLB19:Hid (lj=[]∨∀q,(Value.slice va lj.length vk).ownBlock=some q→¬q=g∧¬q=w.heap.size+1∧¬q=T∧(Value.slice da' dat.length dc').ownBlock≠some q∧(Value.slice ta' tch.length tc').ownBlock≠some q∧(A0 q∨W.heap.size≤q)):=HLB.out
      go_upto_region 18 with fail
      have c4':=(cG (o:=(.cells #[J d,J y,J p,.bool true,J 0] 72)) c4)
      have c3':=(cG (o:=(.cells #[J d,J y,J p,.bool true,J 0] 72)) c3)
      have m0':=(cG (o:=(.cells #[J d,J y,J p,.bool true,J 0] 72)) m0)
      have gd':=(cG (o:=(.cells #[J d,J y,J p,.bool true,J 0] 72)) gd)
      have gp':=(cG (o:=(.cells #[J d,J y,J p,.bool true,J 0] 72)) gp)
      have gf':(wB.alloc (.cells #[J d,J y,J p,.bool true,J 0] 72)).frozen? ⟨g,p,none⟩=false:=(HO.out.alloc (.cells #[J d,J y,J p,.bool true,J 0] 72)).frozenAt p
      have XX:=Box.newAt (w:=wB) rfl 72 #[J d,J y,J p,.bool true,J 0]
      have sW:(wB.alloc (.cells #[J d,J y,J p,.bool true,J 0] 72)).heap.size=wB.heap.size+1:=by simp
      clear c0 c1 c2 c3 c4 sA m0 m1 sM gp gf gd K19 HO HOI HOT HL HKB XT XB XAr XMr
      generalize (wB.alloc (.cells #[J d,J y,J p,.bool true,J 0] 72))=wX at *
      have n1:¬g=w.heap.size:=by omega
      have n2:¬g=wB.heap.size:=by omega
      have n3:¬g=w.heap.size+1+1:=by omega
      have n4:¬wB.heap.size=w.heap.size+1+1:=by omega
      have n5:¬wB.heap.size=w.heap.size:=by omega
      have n6:¬wB.heap.size=g:=by omega
      have hX:W.heap.size≤wB.heap.size:=hWr
      have z1:g<wX.heap.size:=by omega
      have z2:w.heap.size<wX.heap.size:=by omega
      have z3:w.heap.size+1+1<wX.heap.size:=by omega
      have z4:bd<wX.heap.size:=by omega
      clear sW hbd sg
      generalize wB.heap.size=X at *
      obtain⟨x0,x1,x2,x3,x4⟩:=XX.blk.five
      have xf4:wX.frozen? ⟨X,4,none⟩=false:=XX.frozen 4
      have z5:X<wX.heap.size:=XX.lt
      go_region_held3 (fun w'=>w'.cell? ⟨w.heap.size,0,none⟩=some (.slice (some ⟨g,0,none⟩) 512 cap)∧w'.cell? ⟨X,2,none⟩=some (J p)∧w'.cell? ⟨w.heap.size+1+1,4,none⟩=some (.slice (some ⟨bd,od,none⟩) ds.length dc)∧w'.cell? ⟨bd,od+i,none⟩=some (J Z)) (go_keep) (fail)
      go_upto_region 22 with fail
      clear c3' c4' m0' gd' gp' gf' x0 x1 x2 x3 x4 xf4 XX z1 z2 z3 z4 z5
      generalize (((wX.setCell ⟨g,p,none⟩ (J Z)).setCell ⟨X,4,none⟩ (J Z)).drew)=w19 at *
      obtain⟨t0,t1,t2,t3,f0,f1,f2,f3,sT⟩:=XT19.four
      obtain⟨x0,x1,x2,x3,x4⟩:=XX19.blk.five
      have sX:=XX19.lt
      have hb19:W.heap.size≤w19.heap.size:=HK19.out.size
      go_wp2_with (at_builtin;refine gF rfl (.tmp 110) (.tmp 112) rfl W.heap.size _ _ tch [(d,(y:Int),(p:Int),true,Z)] rfl rfl (HT19.out.alloc _) (mD (by simp) _ _ _ _ _ _) (by simp;omega) (by simp;omega) (.inr (by simp)) ?_)
      intro g4 c4 w7 hown hgr hbel hat
      clear t0 t1 t2 t3 f0 f1 f2 f3 sT x0 x1 x2 x3 x4 sX hbel
      have hNT:some T≠(Value.slice ta' tch.length tc').ownBlock:=fun e=>HT19.out.neBox XT19 (by decide) e.symm
      have ZT:=(XT19.past (.cells #[J d,J y,J p,.bool true,J Z] 72)).grownT hgr hNT
      have K22:KeptB (fun q=>q=T∨(Value.slice ta' tch.length tc').ownBlock=some q) w19 (w7.setCell ⟨T,3,none⟩ (.slice (some ⟨g4,0,none⟩) (tch.length+1) c4)):=(((KeptB.refl (fun q=>q=T∨(Value.slice ta' tch.length tc').ownBlock=some q) w19).alloc (.cells #[J d,J y,J p,.bool true,J Z] 72)).grown hgr (fun q hq=>.inl (.inr hq))).setCell (p:=⟨T,3,none⟩) (.inl (.inl rfl)) _
      have hrow:∀q,(Value.slice ta' tch.length tc').ownBlock=some q→W.heap.size≤q:=HT19.out.base
      have HREL:Hid (RelA A0 w.heap.size g T W.heap.size d true ds o cnt mo ba op oh ot fe fp fh ft st lo R W cap W0.heap.size (i+1) k2 pn (w7.setCell ⟨T,3,none⟩ (.slice (some ⟨g4,0,none⟩) (tch.length+1) c4))):=by
       refine⟨zn,lj,dat,tch++[((d,(y:Int),(p:Int),true,Z):Tc)],va,vk,.slice da' dat.length dc',.slice (some ⟨g4,0,none⟩) (tch.length+1) c4,?_,?_,?_,?_,?_,?_,?_,?_,?_,?_,HK.out,?_,?_,?_⟩
       ·exact HO19.out.kept K22 (by rintro q hq (h|h);exact HO19T.out q hq h;have:=hrow q h;simp[Value.ownBlock] at hq;omega)
       ·exact XB19.kept K22 (by rintro (h|h);omega;have:=hrow _ h;omega)
       ·exact HL19.out.keptA K22 (HLB19.out.imp id fun h q hq=>by have:=h q hq;rintro (e|e);exact this.2.2.1 e;exact this.2.2.2.2.1 e)
       ·exact ZT.set 3 _
       ·exact HI19.out.kept K22 (by rintro q hq (h|h);exact HI19.out.neBox XT19 (by decide) (h ▸ hq);exact eU HI19.out HT19.out q hq h)
       ·exact hown.setFar (p:=⟨T,3,none⟩) (OwnT.neBox hown ZT (by decide)) _
       ·rw[←HRun.out,HWD.out];rfl
       ·have h0:=iX (d:=d) (wr:=true) (ds:=ds) (o:=o) (x:=o+i) (k:=k2) HG.out (fun _=>iY HAL.out (by have:=HDC.out;omega))
        rw[HWD.out] at h0
        exact h0
       ·first|omega|(simp;omega)
       ·simp[HTL.out]
       ·rw[if_neg (by omega),show o+(i+1)-1=y by have:=HY.out;omega,HPN.out]
       ·rcases HLB19.out with h|h
        ·exact .inl h
        ·rcases HL19.out.inB with h0|h0
         ·exact .inl h0
         ·refine .inr fun q hq=>?_
          obtain⟨e1,e2,e3,e4,e5,e6⟩:=h q hq
          have h1:=h0 q hq
          refine⟨e1,e2,e3,e4,fun e=>?_,e6⟩
          simp[Value.ownBlock] at e
          subst e
          rcases hat with h2|h2
          ·exact e5 h2
          ·first|omega|(simp at h2;omega)
       ·exact HK19.out.trans K22 (by rintro q hq (h|h);exact .inr (.inr h);have:=hrow q h;omega)
      clear hown hgr hat K22 hrow
      obtain⟨t0,t1,t2,t3,f0,f1,f2,f3,sT⟩:=ZT.four
      go_wp2
      exact⟨⟨i+1,k2,pn,by omega,by go_num,rfl,rfl,HREL.out⟩,by simp[intOf];omega⟩
   ·obtain rfl:i=cnt:=by omega
    have nlt:¬(i:Int)<(i:Int):=by omega
    have HRR:Hid (R=(⟨zj,⟨mo,ba,lj,op,oh,ot,st,fe,fp,fh,ft,lo⟩,dat,tch⟩,0)):=by
     show _=_
     rw[←HRun.out,show i-i=0 by omega];rfl
    have HML:Hid (zj.length=512):=HZL.out
    have K9:KeptB (fun q=>q=T) wr (wr.setCell ⟨T,0,none⟩ (.bool true)):=(KeptB.refl (fun q=>q=T) wr).setCell (p:=⟨T,0,none⟩) (.inl rfl) _
    have XM9:=XMr.kept K9 (by omega)
    have XB9:=XB.kept K9 (by omega)
    have XT9:Box (wr.setCell ⟨T,0,none⟩ (.bool true)) T 40 #[.bool true,.slice da' dat.length dc',J 0,.slice ta' tch.length tc']:=XT.set 0 _
    have X39:=X3r.kept K9 (by omega)
    have X49:=X4r.kept K9 (by omega)
    have X59:=X5r.kept K9 (by omega)
    have HO9:Hid (OwnI (wr.setCell ⟨T,0,none⟩ (.bool true)) W0.heap.size (.slice (some ⟨g,0,none⟩) 512 cap) zj):=HO.out.kept K9 (fun q hq e=>by simp[Value.ownBlock] at hq;omega)
    have HS9:Hid (Sl (wr.setCell ⟨T,0,none⟩ (.bool true)) (.slice (some ⟨g,0,none⟩) 512 cap) zj):=HO9.out.sl (by have:=HZL.out;unfold maxLen;omega)
    have FM8:=FG
    have FL8:Hid (lj=[]∨∀q,(Value.slice va lj.length vk).ownBlock=some q→A0 q∨w.heap.size≤q):=HLB.out.imp id (fun h q hq=>(h q hq).2.2.2.2.2.imp id (fun h=>Nat.le_trans BW.out.size h))
    have HL9:Hid (Ls (wr.setCell ⟨T,0,none⟩ (.bool true)) (.slice va lj.length vk) lj):=HL.out.keptA K9 (HLB.out.imp id fun h q hq=>(h q hq).2.2.1)
    have HI9:Hid (OwnI (wr.setCell ⟨T,0,none⟩ (.bool true)) W.heap.size (.slice da' dat.length dc') dat):=HOI.out.kept K9 (fun q hq e=>by have:=HOI.out.base q hq;omega)
    have HT9:Hid (OwnT (wr.setCell ⟨T,0,none⟩ (.bool true)) W.heap.size (.slice ta' tch.length tc') tch):=HOT.out.kept K9 (fun q hq e=>by have:=HOT.out.base q hq;omega)
    have B9:Hid (Below w.heap.size w (wr.setCell ⟨T,0,none⟩ (.bool true))):=aI (p:=⟨T,0,none⟩) (by dsimp only;omega) (BW.out.trans (HKB.out.low (B:=w.heap.size) (by omega) (by rintro q hq (h|h|h) <;> omega))) _
    obtain⟨t0,t1,t2,t3,f0,f1,f2,f3,sT⟩:=XT.four
    go_upto_region 25 with fail
    clear t0 t1 t2 t3 f0 f1 f2 f3 sT K9 XT XMr XB X3r X4r X5r HOI HOT HL HO HO9 HKB XAr
    generalize (wr.setCell ⟨T,0,none⟩ (.bool true))=w9 at *
    obtain⟨m0,m1,sM⟩:=XM9.one
    obtain⟨⟨q0,q1,q2,q3,q4,q5,q6,q7,q8,q9,q10,q11⟩,sB⟩:=XB9.twelve
    obtain⟨t0,t1,t2,t3,f0,f1,f2,f3,sT⟩:=XT9.four
    obtain⟨r0,r1,s3⟩:=X39.one
    obtain⟨⟨u0,u1,u2,u3,u4,u5,u6,u7,u8,u9,u10,u11⟩,s4⟩:=X49.twelve
    obtain⟨y0,y1,y2,y3,y4,y5,y6,y7,y8,y9,y10,y11⟩:=X49.marks
    obtain⟨v0,v1,v2,v3,x0,x1,x2,x3,s5⟩:=X59.four
    have HL9B:Hid (Apart (.slice va lj.length vk) lj (w.heap.size+1+1+1)):=HL9.out.apart1 X39
    have HL9C:Hid (Apart (.slice va lj.length vk) lj (w.heap.size+1+1+1+1)):=HL9.out.apart X49
    have HL9D:Hid (Apart (.slice va lj.length vk) lj (w.heap.size+1+1+1+1+1)):=HL9.out.apart4 X59
    have HS9B:Hid (∀q,((.slice (some ⟨g,0,none⟩) 512 cap:Value)).ownBlock=some q→¬(q=w.heap.size+1+1+1∨q=w.heap.size+1+1+1+1∨q=w.heap.size+1+1+1+1+1)):=by
     rintro q hq (h|h|h)
     ·exact HS9.out.big HML.out X39 (by simp) q hq h
     ·exact HS9.out.big HML.out X49 (by simp) q hq h
     ·exact HS9.out.big HML.out X59 (by simp) q hq h
    clear XM9 XB9 XT9 X39 X49 X59
    have n34:¬w.heap.size+1+1+1=w.heap.size+1:=by omega
    have n35:¬w.heap.size+1+1+1+1=w.heap.size+1:=by omega
    have n36:¬w.heap.size+1+1+1+1+1=w.heap.size+1:=by omega
    have n37:¬w.heap.size+1+1+1=w.heap.size:=by omega
    have n38:¬w.heap.size+1+1+1+1=w.heap.size:=by omega
    have n39:¬w.heap.size+1+1+1+1+1=w.heap.size:=by omega
    have n40:¬w.heap.size+1+1+1=T:=by omega
    have n41:¬w.heap.size+1+1+1+1=T:=by omega
    have n42:¬w.heap.size+1+1+1+1+1=T:=by omega
    go_region
    all_goals
     go_wp2
     refine bodyPost_ret (v:=.tuple #[.agg #[.slice (some ⟨g,0,none⟩) 512 cap],.agg (rB mo ba (.slice va lj.length vk) op oh ot st fe fp fh ft lo),.agg #[.bool true,.slice da' dat.length dc',J 0,.slice ta' tch.length tc']]) (by simp[results,Tryz.results52,go_sem, *]) rfl ⟨_,_,_,_,_,_,_,_,_,_,_,_,_,_,_,_,lj,_,_,_,_,dat,tch,zj,0,rfl,HR.out.trans HRR.out,FM8.out,FL8.out.imp id (fun h q hq=>(h q hq).imp (HA0.out q).1 id),?_,?_,?_,?_,fun q hq=>by have:=HI9.out.base q hq;omega,fun q hq=>by have:=HT9.out.base q hq;omega,?_⟩
     ·refine HS9.out.kept (may:=fun q=>q=w.heap.size+1+1+1∨q=w.heap.size+1+1+1+1∨q=w.heap.size+1+1+1+1+1) ?_ HS9B.out
      (repeat (first|with_reducible exact KeptB.refl _ _|with_reducible refine KeptB.drew ?_|(with_reducible refine KeptB.setCell ?_ ?_ _;rotate_left;(focus (dsimp only;omega)))))
     ·(repeat (first|with_reducible exact HL9.out|with_reducible refine Ls.drew ?_|with_reducible refine Ls.put12 ?_ HL9C.out _ _ _ _ _ _ _ _ _ _ _ _|with_reducible refine Ls.putAt ?_ HL9B.out _ _|with_reducible refine Ls.putAt ?_ HL9D.out _ _))
     ·refine (HI9.out.sl (by unfold maxLen;omega)).kept (may:=fun q=>q=w.heap.size+1+1+1∨q=w.heap.size+1+1+1+1∨q=w.heap.size+1+1+1+1+1) ?_ (fun q hq=>by have:=HI9.out.base q hq;omega)
      (repeat (first|with_reducible exact KeptB.refl _ _|with_reducible refine KeptB.drew ?_|(with_reducible refine KeptB.setCell ?_ ?_ _;rotate_left;(focus (dsimp only;omega)))))
     ·refine HT9.out.ls.kept (may:=fun q=>q=w.heap.size+1+1+1∨q=w.heap.size+1+1+1+1∨q=w.heap.size+1+1+1+1+1) ?_ (fun q hq=>by have:=HT9.out.base q hq;omega)
      (repeat (first|with_reducible exact KeptB.refl _ _|with_reducible refine KeptB.drew ?_|(with_reducible refine KeptB.setCell ?_ ?_ _;rotate_left;(focus (dsimp only;omega)))))
     ·(repeat (first|with_reducible exact B9.out|with_reducible refine Below.drew ?_|(with_reducible refine aJ ?_ ?_ _ _ _ _ _ _ _ _ _ _ _ _;(focus omega))|(with_reducible refine aI ?_ ?_ _;(focus (dsimp only;omega)))))
end Go.Proofs.YthlhocneggcekaaGreat
