/-
  MachineRuns holds: any script does to any machine, happening by happening, what the document says, errors too; of every machine and every script, without any condition.
  Laid together: MRunsB, MSaysB, MRunsWalk, MachineRuns.
-/
import Derived.Test.YthlhocneggcekaaGreatD44
import Derived.Test.YthlhocneggcekaaGreatDPartsB
import Derived.Test.YthlhocneggcekaaGreatDHappenedX
namespace Go.Proofs.YthlhocneggcekaaGreat
open Go.RowKit
theorem IsM.keptL {bad may:Nat→Prop}{w w':World}{m:Mc}{cs:Array Value}(h:IsM w m cs)(k:KeptB may w w')(o:OffL bad m.b.cache cs)(hm:∀q,may q→bad q):IsM w' m cs:=by
 obtain⟨a1,n1,c1,a2,n2,c2,a3,n3,c3,rfl,h1,h2,h3⟩:=h
 refine⟨a1,n1,c1,a2,n2,c2,a3,n3,c3,rfl,h1.kept k (fun q hq hb=>o 0 _ rfl (by omega) q hq (hm q hb)),h2.kept k (fun q hq hb=>o 2 _ rfl (by omega) q hq (hm q hb)),h3.keptA k ?_⟩
 by_cases hl:m.b.cache=[]
 ·exact .inl hl
 ·exact .inr (fun q hq hb=>o 6 _ rfl (fun _=>hl) q hq (hm q hb))
theorem OffL.grow {a b:Nat→Prop}{w:World}{m:Mc}{cs:Array Value}(h:OffL a m.b.cache cs)(hm:IsM w m cs)(hc:chkM m=0)(k:∀q,b q→a q∨w.heap.size≤q):OffL b m.b.cache cs:=by
 obtain⟨hz,hh,-⟩:=bW hc
 have hz:=(bF hz).1
 have hh:=(cR hh).1
 obtain⟨a1,n1,c1,a2,n2,c2,a3,n3,c3,rfl,h1,h2,h3⟩:=hm
 have g:∀{v:Value},Off a v→(∀q,v.ownBlock=some q→q<w.heap.size)→Off b v:=fun ho hl q hq hb=>by
  rcases k q hb with e|e
  ·exact ho q hq e
  ·have:=hl q hq;omega
 refine offL (g (h 0 _ rfl (by omega)) ?_) (g (h 2 _ rfl (by omega)) ?_) (fun hl=>g (h 6 _ rfl (fun _=>hl)) ?_)
 ·rcases h1.block with e|e
  ·rw[e] at hz;simp at hz
  ·exact e
 ·rcases h2.block with e|e
  ·rw[e] at hh;simp at hh
  ·exact e
 ·rcases h3.inB with e|e
  ·exact absurd e hl
  ·exact e
def RBad (N:Nat)(v u:Value)(q:Nat):Prop:=q=N∨v.ownBlock=some q∨u.ownBlock=some q
structure RunsI (N:Nat)(WS:World)(M:Mc)(qs:List Tq)(ts:List To)(es:List Int)(v u:Value)(wx:World):Prop where
 now:∃cs,Box wx N 33 cs∧IsM wx M cs∧OffL (RBad N v u) M.b.cache cs
 good:chkM M=0
 own:OwnQ wx WS.heap.size v qs
 told:∀w',KeptB (RBad N v u) wx w'→Means w' 0 qs ts
 said:OwnE wx WS.heap.size u es
 kept:KeptB (fun q=>q=N) WS wx
 lt:N<WS.heap.size
theorem ownQE {w:World}{b1 b2:Nat}{v u:Value}{l:List Tq}{m:List Int}(h:OwnQ w b1 v l)(k:OwnE w b2 u m):∀q,v.ownBlock=some q→u.ownBlock≠some q:=by
 intro q e
 rcases h.2 with ⟨rfl,_⟩|⟨g,cap,cur,rfl,_,hg,_⟩
 ·simp[Value.ownBlock] at e
 ·simp[Value.ownBlock] at e
  subst e
  rcases k.2 with ⟨rfl,_⟩|⟨g2,cap2,cur2,rfl,_,hg2,_⟩
  ·simp[Value.ownBlock]
  ·intro e2
   simp[Value.ownBlock] at e2
   subst e2
   rw[hg] at hg2
   simp at hg2
theorem RunsI.bad {N:Nat}{WS:World}{M:Mc}{qs:List Tq}{ts:List To}{es:List Int}{v u:Value}{wx:World}(h:RunsI N WS M qs ts es v u wx):∀q,RBad N v u q→q<wx.heap.size:=by
 rintro q (e|e|e)
 ·have:=h.lt;have:=h.kept.size;omega
 ·exact h.own.lt q e
 ·exact h.said.lt q e
theorem RunsI.keep {N:Nat}{WS:World}{M:Mc}{qs:List Tq}{ts:List To}{es:List Int}{v u:Value}{wx w':World}(h:RunsI N WS M qs ts es v u wx)(hb:Below wx.heap.size wx w'):RunsI N WS M qs ts es v u w':=by
 obtain⟨cs,X,I,O⟩:=h.now
 exact⟨⟨cs,X.keep hb,I.keep hb,O⟩,h.good,h.own.below hb,fun w2 k=>h.told w2 ((KeptB.of_below hb).trans k (fun _ _ e=>e)),h.said.keep (fun k hk=>hb.block k (h.said.lt k hk)),h.kept.below hb,h.lt⟩
theorem RunsI.next {N:Nat}{WS:World}{M M':Mc}{qs:List Tq}{ts:List To}{es:List Int}{v u:Value}{wx:World}(h:RunsI N WS M qs ts es v u wx){cs1:Array Value}(I:IsM wx M' cs1)(hg:chkM M'=0)(O:OffL (RBad N v u) M'.b.cache cs1):RunsI N WS M' qs ts es v u (wx.setRow N cs1):=by
 obtain⟨cs,X,-,-⟩:=h.now
 have K:KeptB (fun q=>q=N) wx (wx.setRow N cs1):=(KeptB.refl (fun q=>q=N) wx).setRow (n:=N) (.inl rfl) cs1
 have hq:∀k,v.ownBlock=some k→¬k=N:=fun k e=>by have:=h.own.base k e;have:=h.lt;omega
 have hu:∀k,u.ownBlock=some k→¬k=N:=fun k e=>by have:=h.said.base k e;have:=h.lt;omega
 exact⟨⟨cs1,X.setRow cs1,I.keptL K O (fun q e=>.inl e),O⟩,hg,h.own.keep (fun k hk=>K.block k (h.own.lt k hk) (hq k hk)),fun w2 k=>h.told w2 ((KeptB.trans (may:=RBad N v u) ⟨K.os,K.tape,K.output,K.size,fun i hi hn=>K.block i hi (fun e=>hn (.inl e))⟩ k (fun _ _ e=>e))),h.said.keep (fun k hk=>K.block k (h.said.lt k hk) (hu k hk)),h.kept.trans K (fun _ _ e=>e),h.lt⟩
theorem RunsI.grow {N:Nat}{WS:World}{M:Mc}{qs:List Tq}{ts:List To}{es:List Int}{v u v' u':Value}{wx w':World}(h:RunsI N WS M qs ts es v u wx){row:Option Nat}(hg:wx.grownBy w' row)(hr:∀k,row=some k→v.ownBlock=some k∨u.ownBlock=some k)
  (hn:∀q,RBad N v' u' q→RBad N v u q∨wx.heap.size≤q):
  (∃cs,Box w' N 33 cs∧IsM w' M cs∧OffL (RBad N v' u') M.b.cache cs)∧(∀w2,KeptB (RBad N v' u') w' w2→KeptB (RBad N v u) wx w2)∧KeptB (fun q=>q=N) WS w':=by
 obtain⟨cs,X,I,O⟩:=h.now
 have K:KeptB (RBad N v u) wx w':=(KeptB.refl _ _).grown hg (fun k e=>.inl (.inr (hr k e)))
 have hB:∀k,row=some k→WS.heap.size≤k:=fun k e=>by
  rcases hr k e with e|e
  ·exact h.own.base k e
  ·exact h.said.base k e
 refine⟨⟨cs,?_,I.keptL K O (fun _ e=>e),O.grow I h.good hn⟩,fun w2 k=>K.trans k (fun q hq e=>?_),h.kept.grown hg (fun k e=>.inr (hB k e))⟩
 ·have K2:KeptB (fun q=>row=some q) wx w':=(KeptB.refl _ _).grown hg (fun k e=>.inl e)
  exact X.kept K2 (fun e=>by have:=hB N e;have:=h.lt;omega)
 ·rcases hn q e with e|e
  ·exact e
  ·omega
theorem RunsI.tell {N:Nat}{WS:World}{M:Mc}{qs:List Tq}{ts:List To}{es:List Int}{v u v':Value}{wx w':World}(h:RunsI N WS M qs ts es v u wx){x:Tq}{t:To}{base g:Nat}(hx:Mean wx base x t)(hb:∀q,RBad N v u q→q<base)
  (ho:OwnQ w' WS.heap.size v' (qs++[x])) (hg:wx.grownBy w' v.ownBlock) (hv:v'.ownBlock=some g) (hat:v.ownBlock=some g∨g=wx.heap.size):RunsI N WS M (qs++[x]) (ts++[t]) es v' u w':=by
 obtain⟨h1,h2,h3⟩:=h.grow (v':=v') (u':=u) hg (fun k e=>.inl e) (by
  rintro q (e|e|e)
  ·exact .inl (.inl e)
  ·rw[hv] at e
   obtain rfl:g=q:=by simpa using e
   rcases hat with k|k
   ·exact .inl (.inr (.inl k))
   ·exact .inr (by omega)
  ·exact .inl (.inr (.inr e)))
 refine⟨h1,h.good,ho,fun w2 k=>(h.told w2 (h2 w2 k)).append (Means.one ((hx.kept (h2 w2 k) hb).mono (Nat.zero_le _))),h.said.keep (fun k hk=>hg.block k (h.said.lt k hk) (fun e=>?_)),h3,h.lt⟩
 exact ownQE h.own h.said k e.symm hk
theorem RunsI.say {N:Nat}{WS:World}{M:Mc}{qs:List Tq}{ts:List To}{es:List Int}{v u u':Value}{wx w':World}(h:RunsI N WS M qs ts es v u wx){e:Int}{g:Nat}
  (ho:OwnE w' WS.heap.size u' (es++[e])) (hg:wx.grownBy w' u.ownBlock) (hu:u'.ownBlock=some g) (hat:u.ownBlock=some g∨g=wx.heap.size):RunsI N WS M qs ts (es++[e]) v u' w':=by
 obtain⟨h1,h2,h3⟩:=h.grow (v':=v) (u':=u') hg (fun k e=>.inr e) (by
  rintro q (e|e|e)
  ·exact .inl (.inl e)
  ·exact .inl (.inr (.inl e))
  ·rw[hu] at e
   obtain rfl:g=q:=by simpa using e
   rcases hat with k|k
   ·exact .inl (.inr (.inr k))
   ·exact .inr (by omega))
 refine⟨h1,h.good,h.own.keep (fun k hk=>hg.block k (h.own.lt k hk) (fun e=>?_)),fun w2 k=>h.told w2 (h2 w2 k),ho,h3,h.lt⟩
 exact ownQE h.own h.said k hk e.symm
theorem RunsI.start {w WS:World}{m:Mc}{cs:Array Value}(hm:IsM w m cs)(hc:chkM m=0)(X:Box WS w.heap.size 33 cs)(hb:Below w.heap.size w WS):RunsI w.heap.size WS m [] [] [] (.slice none 0 0) (.slice none 0 0) WS:=by
 refine⟨⟨cs,X,hm.keep hb,?_⟩,hc,OwnQ.nothing _ _,fun _ _=>Means.nil _ _,OwnE.nothing _ _,KeptB.refl _ _,X.lt⟩
 refine OffL.grow (a:=fun _=>False) (fun _ _ _ _ _ _ e=>e) hm hc ?_
 rintro q (e|e|e)
 ·exact .inr (by omega)
 ·simp[Value.ownBlock] at e
 ·simp[Value.ownBlock] at e
theorem aC6 (m:Mc):sameM m m=true:=by simp[sameM,sameH,kH]
theorem aC1 {m:Mc}{cs:Array Value}{w:World}(hm:IsM w m cs):Calls Tryz.prog 12 #[.agg cs] w fun e w'=>e=.returned (J (chkM m))∧Below w.heap.size w w':=by
 obtain⟨zs,⟨p,r,d⟩,⟨mo,ba,l,op,oh,ot,st,fe,fp,fh,ft,lo⟩⟩:=m
 obtain⟨a1,n1,c1,a2,n2,c2,a3,n3,c3,rfl,h1,h2,h3⟩:=hm
 exact wI _ zs p _ r d mo ba op oh ot fe fp fh ft st lo _ l w h1 h2 h3
theorem aCw {m k:Mc}{cs ck:Array Value}{w:World}(hm:IsM w m cs)(hk:IsM w k ck):Calls Tryz.prog 16 #[.agg cs,.agg ck] w fun e w'=>e=.returned (.bool (sameM m k))∧Below w.heap.size w w':=by
 obtain⟨zs,⟨p,r,d⟩,⟨mo,ba,l,op,oh,ot,st,fe,fp,fh,ft,lo⟩⟩:=m
 obtain⟨zs1,⟨p1,r1,d1⟩,⟨mo1,ba1,l1,op1,oh1,ot1,st1,fe1,fp1,fh1,ft1,lo1⟩⟩:=k
 obtain⟨a1,n1,c1,a2,n2,c2,a3,n3,c3,rfl,h1,h2,h3⟩:=hm
 obtain⟨b1,k1,e1,b2,k2,e2,b3,k3,e3,rfl,g1,g2,g3⟩:=hk
 exact yE _ zs p _ r d mo ba op oh ot fe fp fh ft st lo _ l _ zs1 p1 _ r1 d1 mo1 ba1 op1 oh1 ot1 fe1 fp1 fh1 ft1 st1 lo1 _ l1 w h1 h2 h3 g1 g2 g3
theorem aDi {w:World}{n:Nat}(h:n=w.heap.size)(z:Int)(fr:Nat × Nat):Sl (w.alloc (.cells #[J z] 41 fr)) (.slice (some ⟨n,0,none⟩) 1 1) [z]:=
 bG (aY h) rfl rfl (by simp[maxLen])
set_option maxRecDepth 10000 in
set_option maxHeartbeats 4000000 in
theorem aDl {m:Mc}{l:List Hp}{cs:Array Value}{v:Value}{w:World}(hm:IsM w m cs)(hl:Hps w v l)(hE:¬rnE m l=0):
  Calls Tryz.prog 5 #[.agg cs,v] w fun e w'=>e=.returned (.bool true)∧Below w.heap.size w w':=by
 have HM:Hid (IsM w m cs):=hm
 have HL:Hid (Hps w v l):=hl
 obtain⟨va,vk,rfl⟩:=hl.shape
 have hc16:cs.size=16:=hm.size.1
 have X0:=Box.newAt (w:=w) (n:=w.heap.size) rfl 33 cs
 have BW:Hid (Below w.heap.size w (w.alloc (.cells cs 33))):=aA (Below.refl w.heap.size w) _
 clear hm hl
 go_enter Tryz.func5,Tryz.ntmps5
 go_upto_region 1 with fail
 (try simp only[Value.cells])
 generalize (w.alloc (.cells cs 33))=W at *
 have HI:(Tryz.prog.info? 33).map (·.size)=some cs.size:=by rw[infoM,hc16]
 go_wp2_with (first
  | fail
  | (refine wpList_load_row rfl 33 (.tmp 2) rfl w.heap.size rfl _ _ _ _ X0 Tryz.underlying33 rfl HI ?_))
 refine (aBf (HM.out.keep BW.out) (HL.out.keep BW.out)).mono ?_
 rintro e w1 ⟨cs1,a1,c1,a2,c2,rfl,IM,-,-,-,-,-,b1⟩
 have hX:=gE hE
 have HZ:Hid (rnE m l=if chkM m=0 then (if l.length≤120 then 0 else 1) else chkM m):=rfl
 obtain⟨E,hEE⟩:∃E,rnE m l=E:=⟨_,rfl⟩
 rw[hEE] at hE HZ ⊢
 rw[hX] at IM ⊢
 clear hEE hX
 dsimp only[List.length_nil] at IM ⊢
 obtain⟨hs1,ha1⟩:=IM.size
 have B1:Hid (Below w.heap.size w w1):=aB BW.out b1
 have hn:w.heap.size≤w1.heap.size:=B1.out.size
 have Z7:Box (w1.alloc (.cells zM 33)) w1.heap.size 33 zeroM:=Box.newAt rfl _ _
 have B2:Below w1.heap.size w1 ((w1.alloc (.cells zM 33)).setRow w1.heap.size cs1):=aG (Nat.le_refl _) (aA (Below.refl _ _) _) _
 have X0:=(X0.keep b1).keep B2
 have IM:=IM.keep B2
 have X7:=Z7.setRow cs1
 have B2h:Hid (Below w.heap.size w _):=aB B1.out B2
 clear B2 BW b1 B1 hn
 go_upto_region 2 with (first
  | fail
  | (refine wpList_store_row rfl 33 (.tmp 5) (.tmp 21) rfl w1.heap.size cs1 rfl rfl _ _ Z7 (by rw[infoM,hs1]) (by rw[hs1];rfl) ha1 ?_))
 clear Z7
 generalize ((w1.alloc (.cells zM 33)).setRow w1.heap.size cs1)=w2 at *
 generalize w1.heap.size=n7 at *
 go_wp2_with (first
  | fail
  | (refine wpList_load_row rfl 33 (.tmp 2) rfl w.heap.size rfl _ _ _ _ X0 Tryz.underlying33 rfl HI ?_))
 refine (aC1 (HM.out.keep B2h.out)).mono ?_
 rintro e w3 ⟨rfl,b3⟩
 have X7:=X7.keep b3
 have IM:Hid (IsM w3 M0 cs1):=IM.keep b3
 have B3:Hid (Below w.heap.size w w3):=aB B2h.out b3
 clear b3 B2h X0 HI hs1 ha1 hc16
 obtain⟨z,hz⟩:∃z,chkM m=z:=⟨_,rfl⟩
 rw[hz] at HZ ⊢
 clear hz
 have hE2:=HZ.out
 clear HZ
 have HEn:Hid (¬E=0):=hE
 have q:(E !=0)=true:=by simpa using hE
 have qq:(E==E)=true:=by simp
 have HW:Hid (z=0∧E=1∧(l.length:Int)>120∨(¬z=0∧E=z)):=by
  by_cases h0:z=0
  ·rw[if_pos h0] at hE2
   by_cases h1:l.length≤120
   ·rw[if_pos h1] at hE2;exact absurd hE2 hE
   ·rw[if_neg h1] at hE2;exact .inl ⟨h0,hE2,by omega⟩
  ·rw[if_neg h0] at hE2;exact .inr ⟨h0,hE2⟩
 clear hE2 hE
 rcases HW.out with ⟨h0,h1,h2⟩|⟨h0,h1⟩
 rotate_left
 focus
  subst h1
  clear HW
  have q0:(E==0)=false:=by simpa using h0
  go_wp2_with fail
 rotate_left
 focus
  subst h0
  subst h1
  clear HW
  have q0:((0:Int)==0)=true:=rfl
  go_wp2_with fail
 all_goals
  refine (aCt _).mono ?_
  rintro e w4 ⟨rfl,b4⟩
  have X7:=X7.keep b4
  have IM:Hid (IsM w4 M0 cs1):=IM.out.keep b4
  have B4:Hid (Below w.heap.size w w4):=aB B3.out b4
  clear b4 B3
  go_wp2_with fail
  refine (aCt _).mono ?_
  rintro e w5 ⟨rfl,b5⟩
  have X7:=X7.keep b5
  have IM:Hid (IsM w5 M0 cs1):=IM.out.keep b5
  have B5:Hid (Below w.heap.size w w5):=aB B4.out b5
  clear b5 B4
  obtain⟨u1,m1,d1,u2,m2,d2,u3,m3,d3,e1,-⟩:=id IM.out
  subst e1
  obtain⟨⟨i0,i1,i2,i3⟩,⟨j0,j1,j2,j3,j4,j5,j6,j7,j8,j9,j10,j11⟩,s0⟩:=X7.sixteen
  go_wp2_with fail
  refine (aCw IM.out (jK _)).mono ?_
  rintro e w7 ⟨rfl,b7⟩
  rw[aC6]
  clear i0 i1 i2 i3 j0 j1 j2 j3 j4 j5 j6 j7 j8 j9 j10 j11 s0
  go_wp2_with fail
  go_ret
  exact⟨rfl,aB B5.out b7⟩
def RunsR (m:Mc)(l:List Hp)(N:Nat)(WS:World)(i:Nat)(v u:Value)(wx:World):Prop:=i≤l.length∧∃qs,RunsI N WS (rnM m (l.take i)).1 qs (rnM m (l.take i)).2.1 (rnM m (l.take i)).2.2 v u wx
theorem RunsR.step {m:Mc}{l:List Hp}{N:Nat}{WS:World}{i:Nat}{v u:Value}{wx:World}{now Y:Mc}{ts:List To}{es:List Int}{X:Hp}{T:To}{E:Int}{qs:List Tq}(hi:i<l.length)(hR:rnM m (l.take i)=(now,ts,es))(hX:hpth l i=X)(hY:hpR now X=(Y,T))(hE:hpE now X=E)
  (h:RunsI N WS (if E=0 then Y else now) qs (ts++[T]) (es++[E]) v u wx):RunsR m l N WS (i+1) v u wx:=by
 refine⟨hi,qs,?_⟩
 rw[aCj hi,zV,hR,hX]
 dsimp only
 rw[hY,hE]
 exact h
set_option maxRecDepth 10000 in
set_option maxHeartbeats 4000000 in
theorem aDo {m:Mc}{l:List Hp}{cs:Array Value}{v:Value}{w:World}(hm:IsM w m cs)(hl:Hps w v l)(hE:rnE m l=0):
  Calls Tryz.prog 5 #[.agg cs,v] w fun e w'=>e=.returned (.bool true)∧Below w.heap.size w w':=by
 obtain⟨hc0,hl120⟩:=aDn hE
 obtain⟨⟨x,told,said⟩,hR⟩:∃R,rnM m l=R:=⟨_,rfl⟩
 have HR:Hid (rnM m l=(x,told,said)):=hR
 have HE:Hid (rnE m l=0):=hE
 have HC0:Hid (chkM m=0):=hc0
 have HM:Hid (IsM w m cs):=hm
 have HL:Hid (Hps w v l):=hl
 obtain⟨va,vk,rfl⟩:=hl.shape
 have hc16:cs.size=16:=hm.size.1
 have X0:=Box.newAt (w:=w) (n:=w.heap.size) rfl 33 cs
 have BW:Hid (Below w.heap.size w (w.alloc (.cells cs 33))):=aA (Below.refl w.heap.size w) _
 have hWs:w.heap.size<(w.alloc (.cells cs 33)).heap.size:=by simp
 clear hm hl hc0 hE hR
 go_enter Tryz.func5,Tryz.ntmps5
 go_upto_region 1 with fail
 (try simp only[Value.cells])
 generalize (w.alloc (.cells cs 33))=W at *
 have HI:(Tryz.prog.info? 33).map (·.size)=some cs.size:=by rw[infoM,hc16]
 go_wp2_with (first
  | fail
  | (refine wpList_load_row rfl 33 (.tmp 2) rfl w.heap.size rfl _ _ _ _ X0 Tryz.underlying33 rfl HI ?_))
 refine (aDp (HM.out.keep BW.out) (HL.out.keep BW.out) HE.out HR.out).mono ?_
 rintro e w1 ⟨cs1,a1,c1,a2,c2,rfl,IM,TT,SS,OR,F1,F2,b1⟩
 obtain⟨hs1,ha1⟩:=IM.size
 have B1:Hid (Below w.heap.size w w1):=aB BW.out b1
 have hn1:W.heap.size≤w1.heap.size:=b1.size
 have Z7:Box (w1.alloc (.cells zM 33)) w1.heap.size 33 zeroM:=Box.newAt rfl _ _
 have B2:Below w1.heap.size w1 ((w1.alloc (.cells zM 33)).setRow w1.heap.size cs1):=aG (Nat.le_refl _) (aA (Below.refl _ _) _) _
 have X0:=(X0.keep b1).keep B2
 have IM:=IM.keep B2
 have TT:=TT.keep B2
 have SS:=SS.keep B2
 have X7:=Z7.setRow cs1
 have B2h:Hid (Below w.heap.size w _):=aB B1.out B2
 clear B2 BW b1 B1
 go_upto_region 2 with (first
  | fail
  | (refine wpList_store_row rfl 33 (.tmp 5) (.tmp 21) rfl w1.heap.size cs1 rfl rfl _ _ Z7 (by rw[infoM,hs1]) (by rw[hs1];rfl) ha1 ?_))
 clear Z7
 generalize ((w1.alloc (.cells zM 33)).setRow w1.heap.size cs1)=w2 at *
 generalize w1.heap.size=n7 at *
 go_wp2_with (first
  | fail
  | (refine wpList_load_row rfl 33 (.tmp 2) rfl w.heap.size rfl _ _ _ _ X0 Tryz.underlying33 rfl HI ?_))
 refine (aC1 (HM.out.keep B2h.out)).mono ?_
 rintro e w3 ⟨rfl,b3⟩
 rw[HC0.out]
 have X0:=X0.keep b3
 have X7:=X7.keep b3
 have IM:=IM.keep b3
 have TT:=TT.keep b3
 have SS:=SS.keep b3
 have B3:Hid (Below w.heap.size w w3):=aB B2h.out b3
 clear b3 B2h HI hs1 ha1 hc16
 have q0:((0:Int)==0)=true:=rfl
 have q1:¬(l.length:Int)>120:=by omega
 have q2:((0:Int) !=0)=false:=rfl
 go_wp2_with fail
 refine (aCt _).mono ?_
 rintro e WS ⟨rfl,b4⟩
 have HX7:Hid (Box WS n7 33 cs1):=X7.keep b4
 have HIM:Hid (IsM WS x cs1):=IM.keep b4
 have HTT:Hid (Tos WS W.heap.size (.slice a1 told.length c1) told):=TT.keep b4
 have HSS:Hid (Sl WS (.slice a2 said.length c2) said):=SS.keep b4
 have BS:Hid (Below w.heap.size w WS):=aB B3.out b4
 have HST:Hid (RunsR m l w.heap.size WS 0 (.slice none 0 0) (.slice none 0 0) WS):=⟨Nat.zero_le _,[],by rw[List.take_zero];exact RunsI.start HM.out HC0.out (X0.keep b4) BS.out⟩
 have HF:Hid (OffRow (fun q=>q<W.heap.size) cs1∧Fresh W.heap.size (.slice a1 told.length c1)∧Fresh W.heap.size (.slice a2 said.length c2)∧w.heap.size<W.heap.size∧W.heap.size≤n7):=⟨OR,F1,F2,hWs,hn1⟩
 clear X0 X7 IM TT SS B3 b4 OR F1 F2 hWs hn1 q1
 go_wp2
 go_loopw [10,11,13,14,15,16,61] (fun s10 s11 _ _ _ _ s wx=>∃(i:Nat) (a:Option Addr) (n c:Nat) (b:Option Addr) (k d:Nat),s=J i∧s10=.slice a n c∧s11=.slice b k d∧RunsR m l w.heap.size WS i (.slice a n c) (.slice b k d) wx) (fun _ _ _ _ _ _ s _=>l.length-(intOf s).toNat)
 case atStart=>exact⟨0,none,0,0,none,0,0,rfl,rfl,rfl,HST.out⟩
 case round=>
  obtain⟨i,a,n,c,b,k,d,rfl,rfl,rfl,hiq,qs,hRI⟩:=hrel
  clear HST
  obtain⟨⟨now,ts,es⟩,hR⟩:∃R,rnM m (l.take i)=R:=⟨_,rfl⟩
  rw[hR] at hRI
  dsimp only at hRI
  have HRR:Hid (rnM m (l.take i)=(now,ts,es)):=hR
  have HRI:Hid (RunsI w.heap.size WS now qs ts es (.slice a n c) (.slice b k d) wr):=hRI
  clear hR hRI
  have HB:Hid (Below w.heap.size w wr):=BS.out.trans (HRI.out.kept.low BS.out.size (fun q hq e=>by omega))
  have HLN:Hid (qs.length≤120∧es.length≤120):=by
   obtain⟨e1,e2⟩:=pF (l.take i) m
   rw[HRR.out,List.length_take] at e1 e2
   dsimp only at e1 e2
   have e3:=(HRI.out.told _ (KeptB.refl _ _)).1
   exact⟨by omega,by omega⟩
  by_cases hlt:i<l.length
  rotate_left
  ·obtain rfl:i=l.length:=by omega
   have e:=HRR.out
   rw[List.take_length,HR.out] at e
   simp only[Prod.mk.injEq] at e
   obtain⟨e1,e2,e3⟩:=e
   subst e1
   subst e2
   subst e3
   have K:=HRI.out.kept
   obtain⟨OR,F1,F2,hw1,hw2⟩:=HF.out
   have X7:=HX7.out.kept K (by omega)
   have IX:Hid (IsM wr x cs1):=HIM.out.kept K OR (fun q hq=>by (try dsimp only at hq ⊢);omega)
   have TX:Tos wr W.heap.size (.slice a1 told.length c1) told:=HTT.out.kept K F1 (fun q hq=>by (try dsimp only at hq ⊢);omega)
   have SX:Hid (Sl wr (.slice a2 said.length c2) said):=HSS.out.kept K (fun q hq hb=>by have:=F2 q hq;(try dsimp only at hb);omega)
   obtain⟨csn,XN,IN,-⟩:=HRI.out.now
   have IZ:Hid (IsM wr x csn):=IN
   obtain⟨qx,qx1,qx2⟩:=TX
   have QX:Hid (Qs wr (.slice a1 told.length c1) qx):=qx1
   have MX:Hid (Means wr W.heap.size qx told):=qx2
   have MQ:Hid (Means wr 0 qs told):=HRI.out.told _ (KeptB.refl _ _)
   have QQ:Hid (Qs wr (.slice a n c) qs):=HRI.out.own.ls
   have SE:Hid (Sl wr (.slice b k d) said):=HRI.out.said.sl (by have:=HLN.out.2;unfold maxLen;omega)
   clear K OR F1 F2 hw1 hw2 HX7 HIM HTT HSS HF IN qx1 qx2 HRI HRR HLN HR
   go_wp2_with fail
   refine (uN _ _ said said _ SX.out SE.out).mono ?_
   rintro e w7 ⟨rfl,nq,rfl⟩
   rw[decide_eq_true (rfl:said=said)]
   have bq:Below wr.heap.size wr (wr.drewN nq):=aH (Below.refl _ _) nq
   have X7:=X7.keep bq
   have XN:=XN.keep bq
   have IX:Hid (IsM (wr.drewN nq) x cs1):=IX.out.keep bq
   have IZ:Hid (IsM (wr.drewN nq) x csn):=IZ.out.keep bq
   have QX:Hid (Qs (wr.drewN nq) (.slice a1 told.length c1) qx):=QX.out.keep bq
   have QQ:Hid (Qs (wr.drewN nq) (.slice a n c) qs):=QQ.out.keep bq
   have MX:Hid (Means (wr.drewN nq) W.heap.size qx told):=MX.out.keep bq
   have MQ:Hid (Means (wr.drewN nq) 0 qs told):=MQ.out.keep bq
   have HB7:Hid (Below w.heap.size w (wr.drewN nq)):=aH HB.out nq
   clear bq SX SE HB
   generalize wr.drewN nq=w7 at *
   go_wp2_with fail
   refine (equalFuncQ QX.out QQ.out MX.out MQ.out).mono ?_
   rintro e w9 ⟨rfl,b9⟩
   have X7:=X7.keep b9
   have XN:=XN.keep b9
   have IX:Hid (IsM w9 x cs1):=IX.out.keep b9
   have IZ:Hid (IsM w9 x csn):=IZ.out.keep b9
   have HB9:Hid (Below w.heap.size w w9):=aB HB7.out b9
   clear b9 HB7 QX QQ MX MQ
   obtain⟨u1,m1,d1,u2,m2,d2,u3,m3,d3,e1,-⟩:=id IX.out
   obtain⟨u4,m4,d4,u5,m5,d5,u6,m6,d6,e3,-⟩:=id IZ.out
   subst e1
   subst e3
   obtain⟨⟨i0,i1,i2,i3⟩,⟨j0,j1,j2,j3,j4,j5,j6,j7,j8,j9,j10,j11⟩,s0⟩:=X7.sixteen
   obtain⟨⟨g0,g1,g2,g3⟩,⟨h0,h1,h2,h3,h4,h5,h6,h7,h8,h9,h10,h11⟩,s1⟩:=XN.sixteen
   go_wp2_with fail
   refine (aCw IX.out IZ.out).mono ?_
   rintro e w10 ⟨rfl,b10⟩
   rw[aC6]
   clear i0 i1 i2 i3 j0 j1 j2 j3 j4 j5 j6 j7 j8 j9 j10 j11 s0 g0 g1 g2 g3 h0 h1 h2 h3 h4 h5 h6 h7 h8 h9 h10 h11 s1
   go_wp2_with fail
   go_ret
   exact⟨rfl,aB HB9.out b10⟩
  obtain⟨cs0,X0,M0,O0⟩:=HRI.out.now
  have HO0:Hid (OffL (RBad w.heap.size (.slice a n c) (.slice b k d)) now.b.cache cs0):=O0
  obtain⟨hs0,ha0⟩:=M0.size
  obtain⟨b2,o2,hva,hbl,hA⟩:=hps_at HL.out HB.out (i:=i) hlt
  subst hva
  obtain⟨X,hX⟩:∃X,hpth l i=X:=⟨_,rfl⟩
  have HX:Hid (hpth l i=X):=hX
  rw[hX] at hA
  clear hX O0
  obtain⟨u,q3,q4,q5,q6,q7,q8,q9,hS⟩:=hA
  have HSd:Hid (Sl wr u X.ds):=hS.1
  obtain⟨da,dn,dc,rfl⟩:∃a k c,u=.slice a k c:=let ⟨a,c,e,_⟩:=hS.1;⟨a,_,c,e⟩
  have hlt1:(i:Int)<(l.length:Int):=by omega
  clear hS
  have s0:=X0.lt
  have X0a:=X0.past (.cells #[J X.kind,J X.num,J X.d,J X.a,J X.n,.bool X.wr,.slice da dn dc] 37)
  go_wp2_with (first
   | fail
   | (refine wpList_load_row rfl 33 (.tmp 2) rfl w.heap.size rfl _ _ _ _ X0a Tryz.underlying33 rfl (by rw[infoM,hs0]) ?_))
  have BX:Hid (Below wr.heap.size wr (wr.alloc (.cells #[J X.kind,J X.num,J X.d,J X.a,J X.n,.bool X.wr,.slice da dn dc] 37))):=aA (Below.refl _ _) _
  refine (aDg (m:=now) (x:=X) (M0.keep BX.out) ⟨_,_,_,rfl,HSd.out.keep BX.out⟩ HRI.out.good).mono ?_
  rintro e w4 ⟨cy,ct,rfl,hM,hT,o2,hN,b4⟩
  have B4:Hid (Below wr.heap.size wr w4):=aB BX.out b4
  have z6:wr.heap.size<w4.heap.size:=by have:=b4.size;simp at this;omega
  obtain⟨hs1,ha1⟩:=hM.size
  obtain⟨⟨Y,T⟩,hYT⟩:∃R,hpR now X=R:=⟨_,rfl⟩
  have HYT:Hid (hpR now X=(Y,T)):=hYT
  rw[hYT] at hM hT hN
  obtain⟨a4,n4,c4,a5,n5,c5,rfl,hd4,ht5⟩:=hT
  dsimp only at hM hd4 ht5 hN
  have HON:Hid (OffL (RBad w.heap.size (.slice a n c) (.slice b k d)) Y.b.cache cy):=hN _ (fun q hq=>by have:=HRI.out.bad q hq;simp;omega) HO0.out
  obtain⟨E,hE⟩:∃E,hpE now X=E:=⟨_,rfl⟩
  have HEE:Hid (hpE now X=E):=hE
  rw[hE]
  clear hE hYT b4 X0a q3 q4 q5 q6 q7 q8 q9 hN HO0
  obtain⟨n14,hn14⟩:∃n,w4.heap.size=n:=⟨_,rfl⟩
  obtain⟨n15,hn15⟩:∃n,n14+1=n:=⟨_,rfl⟩
  have X14:Box ((w4.alloc (.cells zM 33)).alloc (.cells zT 40)) n14 33 zeroM:=(Box.newAt hn14.symm _ _).past _
  have X15:Box ((w4.alloc (.cells zM 33)).alloc (.cells zT 40)) n15 40 zeroT:=Box.newAt (by simp;omega) _ _
  have h45:n14≠n15:=by omega
  have X0:=((((X0.keep B4.out).past (.cells zM 33)).past (.cells zT 40)).otherRow (show w.heap.size≠n14 by omega) cy).otherRow (show w.heap.size≠n15 by omega) #[.bool T.done,.slice a4 n4 c4,J T.f,.slice a5 n5 c5]
  have B5:Hid (Below wr.heap.size wr ((((w4.alloc (.cells zM 33)).alloc (.cells zT 40)).setRow n14 cy).setRow n15 #[.bool T.done,.slice a4 n4 c4,J T.f,.slice a5 n5 c5])):=aG (by omega) (aG (by omega) (aA (aA B4.out _) _) _) _
  have K5B:Below w4.heap.size w4 ((((w4.alloc (.cells zM 33)).alloc (.cells zT 40)).setRow n14 cy).setRow n15 #[.bool T.done,.slice a4 n4 c4,J T.f,.slice a5 n5 c5]):=aG (by omega) (aG (by omega) (aA (aA (Below.refl _ _) _) _) _) _
  have hM:=hM.keep K5B
  have hx:Mean ((((w4.alloc (.cells zM 33)).alloc (.cells zT 40)).setRow n14 cy).setRow n15 #[.bool T.done,.slice a4 n4 c4,J T.f,.slice a5 n5 c5]) wr.heap.size ⟨T.done,a4,n4,c4,T.f,a5,n5,c5⟩ T:=⟨rfl,rfl,hd4.keep K5B,ht5.keep K5B,(Off.fresh (o2 1 _ rfl)).mono (by simp),(Off.fresh (o2 3 _ rfl)).mono (by simp)⟩
  have HMX:Hid (Mean ((((w4.alloc (.cells zM 33)).alloc (.cells zT 40)).setRow n14 cy).setRow n15 #[.bool T.done,.slice a4 n4 c4,J T.f,.slice a5 n5 c5]) wr.heap.size ⟨T.done,a4,n4,c4,T.f,a5,n5,c5⟩ T):=hx
  have Z14:=X14
  have Z15:=X15.otherRow h45.symm cy
  have X14:=(X14.setRow cy).otherRow h45 #[.bool T.done,.slice a4 n4 c4,J T.f,.slice a5 n5 c5]
  have X15:=Z15.setRow #[.bool T.done,.slice a4 n4 c4,J T.f,.slice a5 n5 c5]
  have z06:w.heap.size<wr.heap.size:=s0
  have z015:n15≠w.heap.size:=by omega
  have HR5:Hid (RunsI w.heap.size WS now qs ts es (.slice a n c) (.slice b k d) ((((w4.alloc (.cells zM 33)).alloc (.cells zT 40)).setRow n14 cy).setRow n15 #[.bool T.done,.slice a4 n4 c4,J T.f,.slice a5 n5 c5])):=HRI.out.keep B5.out
  have HBAD:Hid (∀q,RBad w.heap.size (.slice a n c) (.slice b k d) q→q<wr.heap.size):=HRI.out.bad
  clear K5B hd4 ht5 hx o2 M0 ha0
  go_upto_region 13 with (first
   | fail
   | (refine wpList_store_row rfl 33 (.tmp 14) (.tmp 69) rfl n14 cy rfl rfl _ _ Z14 (by rw[infoM,hs1]) (by rw[hs1];rfl) ha1 ?_)
   | (refine wpList_store_row rfl 40 (.tmp 15) (.tmp 70) rfl n15 _ rfl rfl _ _ Z15 infoTo rfl (by simp[Value.oneCell']) ?_))
  clear Z14 Z15 hn14 hn15 B4 BX B5 HRI HB HSd z6
  generalize ((((w4.alloc (.cells zM 33)).alloc (.cells zT 40)).setRow n14 cy).setRow n15 #[.bool T.done,.slice a4 n4 c4,J T.f,.slice a5 n5 c5])=w5 at *
  have HGY:Hid (chkM (if E=0 then Y else now)=0):=by
   have e:=qR (l.take (i+1)) m HC0.out
   rw[aCj hlt,zV,HRR.out,HX.out] at e
   dsimp only at e
   rw[HYT.out,HEE.out] at e
   exact e
  by_cases hE0:E=0
  rotate_left
  focus
   have q:(E==0)=false:=by simpa using hE0
   have RI6:Hid (RunsI w.heap.size WS (if E=0 then Y else now) qs ts es (.slice a n c) (.slice b k d) w5):=by
    show RunsI _ _ _ _ _ _ _ _ _
    rw[if_neg hE0]
    exact HR5.out
   have MX6:Hid (Mean w5 wr.heap.size ⟨T.done,a4,n4,c4,T.f,a5,n5,c5⟩ T):=HMX.out
   clear HMX HR5 HON HGY X0 X14 hM hs1 ha1 hs0
   go_upto_region 15 with fail
   clear q
   generalize w5=w6 at *
  rotate_left
  focus
   have q:(E==0)=true:=by simpa using hE0
   have RI6:Hid (RunsI w.heap.size WS (if E=0 then Y else now) qs ts es (.slice a n c) (.slice b k d) (w5.setRow w.heap.size cy)):=by
    have g:=HGY.out
    rw[if_pos hE0] at g
    show RunsI _ _ _ _ _ _ _ _ _
    rw[if_pos hE0]
    exact HR5.out.next hM g HON.out
   have MX6:Hid (Mean (w5.setRow w.heap.size cy) wr.heap.size ⟨T.done,a4,n4,c4,T.f,a5,n5,c5⟩ T):=HMX.out.kept ((KeptB.refl (fun q=>q=w.heap.size) w5).setRow (n:=w.heap.size) (.inl rfl) cy) (fun q hq=>by (try dsimp only at hq);omega)
   have X15:=X15.otherRow z015 cy
   clear HMX HR5 HON HGY hE0
   go_upto_region 15 with (first
    | fail
    | (refine wpList_load_row rfl 33 (.tmp 14) rfl n14 rfl _ _ _ _ X14 Tryz.underlying33 rfl (by rw[infoM,hs1]) ?_)
    | (refine wpList_store_row rfl 33 (.tmp 2) (.tmp 74) rfl (w.heap.size) cy rfl rfl _ _ X0 (by rw[infoM,hs1]) (by rw[hs1];exact hs0) ha1 ?_))
   clear X0 X14 hM hs1 ha1 hs0 q
   generalize (w5.setRow w.heap.size cy)=w6 at *
  all_goals
   obtain⟨z0,z1,z2,z3,-,-,-,-,s8⟩:=X15.four
   have RI7:Hid (RunsI w.heap.size WS (if E=0 then Y else now) qs ts es (.slice a n c) (.slice b k d) (w6.alloc (.cells #[.bool T.done,.slice a4 n4 c4,J T.f,.slice a5 n5 c5] 40))):=RI6.out.keep (aA (Below.refl _ _) _)
   have MX7:Hid (Mean (w6.alloc (.cells #[.bool T.done,.slice a4 n4 c4,J T.f,.slice a5 n5 c5] 40)) wr.heap.size ⟨T.done,a4,n4,c4,T.f,a5,n5,c5⟩ T):=MX6.out.keep (aA (Below.refl _ _) _)
   have hq1:qs.length+1≤1000:=by have:=HLN.out.1;omega
   clear RI6 MX6
   go_wp2_with (at_builtin;refine yF rfl (.tmp 75) (.tmp 77) rfl WS.heap.size _ _ qs [(⟨T.done,a4,n4,c4,T.f,a5,n5,c5⟩:Tq)] rfl rfl RI7.out.own (qs_oneAt rfl ⟨T.done,a4,n4,c4,T.f,a5,n5,c5⟩ _) hq1 RI7.out.kept.size (.inr (by simp)) ?_)
   intro g1 cp1 w7 ho1 hg1 hb1 hat1
   have RI8:Hid (RunsI w.heap.size WS (if E=0 then Y else now) (qs++[(⟨T.done,a4,n4,c4,T.f,a5,n5,c5⟩:Tq)]) (ts++[T]) es (.slice (some ⟨g1,0,none⟩) (qs.length+1) cp1) (.slice b k d) w7):=RI7.out.tell MX7.out HBAD.out ho1 hg1 rfl (hat1.imp id (fun e=>e.trans (by simp)))
   clear ho1 hg1 hb1 hat1 RI7 MX7 hq1 z0 z1 z2 z3 s8 X15
   have RI9:Hid (RunsI w.heap.size WS (if E=0 then Y else now) (qs++[(⟨T.done,a4,n4,c4,T.f,a5,n5,c5⟩:Tq)]) (ts++[T]) es (.slice (some ⟨g1,0,none⟩) (qs.length+1) cp1) (.slice b k d) (w7.alloc (.cells #[J E] 41))):=RI8.out.keep (aA (Below.refl _ _) _)
   have hq2:es.length+1≤1000:=by have:=HLN.out.2;omega
   clear RI8
   go_wp2_with (at_builtin;refine yD rfl (.tmp 79) (.tmp 81) rfl WS.heap.size _ _ es [E] rfl rfl RI9.out.said (aDi rfl E _) hq2 RI9.out.kept.size (.inr (by simp)) ?_)
   intro g2 cp2 w9 ho2 hg2 hb2 hat2
   have RI10:Hid (RunsI w.heap.size WS (if E=0 then Y else now) (qs++[(⟨T.done,a4,n4,c4,T.f,a5,n5,c5⟩:Tq)]) (ts++[T]) (es++[E]) (.slice (some ⟨g1,0,none⟩) (qs.length+1) cp1) (.slice (some ⟨g2,0,none⟩) (es.length+1) cp2) w9):=RI9.out.say ho2 hg2 rfl (hat2.imp id (fun e=>e.trans (by simp)))
   clear ho2 hg2 hb2 hat2 RI9 hq2
   have HST:Hid (RunsR m l w.heap.size WS (i+1) (.slice (some ⟨g1,0,none⟩) (qs.length+1) cp1) (.slice (some ⟨g2,0,none⟩) (es.length+1) cp2) w9):=RunsR.step hlt HRR.out HX.out HYT.out HEE.out RI10.out
   clear RI10
   go_wp2_with fail
   exact⟨⟨i+1,_,_,_,_,_,_,by go_num,rfl,rfl,HST.out⟩,by simp[intOf];omega⟩
theorem aDm {m:Mc}{l:List Hp}{cs:Array Value}{v:Value}{w:World}(hm:IsM w m cs)(hl:Hps w v l):
  Calls Tryz.prog 5 #[.agg cs,v] w fun e w'=>e=.returned (.bool true)∧Below w.heap.size w w':=by
 by_cases h:rnE m l=0
 ·exact aDo hm hl h
 ·exact aDl hm hl h
theorem aDj (u:Value)(zs:List Int)(p:Int)(v:Value)(r:List Int)(d:Bool)(mo ba op oh ot fe fp fh ft:Int)(st lo:Bool)(vc:Value)(l:List Ln)(v1:Value)(l1:List Hp)(w:World)(hm:Sl w u zs∧Sl w v r∧Ls w vc l)(hl:Hps w v1 l1):
  Calls Tryz.prog 5 #[.agg (rM u p v d mo ba vc op oh ot st fe fp fh ft lo),v1] w fun e w'=>e=.returned (.bool true)∧Below w.heap.size w w':=aDm (isM_any hm) hl
end Go.Proofs.YthlhocneggcekaaGreat
namespace Go.Proofs.YthlhocneggcekaaGreat
open Go.ChangeShapes Go.WideShapes Go.ChangeAt Go.RowKit
set_option linter.unusedVariables false
set_option maxRecDepth 100000 in
theorem aDh (os:Os)(started:os.Started)(H:Type)(enc:TypeId × Value→H):
  ReturnsInHanded {} Tryz.checked os 5 .any (Rows.machineRunsSpec.pre6 enc Tryz.prog Tryz.f5 Rows.machineRunsRow.domain false) (Rows.machineRunsSpec.post enc Tryz.prog Tryz.f5 false true false false):=by
 refine returnsInHanded_of_change (C:=Tryz.checked) law_own started (by kernel_rfl) Tryz.func5
  (ChangeSpec.witness6 (enc:=enc) (C:=Tryz.checked) false ⟨#[],#[.agg zM,.slice none 0 0],[]⟩ 8 (by kernel_rfl) (by kernel_rfl) (by kernel_rfl) (by kernel_rfl)) ?_
 intro W base args ds gs before hval0 hW hcnd _
 have hval:∀(j:Nat) t v,Tryz.f5.params[j]?=some t→args[j]?=some v→Value.okWide Tryz.prog W .any base t v:=hval0
 have hW':=hW
 obtain⟨p,q,hA0,hV,rfl,hfz,hnd⟩:=hW
 have hA:DataW.TrodAll enc Tryz.prog W 0 (fun _=>true) true Tryz.f5.params.toList args.toList ds p:=hA0
 rw[Tryz.params5] at hA hval
 obtain⟨v0,vs0,d0,ds0,p0,q0,hargs,rfl,rfl,h0,r0⟩:=trodAll_cons hA
 obtain⟨v1,vs1,d1,ds1,p1,q1,rfl,rfl,rfl,h1,r1⟩:=trodAll_cons r0
 obtain⟨rfl,rfl,rfl⟩:=trodAll_nil r1
 obtain rfl:args=#[v0,v1]:=by cases args;simp_all
 obtain⟨rfl,rfl⟩:=trodVars_none hV
 have k0:=h0
 have lt0:∀x∈p0,x.block<W.heap.size:=by obtain⟨m,hm⟩:=k0;exact DataW.trod_lt m _ _ _ hm
 have k1:=h1
 have lt1:∀x∈p1,x.block<W.heap.size:=by obtain⟨m,hm⟩:=k1;exact DataW.trod_lt m _ _ _ hm
 obtain⟨u0,zs0,x0,y0,g0,f0,mo0,ba0,op0,oh0,ot0,fe0,fp0,fh0,ft0,st0,lo0,vc0,l0,rfl,s0⟩:=open_mch (hval 0 33 v0 rfl rfl) h0
 obtain⟨l1,s1⟩:=open_hps (hval 1 56 v1 rfl rfl) h1
 clear hA0 hval0
 refine (aDj u0 zs0 x0 y0 g0 f0 mo0 ba0 op0 oh0 ot0 fe0 fp0 fh0 ft0 st0 lo0 vc0 l0 v1 l1 W s0 s1).mono fun e W' ⟨he,bel⟩=>?_
 subst he
 exact⟨_,rfl,_,_,_,[],_,[],hW',trodAll_mk1 (shut_bool Tryz.underlying4 _),(trodAll_cons_mk (Below.trod law_laidOut (by kernel_rfl) (of_decide_eq_true (by kernel_rfl)) k0 bel lt0) (trodAll_cons_mk (Below.trod law_laidOut (by kernel_rfl) (of_decide_eq_true (by kernel_rfl)) k1 bel lt1) trodAll_mk0)),rfl,bel.frame _,fun h=>by cases h⟩
theorem aDk:Rows.machineRunsRow.holds Tryz.pinned (OpenSpec.ofChange Rows.machineRunsSpec):=
 OpenClaim.holds_of_wide 5 Tryz.f5 rfl rfl rfl rfl rfl rfl rfl ⟨rfl,rfl,rfl,rfl,rfl⟩ rfl rfl rfl rfl rfl (by kernel_rfl) Tryz.func5 (by kernel_rfl)
  (of_decide_eq_true (by kernel_rfl)) (by unfold Func.isWrapper;first|(rw[if_pos (by decide +kernel)];kernel_rfl)|(rw[if_neg (by decide +kernel)];exact⟨rfl,rfl⟩))
  (fun os started H enc _=>aDh os started H enc)
theorem mruns_holds:Rows.MachineRunsSaid:=aDk
#print axioms mruns_holds
end Go.Proofs.YthlhocneggcekaaGreat
