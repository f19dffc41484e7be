/-
  Laid together: HStep.
-/
import Derived.Test.YthlhocneggcekaaGreatD37
import Derived.Test.YthlhocneggcekaaGreatD38
namespace Go.Proofs.YthlhocneggcekaaGreat
open Go.RowKit
theorem kP {w:World}{m q:Nat}(h:q≠m)(u0:Value):(w.setCell ⟨m,0,none⟩ u0).heap[q]?=w.heap[q]?:=by
 rw[heap_setCell_other _ ⟨m,0,none⟩ q u0 h]
theorem kQ {w:World}{m q:Nat}(h:q≠m)(u0 u1 u2:Value):(((w.setCell ⟨m,0,none⟩ u0).setCell ⟨m,1,none⟩ u1).setCell ⟨m,2,none⟩ u2).heap[q]?=w.heap[q]?:=by
 rw[heap_setCell_other _ ⟨m,2,none⟩ q u2 h,heap_setCell_other _ ⟨m,1,none⟩ q u1 h,heap_setCell_other _ ⟨m,0,none⟩ q u0 h]
theorem jO {w:World}{m q:Nat}(h:q≠m)(u0 u1 u2 u3 u4 u5 u6 u7 u8 u9 u10 u11:Value):((((((((((((w.setCell ⟨m,0,none⟩ u0).setCell ⟨m,1,none⟩ u1).setCell ⟨m,2,none⟩ u2).setCell ⟨m,3,none⟩ u3).setCell ⟨m,4,none⟩ u4).setCell ⟨m,5,none⟩ u5).setCell ⟨m,6,none⟩ u6).setCell ⟨m,7,none⟩ u7).setCell ⟨m,8,none⟩ u8).setCell ⟨m,9,none⟩ u9).setCell ⟨m,10,none⟩ u10).setCell ⟨m,11,none⟩ u11).heap[q]?=w.heap[q]?:=by
 rw[heap_setCell_other _ ⟨m,11,none⟩ q u11 h,heap_setCell_other _ ⟨m,10,none⟩ q u10 h,heap_setCell_other _ ⟨m,9,none⟩ q u9 h,heap_setCell_other _ ⟨m,8,none⟩ q u8 h,heap_setCell_other _ ⟨m,7,none⟩ q u7 h,heap_setCell_other _ ⟨m,6,none⟩ q u6 h,heap_setCell_other _ ⟨m,5,none⟩ q u5 h,heap_setCell_other _ ⟨m,4,none⟩ q u4 h,heap_setCell_other _ ⟨m,3,none⟩ q u3 h,heap_setCell_other _ ⟨m,2,none⟩ q u2 h,heap_setCell_other _ ⟨m,1,none⟩ q u1 h,heap_setCell_other _ ⟨m,0,none⟩ q u0 h]
theorem Sl.blk {w w':World}{v:Value}{zs:List Int}(h:Sl w v zs)(hs:w.heap.size≤w'.heap.size)(hb:∀q,v.ownBlock=some q→w'.heap[q]?=w.heap[q]?):Sl w' v zs:=by
 obtain⟨ad,cap,rfl,hl,h⟩:=h
 refine⟨ad,cap,rfl,hl,?_⟩
 rcases h with h|⟨b,o,rfl,hlt,hc⟩
 ·exact .inl h
 ·exact .inr ⟨b,o,rfl,Nat.lt_of_lt_of_le hlt hs,fun i hi=>by rw[World.cell?_of_block (a:=⟨b,o+i,none⟩) (hb b (by simp[Value.ownBlock]))];exact hc i hi⟩
theorem Ls.blk {w w':World}{v:Value}{l:List Ln}(h:Ls w v l)(hs:w.heap.size≤w'.heap.size)(hb:∀q,v.ownBlock=some q→w'.heap[q]?=w.heap[q]?):Ls w' v l:=by
 obtain⟨ad,cap,rfl,hl,hc,h⟩:=h
 refine⟨ad,cap,rfl,hl,hc,?_⟩
 rcases h with h|⟨b,o,rfl,hlt,hc⟩
 ·exact .inl h
 ·have hcell:∀j,w'.cell? ⟨b,j,none⟩=w.cell? ⟨b,j,none⟩:=fun j=>World.cell?_of_block (a:=⟨b,j,none⟩) (hb b (by simp[Value.ownBlock]))
  refine .inr ⟨b,o,rfl,Nat.lt_of_lt_of_le hlt hs,fun i hi=>?_⟩
  unfold AtL
  rw[hcell,hcell,hcell,hcell,hcell]
  exact hc i hi
theorem pV (zs:List Int)(h:Ht)(b:Br):stE zs h b=if allE zs h b=0 then (if h.done=true then 6 else 0) else allE zs h b:=by
 unfold stE allE
 by_cases h1:chk zs=0
 ·simp only[if_pos h1]
  by_cases h2:chkH h=0
  ·simp only[if_pos h2]
  ·simp only[if_neg h2]
 ·simp only[if_neg h1]
theorem jP {v1 h1 b1:Value}{a c:Int}(h:a=c):Ending.returned (.tuple #[v1,h1,b1,J a])=.returned (.tuple #[v1,h1,b1,J c]):=by rw[h]
theorem jQ {ops:Array Oper}{S:World→Prop}{o:Oper}{a:Act}(hw:Region.wanted o (yielded ops a.tmps)=true)(x:Operand)(ho:o.op=.load 154 x){n:Nat}{t:TypeId}{cs:Array Value}(hx:a.eval x=.pointer (some ⟨n,0,none⟩))(hS:∀w,S w→Box w n t cs)(hs:cs.size=22):YieldsIf Tryz.prog ops S o (.agg cs) a:=
 .inl ⟨hw,fun w hw'=>by
  unfold execOp
  simp only[ho,hx,Instr.loadAt,Instr.sureAddr,Sem.run_bind,Sem.run_pure,Result.andThen_ok,Box.loadState (hS w hw') hs]⟩
abbrev StpOut (zs:List Int)(h:Ht)(b:Br)(w:World)(e:Ending)(w':World):Prop:=
 ∃v1 zs1 p1 u1 r1 d1 mo1 ba1 op1 oh1 ot1 fe1 fp1 fh1 ft1 st1 lo1 vc1 l1,e=.returned (.tuple #[.agg #[v1],.agg #[J p1,u1,.bool d1],.agg (rB mo1 ba1 vc1 op1 oh1 ot1 st1 fe1 fp1 fh1 ft1 lo1),J (stE zs h b)])∧
  Sl w' v1 zs1∧Sl w' u1 r1∧Ls w' vc1 l1∧Fresh w.heap.size v1∧Fresh w.heap.size u1∧Fresh w.heap.size vc1∧stR zs h b=(zs1,⟨p1,r1,d1⟩,⟨mo1,ba1,l1,op1,oh1,ot1,st1,fe1,fp1,fh1,ft1,lo1⟩)∧Below w.heap.size w w'
set_option maxRecDepth 10000 in
set_option maxHeartbeats 8000000 in
theorem aA3 (v:Value)(zs:List Int)(p:Int)(u:Value)(r:List Int)(d:Bool)(mo ba op oh ot fe fp fh ft:Int)(st lo:Bool)(vc:Value)(l:List Ln)(w:World)(hs:Sl w v zs)(hr:Sl w u r)(h:Ls w vc l):
  Calls Tryz.prog 65 #[.agg #[v],.agg #[J p,u,.bool d],.agg (rB mo ba vc op oh ot st fe fp fh ft lo)] w fun e w'=>StpOut zs ⟨p,r,d⟩ ⟨mo,ba,l,op,oh,ot,st,fe,fp,fh,ft,lo⟩ w e w':=by
 have HM:Hid (Sl w v zs):=hs
 have HR:Hid (Sl w u r):=hr
 have HL:Hid (Ls w vc l):=h
 obtain⟨a1,n1,c1,rfl⟩:∃a k c,v=.slice a k c:=let ⟨a,c,e,_⟩:=hs;⟨a,_,c,e⟩
 obtain⟨a2,n2,c2,rfl⟩:∃a k c,u=.slice a k c:=let ⟨a,c,e,_⟩:=hr;⟨a,_,c,e⟩
 obtain⟨ca,cc,rfl,-⟩:=h.shape
 obtain⟨ck,hck⟩:∃ck,ck=l.length:=⟨_,rfl⟩
 rw[←hck] at HL ⊢
 clear hs hr h hck
 obtain⟨e1,hE1⟩:∃e1,allE zs ⟨p,r,d⟩ ⟨mo,ba,l,op,oh,ot,st,fe,fp,fh,ft,lo⟩=e1:=⟨_,rfl⟩
 have HE1:Hid _:=hE1
 clear hE1
 have X0:=(((((Box.newAt (w:=w) (n:=w.heap.size) (by simp) 24 #[.slice a1 n1 c1]).past (.cells #[J p,.slice a2 n2 c2,.bool d] 26)).past (.cells (rB mo ba (.slice ca ck cc) op oh ot st fe fp fh ft lo) 31)).past (.cells #[.slice none 0 0] 24)).past (.cells zH 26)).past (.cells zB 31)
 have X1:=((((Box.newAt (w:=(w.alloc (.cells #[.slice a1 n1 c1] 24))) (n:=w.heap.size+1) (by simp) 26 #[J p,.slice a2 n2 c2,.bool d]).past (.cells (rB mo ba (.slice ca ck cc) op oh ot st fe fp fh ft lo) 31)).past (.cells #[.slice none 0 0] 24)).past (.cells zH 26)).past (.cells zB 31)
 have X2:=(((Box.newAt (w:=((w.alloc (.cells #[.slice a1 n1 c1] 24)).alloc (.cells #[J p,.slice a2 n2 c2,.bool d] 26))) (n:=w.heap.size+1+1) (by simp) 31 (rB mo ba (.slice ca ck cc) op oh ot st fe fp fh ft lo)).past (.cells #[.slice none 0 0] 24)).past (.cells zH 26)).past (.cells zB 31)
 have X3:=((Box.newAt (w:=(((w.alloc (.cells #[.slice a1 n1 c1] 24)).alloc (.cells #[J p,.slice a2 n2 c2,.bool d] 26)).alloc (.cells (rB mo ba (.slice ca ck cc) op oh ot st fe fp fh ft lo) 31))) (n:=w.heap.size+1+1+1) (by simp) 24 #[.slice none 0 0]).past (.cells zH 26)).past (.cells zB 31)
 have X4:=(Box.newAt (w:=((((w.alloc (.cells #[.slice a1 n1 c1] 24)).alloc (.cells #[J p,.slice a2 n2 c2,.bool d] 26)).alloc (.cells (rB mo ba (.slice ca ck cc) op oh ot st fe fp fh ft lo) 31)).alloc (.cells #[.slice none 0 0] 24))) (n:=w.heap.size+1+1+1+1) (by simp) 26 zH).past (.cells zB 31)
 have X5:=Box.newAt (w:=(((((w.alloc (.cells #[.slice a1 n1 c1] 24)).alloc (.cells #[J p,.slice a2 n2 c2,.bool d] 26)).alloc (.cells (rB mo ba (.slice ca ck cc) op oh ot st fe fp fh ft lo) 31)).alloc (.cells #[.slice none 0 0] 24)).alloc (.cells zH 26))) (n:=w.heap.size+1+1+1+1+1) (by simp) 31 zB
 have BW:Hid (Below w.heap.size w _):=aA (aA (aA (aA (aA (aA (Below.refl w.heap.size w) (.cells #[.slice a1 n1 c1] 24)) (.cells #[J p,.slice a2 n2 c2,.bool d] 26)) (.cells (rB mo ba (.slice ca ck cc) op oh ot st fe fp fh ft lo) 31)) (.cells #[.slice none 0 0] 24)) (.cells zH 26)) (.cells zB 31)
 have WS:Hid (((((((w.alloc (.cells #[.slice a1 n1 c1] 24)).alloc (.cells #[J p,.slice a2 n2 c2,.bool d] 26)).alloc (.cells (rB mo ba (.slice ca ck cc) op oh ot st fe fp fh ft lo) 31)).alloc (.cells #[.slice none 0 0] 24)).alloc (.cells zH 26)).alloc (.cells zB 31)).heap.size=w.heap.size+1+1+1+1+1+1):=by show _=_;simp
 go_enter Tryz.func65,Tryz.ntmps65
 go_upto_region 1 with fail
 generalize ((((((w.alloc (.cells #[.slice a1 n1 c1] 24)).alloc (.cells #[J p,.slice a2 n2 c2,.bool d] 26)).alloc (.cells (rB mo ba (.slice ca ck cc) op oh ot st fe fp fh ft lo) 31)).alloc (.cells #[.slice none 0 0] 24)).alloc (.cells zH 26)).alloc (.cells zB 31))=W at *
 obtain⟨m0,-,s0⟩:=X0.one
 obtain⟨i0,i1,i2,-,-,-,s1⟩:=X1.three
 obtain⟨⟨d0,d1,d2,d3,d4,d5,d6,d7,d8,d9,d10,d11⟩,s2⟩:=X2.twelve
 go_wp2_with fail
 refine (nH _ zs p _ r d mo ba op oh ot fe fp fh ft st lo _ l _ (HM.out.keep BW.out) (HR.out.keep BW.out) (HL.out.keep BW.out)).mono ?_
 rintro e w1 ⟨rfl,b1⟩
 rw[HE1.out]
 have X0:=X0.keep b1
 have X1:=X1.keep b1
 have X2:=X2.keep b1
 have X3:=X3.keep b1
 have X4:=X4.keep b1
 have X5:=X5.keep b1
 have B1:Hid (Below w.heap.size w w1):=aB BW.out b1
 have Z1:Hid (w.heap.size+1+1+1+1+1<w1.heap.size):=by show _<_;have:=b1.size;have:=WS.out;omega
 clear b1 m0 s0 i0 i1 i2 s1 d0 d1 d2 d3 d4 d5 d6 d7 d8 d9 d10 d11 s2 BW
 have ZERO:∀w',Sl w' (.slice none 0 0) []:=fun w'=>Sl.nil _ _ _
 by_cases hE:e1=0
 rotate_left
 ·have HSE:Hid (stE zs ⟨p,r,d⟩ ⟨mo,ba,l,op,oh,ot,st,fe,fp,fh,ft,lo⟩=e1):=by show _=_;rw[pV,HE1.out,if_neg hE]
  have HT:Hid (stR zs ⟨p,r,d⟩ ⟨mo,ba,l,op,oh,ot,st,fe,fp,fh,ft,lo⟩=([],⟨0,[],false⟩,⟨0,0,[],0,0,0,false,0,0,0,0,false⟩)):=by show _=_;rw[stR,HSE.out,if_neg hE];rfl
  have hq:(e1 !=0)=true:=by simpa using hE
  obtain⟨r0,r1,s3⟩:=X3.one
  obtain⟨i0,i1,i2,f0,f1,f2,s4⟩:=X4.three
  obtain⟨⟨d0,d1,d2,d3,d4,d5,d6,d7,d8,d9,d10,d11⟩,s5⟩:=X5.twelve
  have f5:=X5.marksAll
  clear X0 X1 X2 X3 X4 X5 hE
  go_wp2
  refine bodyPost_ret (v:=.tuple #[.agg #[.slice none 0 0],.agg zH,.agg zB,J e1]) (by simp[results,Tryz.results65,go_sem, *]) rfl ⟨_,_,_,_,_,_,_,_,_,_,_,_,_,_,_,_,_,_,_,jP HSE.out.symm,Sl.nil _ _ _,Sl.nil _ _ _,Ls.nothing _,Fresh.none _ _ _,Fresh.none _ _ _,Fresh.none _ _ _,HT.out,?_⟩
  exact aJ (by omega) (bO (by omega) (cW (by omega) B1.out _) _ _ _) _ _ _ _ _ _ _ _ _ _ _ _
 subst hE
 obtain⟨i0,i1,i2,-,-,-,s1⟩:=X1.three
 by_cases hd:d=true
 ·subst hd
  have HSE:Hid (stE zs ⟨p,r,true⟩ ⟨mo,ba,l,op,oh,ot,st,fe,fp,fh,ft,lo⟩=6):=by show _=_;rw[pV,HE1.out,if_pos rfl,if_pos rfl]
  have HT:Hid (stR zs ⟨p,r,true⟩ ⟨mo,ba,l,op,oh,ot,st,fe,fp,fh,ft,lo⟩=([],⟨0,[],false⟩,⟨0,0,[],0,0,0,false,0,0,0,0,false⟩)):=by show _=_;rw[stR,HSE.out,if_neg (by decide)];rfl
  obtain⟨r0,r1,s3⟩:=X3.one
  obtain⟨j0,j1,j2,f0,f1,f2,s4⟩:=X4.three
  obtain⟨⟨d0,d1,d2,d3,d4,d5,d6,d7,d8,d9,d10,d11⟩,s5⟩:=X5.twelve
  have f5:=X5.marksAll
  clear X0 X1 X2 X3 X4 X5
  go_wp2
  refine bodyPost_ret (v:=.tuple #[.agg #[.slice none 0 0],.agg zH,.agg zB,J 6]) (by simp[results,Tryz.results65,go_sem, *]) rfl ⟨_,_,_,_,_,_,_,_,_,_,_,_,_,_,_,_,_,_,_,jP HSE.out.symm,Sl.nil _ _ _,Sl.nil _ _ _,Ls.nothing _,Fresh.none _ _ _,Fresh.none _ _ _,Fresh.none _ _ _,HT.out,?_⟩
  exact aJ (by omega) (bO (by omega) (cW (by omega) B1.out _) _ _ _) _ _ _ _ _ _ _ _ _ _ _ _
 obtain rfl:d=false:=by simpa using hd
 clear hd
 have HSE:Hid (stE zs ⟨p,r,false⟩ ⟨mo,ba,l,op,oh,ot,st,fe,fp,fh,ft,lo⟩=0):=by show _=_;rw[pV,HE1.out,if_pos rfl];exact if_neg (by simp)
 have HT:Hid (stR zs ⟨p,r,false⟩ ⟨mo,ba,l,op,oh,ot,st,fe,fp,fh,ft,lo⟩=goS zs ⟨p,r,false⟩ ⟨mo,ba,l,op,oh,ot,st,fe,fp,fh,ft,lo⟩):=by show _=_;rw[stR,HSE.out,if_pos rfl]
 obtain⟨hz,hh,hb,-⟩:=oX HSE.out
 obtain⟨hr8,hp,hrw⟩:=cR hh
 dsimp only at hr8 hp hrw
 have HZ:Hid (chk zs=0):=hz
 have H8:Hid (r.length=8):=hr8
 have HP:Hid (0≤p∧p<512):=hp
 have HRW:Hid (∀j,j<8→0≤nth r j∧nth r j≤65535):=hrw
 have HB:Hid (chkB ⟨mo,ba,l,op,oh,ot,st,fe,fp,fh,ft,lo⟩=0):=hb
 have H6:Hid (l.length≤6):=(aW.1 (bK hb).2.2.2.1).1
 clear hz hh hb hr8 hp hrw
 obtain⟨m0,-,s0⟩:=X0.one
 obtain⟨⟨d0,d1,d2,d3,d4,d5,d6,d7,d8,d9,d10,d11⟩,s2⟩:=X2.twelve
 go_wp2_with fail
 refine (sL _ zs p _ r false mo ba op oh ot fe fp fh ft st lo _ l _ (HM.out.keep B1.out) (HR.out.keep B1.out) (HL.out.keep B1.out) (bF HZ.out).1 H8.out H6.out).mono ?_
 rintro e w2 ⟨g,k,rfl,hS2,hL2,hg2,hk2,b2⟩
 have XS0:=Box.newAt (w:=w2) (n:=w2.heap.size) rfl 154 zS
 have X3:=(X3.keep b2).past (.cells zS 154)
 have X4:=(X4.keep b2).past (.cells zS 154)
 have X5:=(X5.keep b2).past (.cells zS 154)
 have B2:Hid (Below w.heap.size w (w2.alloc (.cells zS 154))):=aA (aB B1.out b2) _
 have Z2:Hid (w.heap.size+1+1+1+1+1<w2.heap.size):=Nat.lt_of_lt_of_le Z1.out b2.size
 have gg:Hid (w.heap.size+1+1+1+1+1<g∧w.heap.size+1+1+1+1+1<k):=⟨Nat.lt_of_lt_of_le Z1.out hg2,Nat.lt_of_lt_of_le Z1.out hk2⟩
 clear b2 hg2 hk2 m0 s0 i0 i1 i2 s1 d0 d1 d2 d3 d4 d5 d6 d7 d8 d9 d10 d11 s2 X0 X1 X2 B1
 have HS2:Hid (Sl w2 (.slice (some ⟨g,0,none⟩) 512 512) zs):=hS2
 have HL2:Hid (Ls w2 (.slice (some ⟨k,0,none⟩) l.length l.length) l):=hL2
 clear hS2 hL2
 go_upto_region 7 with (first
  | (refine wpList_store_row rfl 154 (.tmp 11) (.tmp 32) rfl w2.heap.size _ rfl rfl _ _ XS0 infoState rfl (stateOne _ _ _ _ _ _ _ _ _ _ _ _ _ _ _ _ _ _ _ _ _ _ _ _ _ _) ?_))
 simp only[Act.put]
 have XS:=XS0.setRow (rS (.slice (some ⟨g,0,none⟩) 512 512) p r mo ba (.slice (some ⟨k,0,none⟩) l.length l.length) op oh ot st fe fp fh ft lo)
 have X3:=X3.otherRow (m:=w2.heap.size) (by have:=Z2.out;omega) (rS (.slice (some ⟨g,0,none⟩) 512 512) p r mo ba (.slice (some ⟨k,0,none⟩) l.length l.length) op oh ot st fe fp fh ft lo)
 have X4:=X4.otherRow (m:=w2.heap.size) (by have:=Z2.out;omega) (rS (.slice (some ⟨g,0,none⟩) 512 512) p r mo ba (.slice (some ⟨k,0,none⟩) l.length l.length) op oh ot st fe fp fh ft lo)
 have X5:=X5.otherRow (m:=w2.heap.size) (by have:=Z2.out;omega) (rS (.slice (some ⟨g,0,none⟩) 512 512) p r mo ba (.slice (some ⟨k,0,none⟩) l.length l.length) op oh ot st fe fp fh ft lo)
 have B3:Hid (Below w.heap.size w ((w2.alloc (.cells zS 154)).setRow w2.heap.size (rS (.slice (some ⟨g,0,none⟩) 512 512) p r mo ba (.slice (some ⟨k,0,none⟩) l.length l.length) op oh ot st fe fp fh ft lo))):=aG (by have:=Z2.out;omega) B2.out _
 have C3:Below w2.heap.size w2 ((w2.alloc (.cells zS 154)).setRow w2.heap.size (rS (.slice (some ⟨g,0,none⟩) 512 512) p r mo ba (.slice (some ⟨k,0,none⟩) l.length l.length) op oh ot st fe fp fh ft lo)):=aG (Nat.le_refl _) (aA (Below.refl _ _) _) _
 have HS3:Hid (Sl ((w2.alloc (.cells zS 154)).setRow w2.heap.size (rS (.slice (some ⟨g,0,none⟩) 512 512) p r mo ba (.slice (some ⟨k,0,none⟩) l.length l.length) op oh ot st fe fp fh ft lo)) (.slice (some ⟨g,0,none⟩) 512 512) zs):=HS2.out.keep C3
 have HL3:Hid (Ls ((w2.alloc (.cells zS 154)).setRow w2.heap.size (rS (.slice (some ⟨g,0,none⟩) 512 512) p r mo ba (.slice (some ⟨k,0,none⟩) l.length l.length) op oh ot st fe fp fh ft lo)) (.slice (some ⟨k,0,none⟩) l.length l.length) l):=HL2.out.keep C3
 clear HS2 HL2 C3 B2 XS0
 generalize ((w2.alloc (.cells zS 154)).setRow w2.heap.size (rS (.slice (some ⟨g,0,none⟩) 512 512) p r mo ba (.slice (some ⟨k,0,none⟩) l.length l.length) op oh ot st fe fp fh ft lo))=W3 at *
 generalize w2.heap.size=N11 at *
 have z11:(w.heap.size+1+1+1+1+1)<N11:=Z2.out
 have hN11:=XS.lt
 have Z3:Hid ((w.heap.size+1+1+1+1+1)<W3.heap.size):=by show _<_;omega
 go_wp2_with (first
  | (refine wpList_load_row rfl 154 (.tmp 11) rfl N11 rfl _ _ _ _ XS Tryz.underlying154 rfl infoState ?_))
 refine (xS (some ⟨g,0,none⟩) 512 512 zs p r mo ba op oh ot fe fp fh ft st lo (some ⟨k,0,none⟩) l.length l.length l W3 HS3.out HL3.out HB.out HZ.out H8.out HRW.out HP.out).mono ?_
 rintro e w4 ⟨ok,a4,n4,c4,pc1,rs1,mo1,ba1,op1,oh1,ot1,fe1,fp1,fh1,ft1,st1,lo1,ca1,ck1,cc1,rfl,hno,hyes,b4⟩
 have HNO:Hid _:=hno
 have HYES:Hid _:=hyes
 clear hno hyes
 have XS:=(XS.keep b4).past (.cells zS 154)
 have X3:=(X3.keep b4).past (.cells zS 154)
 have X4:=(X4.keep b4).past (.cells zS 154)
 have X5:=(X5.keep b4).past (.cells zS 154)
 have XT0:=Box.newAt (w:=w4) (n:=w4.heap.size) rfl 154 zS
 have hN4:N11<w4.heap.size:=Nat.lt_of_lt_of_le hN11 b4.size
 go_upto_region 8 with (first
  | (refine wpList_store_row rfl 154 (.tmp 12) (.tmp 36) rfl w4.heap.size _ rfl rfl _ _ XT0 infoState rfl (stateOne _ _ _ _ _ _ _ _ _ _ _ _ _ _ _ _ _ _ _ _ _ _ _ _ _ _) ?_))
 try simp only[Act.put]
 have XT:=XT0.setRow (rS (.slice a4 n4 c4) pc1 rs1 mo1 ba1 (.slice ca1 ck1 cc1) op1 oh1 ot1 st1 fe1 fp1 fh1 ft1 lo1)
 have XS:=XS.otherRow (m:=w4.heap.size) (by omega) (rS (.slice a4 n4 c4) pc1 rs1 mo1 ba1 (.slice ca1 ck1 cc1) op1 oh1 ot1 st1 fe1 fp1 fh1 ft1 lo1)
 have X3:=X3.otherRow (m:=w4.heap.size) (by omega) (rS (.slice a4 n4 c4) pc1 rs1 mo1 ba1 (.slice ca1 ck1 cc1) op1 oh1 ot1 st1 fe1 fp1 fh1 ft1 lo1)
 have X4:=X4.otherRow (m:=w4.heap.size) (by omega) (rS (.slice a4 n4 c4) pc1 rs1 mo1 ba1 (.slice ca1 ck1 cc1) op1 oh1 ot1 st1 fe1 fp1 fh1 ft1 lo1)
 have X5:=X5.otherRow (m:=w4.heap.size) (by omega) (rS (.slice a4 n4 c4) pc1 rs1 mo1 ba1 (.slice ca1 ck1 cc1) op1 oh1 ot1 st1 fe1 fp1 fh1 ft1 lo1)
 have C4:Below w4.heap.size w4 ((w4.alloc (.cells zS 154)).setRow w4.heap.size (rS (.slice a4 n4 c4) pc1 rs1 mo1 ba1 (.slice ca1 ck1 cc1) op1 oh1 ot1 st1 fe1 fp1 fh1 ft1 lo1)):=aG (Nat.le_refl _) (aA (Below.refl _ _) _) _
 have B5:Hid (Below w.heap.size w ((w4.alloc (.cells zS 154)).setRow w4.heap.size (rS (.slice a4 n4 c4) pc1 rs1 mo1 ba1 (.slice ca1 ck1 cc1) op1 oh1 ot1 st1 fe1 fp1 fh1 ft1 lo1))):=aB (aB B3.out b4) C4
 have HS5:Hid (Sl ((w4.alloc (.cells zS 154)).setRow w4.heap.size (rS (.slice a4 n4 c4) pc1 rs1 mo1 ba1 (.slice ca1 ck1 cc1) op1 oh1 ot1 st1 fe1 fp1 fh1 ft1 lo1)) (.slice (some ⟨g,0,none⟩) 512 512) zs):=(HS3.out.keep b4).keep C4
 have HL5:Hid (Ls ((w4.alloc (.cells zS 154)).setRow w4.heap.size (rS (.slice a4 n4 c4) pc1 rs1 mo1 ba1 (.slice ca1 ck1 cc1) op1 oh1 ot1 st1 fe1 fp1 fh1 ft1 lo1)) (.slice (some ⟨k,0,none⟩) l.length l.length) l):=(HL3.out.keep b4).keep C4
 have HY5:Hid (ok=true→∃zs1,goS zs ⟨p,r,false⟩ ⟨mo,ba,l,op,oh,ot,st,fe,fp,fh,ft,lo⟩=(zs1,⟨pc1,rs1,false⟩,⟨mo1,ba1,l,op1,oh1,ot1,st1,fe1,fp1,fh1,ft1,lo1⟩)∧rs1.length=8∧Value.slice (some ⟨k,0,none⟩) l.length l.length=.slice ca1 ck1 cc1∧
   Sl ((w4.alloc (.cells zS 154)).setRow w4.heap.size (rS (.slice a4 n4 c4) pc1 rs1 mo1 ba1 (.slice ca1 ck1 cc1) op1 oh1 ot1 st1 fe1 fp1 fh1 ft1 lo1)) (.slice a4 n4 c4) zs1∧Fresh ((w.heap.size+1+1+1+1+1)+1) (.slice a4 n4 c4)):=by
  intro hok
  obtain⟨zs1,g1,g2,g3,g4⟩:=HYES.out hok
  refine⟨zs1,g1,g2,g3,?_⟩
  rcases g4 with ⟨g4,rfl⟩|⟨g4,g5⟩
  ·exact⟨by have:=HS5.out;rw[g4] at this;exact this,by rw[←g4];exact bJ gg.out.1 _ _ _⟩
  ·exact⟨g4.keep C4,g5.mono (by have:=Z3.out;omega)⟩
 clear HS3 HL3 C4 XT0 HYES b4 B3
 generalize ((w4.alloc (.cells zS 154)).setRow w4.heap.size (rS (.slice a4 n4 c4) pc1 rs1 mo1 ba1 (.slice ca1 ck1 cc1) op1 oh1 ot1 st1 fe1 fp1 fh1 ft1 lo1))=W5 at *
 generalize w4.heap.size=N12 at *
 cases ok
 ·focus
  have HN:Hid (goS zs ⟨p,r,false⟩ ⟨mo,ba,l,op,oh,ot,st,fe,fp,fh,ft,lo⟩=stand zs ⟨p,r,false⟩ ⟨mo,ba,l,op,oh,ot,st,fe,fp,fh,ft,lo⟩):=HNO.out rfl
  clear HNO HY5 XT
  go_upto_region 9 with fail
  refine wp_region_held_drew (S:=fun w'=>Box w' N11 154 (rS (.slice (some ⟨g,0,none⟩) 512 512) p r mo ba (.slice (some ⟨k,0,none⟩) l.length l.length) op oh ot st fe fp fh ft lo)) (by kernel_rfl) XS.drew (fun hHeld=>?_)
  have CF:Cl (fun w'=>Box w' N11 154 (rS (.slice (some ⟨g,0,none⟩) 512 512) p r mo ba (.slice (some ⟨k,0,none⟩) l.length l.length) op oh ot st fe fp fh ft lo)) _:=⟨fun wz hSz=>Box.state0 hSz⟩
  refine tkH 0 rfl ?_
  refine tkH 1 rfl ?_
  refine aO (i:=2) (v:=.agg (rS (.slice (some ⟨g,0,none⟩) 512 512) p r mo ba (.slice (some ⟨k,0,none⟩) l.length l.length) op oh ot st fe fp fh ft lo)) rfl (by kernel_rfl) (by kernel_rfl) (by kernel_rfl) (fun _ _ _ h=>h) (jQ (by kernel_rfl) (.tmp 11) rfl rfl (fun _ h=>h) rfl) (by assumption) ?_
  simp only[nmz]
  refine tkH 4 rfl ?_
  refine tkH 5 rfl ?_
  refine aE (i:=3) (by kernel_rfl) (by rfl) (fun K hK=>?_)
  go_simp
  refine (mM _ _ _ p r _ _ _ _ _ _ _ _ _ _ _ _ _ _ true _ H8.out).mono ?_
  rintro e w6 ⟨g6,cap6,rfl,hS6,hg6,b6⟩
  have hz5:(w.heap.size+1+1+1+1+1)<W5.heap.size:=by have:=X5.lt;omega
  have X3:=X3.drew.keep b6
  have X4:=X4.drew.keep b6
  have X5:=X5.drew.keep b6
  have B6:Hid (Below w.heap.size w w6):=aB (Below.drew B5.out) b6
  have HM6:Hid (Sl w6 (.slice (some ⟨g,0,none⟩) 512 512) zs):=Sl.keep (w:=W5.drew) HS5.out b6
  have HL6:Hid (Ls w6 (.slice (some ⟨k,0,none⟩) l.length l.length) l):=Ls.keep (w:=W5.drew) HL5.out b6
  have HS6:Hid (Sl w6 (.slice (some ⟨g6,0,none⟩) 8 cap6) r):=hS6
  have hg6':W5.heap.size≤g6:=hg6
  have hN:N11≠(w.heap.size+1+1+1)∧N11≠(w.heap.size+1+1+1+1)∧N11≠(w.heap.size+1+1+1+1+1):=by omega
  clear hS6 hg6
  go_wp2_with fail
  refine hK.out _ _ ?_ (fun hHeld2=>?_)
  ·exact Box.keep hHeld b6
  clear hK K hHeld
  have hHeld:=hHeld2
  clear hHeld2 b6
  obtain⟨r0,r1,s3⟩:=X3.one
  refine aE (i:=6) (by kernel_rfl) (by rfl) (fun K hK=>?_)
  go_simp
  refine hK.out _ _ ?_ (fun hHeld2=>?_)
  ·exact Box.other (p:=⟨(w.heap.size+1+1+1),0,none⟩) hHeld hN.1 _
  clear hK K hHeld
  have hHeld:=hHeld2
  have Y3:=X3.set1 (.slice (some ⟨g,0,none⟩) 512 512)
  have Y4:=X4.other (p:=⟨(w.heap.size+1+1+1),0,none⟩) (by show (w.heap.size+1+1+1+1)≠(w.heap.size+1+1+1);omega) (.slice (some ⟨g,0,none⟩) 512 512)
  have Y5:=X5.other (p:=⟨(w.heap.size+1+1+1),0,none⟩) (by show (w.heap.size+1+1+1+1+1)≠(w.heap.size+1+1+1);omega) (.slice (some ⟨g,0,none⟩) 512 512)
  have F1:Hid (∀q,q≠(w.heap.size+1+1+1)→q≠(w.heap.size+1+1+1+1)→q≠(w.heap.size+1+1+1+1+1)→(w6.setCell ⟨(w.heap.size+1+1+1),0,none⟩ (.slice (some ⟨g,0,none⟩) 512 512)).heap[q]?=w6.heap[q]?):=fun q h3 _ _=>kP h3 _
  have B7:Hid (Below w.heap.size w (w6.setCell ⟨(w.heap.size+1+1+1),0,none⟩ (.slice (some ⟨g,0,none⟩) 512 512))):=cW (by omega) B6.out _
  have Z7:Hid ((w6.setCell ⟨(w.heap.size+1+1+1),0,none⟩ (.slice (some ⟨g,0,none⟩) 512 512)).heap.size=w6.heap.size):=by show _=_;simp[World.setCell]
  clear hHeld2 r0 r1 s3 X3 X4 X5
  generalize (w6.setCell ⟨(w.heap.size+1+1+1),0,none⟩ (.slice (some ⟨g,0,none⟩) 512 512))=w7 at *
  obtain⟨i0,i1,i2,f0,f1,f2,s4⟩:=Y4.three
  refine aE (i:=7) (by kernel_rfl) (by rfl) (fun K hK=>?_)
  go_simp
  refine hK.out _ _ ?_ (fun hHeld2=>?_)
  ·exact Box.other3 hHeld hN.2.1 _ _ _
  clear hK K hHeld
  have hHeld:=hHeld2
  have Y3:=Y3.other3 (m:=(w.heap.size+1+1+1+1)) (by omega) (J p) (.slice (some ⟨g6,0,none⟩) 8 cap6) (.bool true)
  have Y4:=Y4.set3 (J p) (.slice (some ⟨g6,0,none⟩) 8 cap6) (.bool true)
  have Y5:=Y5.other3 (m:=(w.heap.size+1+1+1+1)) (by omega) (J p) (.slice (some ⟨g6,0,none⟩) 8 cap6) (.bool true)
  have F2:Hid (∀q,q≠(w.heap.size+1+1+1)→q≠(w.heap.size+1+1+1+1)→q≠(w.heap.size+1+1+1+1+1)→(((w7.setCell ⟨(w.heap.size+1+1+1+1),0,none⟩ (J p)).setCell ⟨(w.heap.size+1+1+1+1),1,none⟩ (.slice (some ⟨g6,0,none⟩) 8 cap6)).setCell ⟨(w.heap.size+1+1+1+1),2,none⟩ (.bool true)).heap[q]?=w6.heap[q]?):=fun q h3 h4 h5=>(kQ h4 _ _ _).trans (F1.out q h3 h4 h5)
  have B8:Hid (Below w.heap.size w (((w7.setCell ⟨(w.heap.size+1+1+1+1),0,none⟩ (J p)).setCell ⟨(w.heap.size+1+1+1+1),1,none⟩ (.slice (some ⟨g6,0,none⟩) 8 cap6)).setCell ⟨(w.heap.size+1+1+1+1),2,none⟩ (.bool true))):=bO (by omega) B7.out _ _ _
  have Z8:Hid ((((w7.setCell ⟨(w.heap.size+1+1+1+1),0,none⟩ (J p)).setCell ⟨(w.heap.size+1+1+1+1),1,none⟩ (.slice (some ⟨g6,0,none⟩) 8 cap6)).setCell ⟨(w.heap.size+1+1+1+1),2,none⟩ (.bool true)).heap.size=w6.heap.size):=by show _=_;rw[←Z7.out];simp[World.setCell]
  clear hHeld2 i0 i1 i2 f0 f1 f2 s4 F1 B7 Z7
  generalize (((w7.setCell ⟨(w.heap.size+1+1+1+1),0,none⟩ (J p)).setCell ⟨(w.heap.size+1+1+1+1),1,none⟩ (.slice (some ⟨g6,0,none⟩) 8 cap6)).setCell ⟨(w.heap.size+1+1+1+1),2,none⟩ (.bool true))=w8 at *
  obtain⟨⟨d0,d1,d2,d3,d4,d5,d6,d7,d8,d9,d10,d11⟩,s5⟩:=Y5.twelve
  have f5:=Y5.marksAll
  refine aE (i:=8) (by kernel_rfl) (by rfl) (fun K hK=>?_)
  go_simp
  refine hK.out _ _ ?_ (fun hHeld2=>?_)
  ·exact Box.other12 hHeld hN.2.2 _ _ _ _ _ _ _ _ _ _ _ _
  clear hK K hHeld
  have hHeld:=hHeld2
  clear hHeld2
  refine tkH 9 rfl ?_
  refine wpAnyH_done (by kernel_rfl) ?_ _
  have Y3:=Y3.other12 (m:=(w.heap.size+1+1+1+1+1)) (by omega) (J mo) (J ba) (.slice (some ⟨k,0,none⟩) l.length l.length) (J op) (J oh) (J ot) (.bool st) (J fe) (J fp) (J fh) (J ft) (.bool lo)
  have Y4:=Y4.other12 (m:=(w.heap.size+1+1+1+1+1)) (by omega) (J mo) (J ba) (.slice (some ⟨k,0,none⟩) l.length l.length) (J op) (J oh) (J ot) (.bool st) (J fe) (J fp) (J fh) (J ft) (.bool lo)
  have Y5:=Y5.set12 (J mo) (J ba) (.slice (some ⟨k,0,none⟩) l.length l.length) (J op) (J oh) (J ot) (.bool st) (J fe) (J fp) (J fh) (J ft) (.bool lo)
  have F3:=fun (q:Nat) (h3:q≠(w.heap.size+1+1+1)) (h4:q≠(w.heap.size+1+1+1+1)) (h5:q≠(w.heap.size+1+1+1+1+1))=>(jO (w:=w8) h5 (J mo) (J ba) (.slice (some ⟨k,0,none⟩) l.length l.length) (J op) (J oh) (J ot) (.bool st) (J fe) (J fp) (J fh) (J ft) (.bool lo)).trans (F2.out q h3 h4 h5)
  have B9:Hid (Below w.heap.size w _):=aJ (m:=(w.heap.size+1+1+1+1+1)) (by omega) B8.out (J mo) (J ba) (.slice (some ⟨k,0,none⟩) l.length l.length) (J op) (J oh) (J ot) (.bool st) (J fe) (J fp) (J fh) (J ft) (.bool lo)
  have HF3:Hid _:=F3
  clear d0 d1 d2 d3 d4 d5 d6 d7 d8 d9 d10 d11 s5 f5 F2 B8 F3 hHeld
  have Z9:Hid (((((((((((((w8.setCell ⟨(w.heap.size+1+1+1+1+1),0,none⟩ (J mo)).setCell ⟨(w.heap.size+1+1+1+1+1),1,none⟩ (J ba)).setCell ⟨(w.heap.size+1+1+1+1+1),2,none⟩ (.slice (some ⟨k,0,none⟩) l.length l.length)).setCell ⟨(w.heap.size+1+1+1+1+1),3,none⟩ (J op)).setCell ⟨(w.heap.size+1+1+1+1+1),4,none⟩ (J oh)).setCell ⟨(w.heap.size+1+1+1+1+1),5,none⟩ (J ot)).setCell ⟨(w.heap.size+1+1+1+1+1),6,none⟩ (.bool st)).setCell ⟨(w.heap.size+1+1+1+1+1),7,none⟩ (J fe)).setCell ⟨(w.heap.size+1+1+1+1+1),8,none⟩ (J fp)).setCell ⟨(w.heap.size+1+1+1+1+1),9,none⟩ (J fh)).setCell ⟨(w.heap.size+1+1+1+1+1),10,none⟩ (J ft)).setCell ⟨(w.heap.size+1+1+1+1+1),11,none⟩ (.bool lo)).heap.size=w6.heap.size):=by show _=_;rw[←Z8.out];simp[World.setCell]
  generalize ((((((((((((w8.setCell ⟨(w.heap.size+1+1+1+1+1),0,none⟩ (J mo)).setCell ⟨(w.heap.size+1+1+1+1+1),1,none⟩ (J ba)).setCell ⟨(w.heap.size+1+1+1+1+1),2,none⟩ (.slice (some ⟨k,0,none⟩) l.length l.length)).setCell ⟨(w.heap.size+1+1+1+1+1),3,none⟩ (J op)).setCell ⟨(w.heap.size+1+1+1+1+1),4,none⟩ (J oh)).setCell ⟨(w.heap.size+1+1+1+1+1),5,none⟩ (J ot)).setCell ⟨(w.heap.size+1+1+1+1+1),6,none⟩ (.bool st)).setCell ⟨(w.heap.size+1+1+1+1+1),7,none⟩ (J fe)).setCell ⟨(w.heap.size+1+1+1+1+1),8,none⟩ (J fp)).setCell ⟨(w.heap.size+1+1+1+1+1),9,none⟩ (J fh)).setCell ⟨(w.heap.size+1+1+1+1+1),10,none⟩ (J ft)).setCell ⟨(w.heap.size+1+1+1+1+1),11,none⟩ (.bool lo))=F at *
  obtain⟨r0,-,s3⟩:=Y3.one
  obtain⟨i0,i1,i2,-,-,-,s4⟩:=Y4.three
  obtain⟨⟨d0,d1,d2,d3,d4,d5,d6,d7,d8,d9,d10,d11⟩,s5⟩:=Y5.twelve
  clear Y3 Y4 Y5
  go_wp2_with fail
  refine bodyPost_ret (v:=.tuple #[.agg #[.slice (some ⟨g,0,none⟩) 512 512],.agg #[J p,.slice (some ⟨g6,0,none⟩) 8 cap6,.bool true],.agg (rB mo ba (.slice (some ⟨k,0,none⟩) l.length l.length) op oh ot st fe fp fh ft lo),J 0]) (by simp[results,Tryz.results65,go_sem, *]) rfl ⟨_,zs,_,_,r,_,_,_,_,_,_,_,_,_,_,_,_,_,l,jP HSE.out.symm,?_,?_,?_,bJ (by have:=gg.out.1;omega) _ _ _,bJ (by omega) _ _ _,bJ (by have:=gg.out.2;omega) _ _ _,?_,B9.out⟩
  ·exact HM6.out.blk (by rw[Z9.out];exact Nat.le_refl _) (fun q hq=>by simp[Value.ownBlock] at hq;have:=gg.out.1;exact HF3.out q (by omega) (by omega) (by omega))
  ·exact HS6.out.blk (by rw[Z9.out];exact Nat.le_refl _) (fun q hq=>by simp[Value.ownBlock] at hq;exact HF3.out q (by omega) (by omega) (by omega))
  ·exact HL6.out.blk (by rw[Z9.out];exact Nat.le_refl _) (fun q hq=>by simp[Value.ownBlock] at hq;have:=gg.out.2;exact HF3.out q (by omega) (by omega) (by omega))
  ·rw[HT.out,HN.out]
   rfl
 ·focus
  obtain⟨zs1,hg1,h81,hc1,hs1,hf1⟩:=HY5.out rfl
  have HG1:Hid _:=hg1
  have H81:Hid (rs1.length=8):=h81
  have HS1:Hid _:=hs1
  have HF1:Hid (Fresh ((w.heap.size+1+1+1+1+1)+1) (.slice a4 n4 c4)):=hf1
  simp only[Value.slice.injEq] at hc1
  obtain⟨rfl,rfl,rfl⟩:=hc1
  clear HNO HY5 XS hg1 h81 hs1 hf1
  go_upto_region 10 with fail
  refine wp_region_held_drew (S:=fun w'=>Box w' N12 154 (rS (.slice a4 n4 c4) pc1 rs1 mo1 ba1 (.slice (some ⟨k,0,none⟩) l.length l.length) op1 oh1 ot1 st1 fe1 fp1 fh1 ft1 lo1)) (by kernel_rfl) XT.drew (fun hHeld=>?_)
  have CF:Cl (fun w'=>Box w' N12 154 (rS (.slice a4 n4 c4) pc1 rs1 mo1 ba1 (.slice (some ⟨k,0,none⟩) l.length l.length) op1 oh1 ot1 st1 fe1 fp1 fh1 ft1 lo1)) _:=⟨fun wz hSz=>Box.state0 hSz⟩
  refine tkH 0 rfl ?_
  refine tkH 1 rfl ?_
  refine aO (i:=2) (v:=.agg (rS (.slice a4 n4 c4) pc1 rs1 mo1 ba1 (.slice (some ⟨k,0,none⟩) l.length l.length) op1 oh1 ot1 st1 fe1 fp1 fh1 ft1 lo1)) rfl (by kernel_rfl) (by kernel_rfl) (by kernel_rfl) (fun _ _ _ h=>h) (jQ (by kernel_rfl) (.tmp 12) rfl rfl (fun _ h=>h) rfl) (by assumption) ?_
  simp only[nmz]
  refine tkH 4 rfl ?_
  refine tkH 5 rfl ?_
  refine aE (i:=3) (by kernel_rfl) (by rfl) (fun K hK=>?_)
  go_simp
  refine (mM _ _ _ pc1 rs1 _ _ _ _ _ _ _ _ _ _ _ _ _ _ false _ H81.out).mono ?_
  rintro e w6 ⟨g6,cap6,rfl,hS6,hg6,b6⟩
  have hz5:(w.heap.size+1+1+1+1+1)<W5.heap.size:=by have:=X5.lt;omega
  have X3:=X3.drew.keep b6
  have X4:=X4.drew.keep b6
  have X5:=X5.drew.keep b6
  have B6:Hid (Below w.heap.size w w6):=aB (Below.drew B5.out) b6
  have HM6:Hid (Sl w6 (.slice a4 n4 c4) zs1):=Sl.keep (w:=W5.drew) HS1.out b6
  have HL6:Hid (Ls w6 (.slice (some ⟨k,0,none⟩) l.length l.length) l):=Ls.keep (w:=W5.drew) HL5.out b6
  have HS6:Hid (Sl w6 (.slice (some ⟨g6,0,none⟩) 8 cap6) rs1):=hS6
  have hg6':W5.heap.size≤g6:=hg6
  have hN:N12≠(w.heap.size+1+1+1)∧N12≠(w.heap.size+1+1+1+1)∧N12≠(w.heap.size+1+1+1+1+1):=by omega
  clear hS6 hg6
  go_wp2_with fail
  refine hK.out _ _ ?_ (fun hHeld2=>?_)
  ·exact Box.keep hHeld b6
  clear hK K hHeld
  have hHeld:=hHeld2
  clear hHeld2 b6
  obtain⟨r0,r1,s3⟩:=X3.one
  refine aE (i:=6) (by kernel_rfl) (by rfl) (fun K hK=>?_)
  go_simp
  refine hK.out _ _ ?_ (fun hHeld2=>?_)
  ·exact Box.other (p:=⟨(w.heap.size+1+1+1),0,none⟩) hHeld hN.1 _
  clear hK K hHeld
  have hHeld:=hHeld2
  have Y3:=X3.set1 (.slice a4 n4 c4)
  have Y4:=X4.other (p:=⟨(w.heap.size+1+1+1),0,none⟩) (by show (w.heap.size+1+1+1+1)≠(w.heap.size+1+1+1);omega) (.slice a4 n4 c4)
  have Y5:=X5.other (p:=⟨(w.heap.size+1+1+1),0,none⟩) (by show (w.heap.size+1+1+1+1+1)≠(w.heap.size+1+1+1);omega) (.slice a4 n4 c4)
  have F1:Hid (∀q,q≠(w.heap.size+1+1+1)→q≠(w.heap.size+1+1+1+1)→q≠(w.heap.size+1+1+1+1+1)→(w6.setCell ⟨(w.heap.size+1+1+1),0,none⟩ (.slice a4 n4 c4)).heap[q]?=w6.heap[q]?):=fun q h3 _ _=>kP h3 _
  have B7:Hid (Below w.heap.size w (w6.setCell ⟨(w.heap.size+1+1+1),0,none⟩ (.slice a4 n4 c4))):=cW (by omega) B6.out _
  have Z7:Hid ((w6.setCell ⟨(w.heap.size+1+1+1),0,none⟩ (.slice a4 n4 c4)).heap.size=w6.heap.size):=by show _=_;simp[World.setCell]
  clear hHeld2 r0 r1 s3 X3 X4 X5
  generalize (w6.setCell ⟨(w.heap.size+1+1+1),0,none⟩ (.slice a4 n4 c4))=w7 at *
  obtain⟨i0,i1,i2,f0,f1,f2,s4⟩:=Y4.three
  refine aE (i:=7) (by kernel_rfl) (by rfl) (fun K hK=>?_)
  go_simp
  refine hK.out _ _ ?_ (fun hHeld2=>?_)
  ·exact Box.other3 hHeld hN.2.1 _ _ _
  clear hK K hHeld
  have hHeld:=hHeld2
  have Y3:=Y3.other3 (m:=(w.heap.size+1+1+1+1)) (by omega) (J pc1) (.slice (some ⟨g6,0,none⟩) 8 cap6) (.bool false)
  have Y4:=Y4.set3 (J pc1) (.slice (some ⟨g6,0,none⟩) 8 cap6) (.bool false)
  have Y5:=Y5.other3 (m:=(w.heap.size+1+1+1+1)) (by omega) (J pc1) (.slice (some ⟨g6,0,none⟩) 8 cap6) (.bool false)
  have F2:Hid (∀q,q≠(w.heap.size+1+1+1)→q≠(w.heap.size+1+1+1+1)→q≠(w.heap.size+1+1+1+1+1)→(((w7.setCell ⟨(w.heap.size+1+1+1+1),0,none⟩ (J pc1)).setCell ⟨(w.heap.size+1+1+1+1),1,none⟩ (.slice (some ⟨g6,0,none⟩) 8 cap6)).setCell ⟨(w.heap.size+1+1+1+1),2,none⟩ (.bool false)).heap[q]?=w6.heap[q]?):=fun q h3 h4 h5=>(kQ h4 _ _ _).trans (F1.out q h3 h4 h5)
  have B8:Hid (Below w.heap.size w (((w7.setCell ⟨(w.heap.size+1+1+1+1),0,none⟩ (J pc1)).setCell ⟨(w.heap.size+1+1+1+1),1,none⟩ (.slice (some ⟨g6,0,none⟩) 8 cap6)).setCell ⟨(w.heap.size+1+1+1+1),2,none⟩ (.bool false))):=bO (by omega) B7.out _ _ _
  have Z8:Hid ((((w7.setCell ⟨(w.heap.size+1+1+1+1),0,none⟩ (J pc1)).setCell ⟨(w.heap.size+1+1+1+1),1,none⟩ (.slice (some ⟨g6,0,none⟩) 8 cap6)).setCell ⟨(w.heap.size+1+1+1+1),2,none⟩ (.bool false)).heap.size=w6.heap.size):=by show _=_;rw[←Z7.out];simp[World.setCell]
  clear hHeld2 i0 i1 i2 f0 f1 f2 s4 F1 B7 Z7
  generalize (((w7.setCell ⟨(w.heap.size+1+1+1+1),0,none⟩ (J pc1)).setCell ⟨(w.heap.size+1+1+1+1),1,none⟩ (.slice (some ⟨g6,0,none⟩) 8 cap6)).setCell ⟨(w.heap.size+1+1+1+1),2,none⟩ (.bool false))=w8 at *
  obtain⟨⟨d0,d1,d2,d3,d4,d5,d6,d7,d8,d9,d10,d11⟩,s5⟩:=Y5.twelve
  have f5:=Y5.marksAll
  refine aE (i:=8) (by kernel_rfl) (by rfl) (fun K hK=>?_)
  go_simp
  refine hK.out _ _ ?_ (fun hHeld2=>?_)
  ·exact Box.other12 hHeld hN.2.2 _ _ _ _ _ _ _ _ _ _ _ _
  clear hK K hHeld
  have hHeld:=hHeld2
  clear hHeld2
  refine tkH 9 rfl ?_
  refine wpAnyH_done (by kernel_rfl) ?_ _
  have Y3:=Y3.other12 (m:=(w.heap.size+1+1+1+1+1)) (by omega) (J mo1) (J ba1) (.slice (some ⟨k,0,none⟩) l.length l.length) (J op1) (J oh1) (J ot1) (.bool st1) (J fe1) (J fp1) (J fh1) (J ft1) (.bool lo1)
  have Y4:=Y4.other12 (m:=(w.heap.size+1+1+1+1+1)) (by omega) (J mo1) (J ba1) (.slice (some ⟨k,0,none⟩) l.length l.length) (J op1) (J oh1) (J ot1) (.bool st1) (J fe1) (J fp1) (J fh1) (J ft1) (.bool lo1)
  have Y5:=Y5.set12 (J mo1) (J ba1) (.slice (some ⟨k,0,none⟩) l.length l.length) (J op1) (J oh1) (J ot1) (.bool st1) (J fe1) (J fp1) (J fh1) (J ft1) (.bool lo1)
  have F3:=fun (q:Nat) (h3:q≠(w.heap.size+1+1+1)) (h4:q≠(w.heap.size+1+1+1+1)) (h5:q≠(w.heap.size+1+1+1+1+1))=>(jO (w:=w8) h5 (J mo1) (J ba1) (.slice (some ⟨k,0,none⟩) l.length l.length) (J op1) (J oh1) (J ot1) (.bool st1) (J fe1) (J fp1) (J fh1) (J ft1) (.bool lo1)).trans (F2.out q h3 h4 h5)
  have B9:Hid (Below w.heap.size w _):=aJ (m:=(w.heap.size+1+1+1+1+1)) (by omega) B8.out (J mo1) (J ba1) (.slice (some ⟨k,0,none⟩) l.length l.length) (J op1) (J oh1) (J ot1) (.bool st1) (J fe1) (J fp1) (J fh1) (J ft1) (.bool lo1)
  have HF3:Hid _:=F3
  clear d0 d1 d2 d3 d4 d5 d6 d7 d8 d9 d10 d11 s5 f5 F2 B8 F3 hHeld
  have Z9:Hid (((((((((((((w8.setCell ⟨(w.heap.size+1+1+1+1+1),0,none⟩ (J mo1)).setCell ⟨(w.heap.size+1+1+1+1+1),1,none⟩ (J ba1)).setCell ⟨(w.heap.size+1+1+1+1+1),2,none⟩ (.slice (some ⟨k,0,none⟩) l.length l.length)).setCell ⟨(w.heap.size+1+1+1+1+1),3,none⟩ (J op1)).setCell ⟨(w.heap.size+1+1+1+1+1),4,none⟩ (J oh1)).setCell ⟨(w.heap.size+1+1+1+1+1),5,none⟩ (J ot1)).setCell ⟨(w.heap.size+1+1+1+1+1),6,none⟩ (.bool st1)).setCell ⟨(w.heap.size+1+1+1+1+1),7,none⟩ (J fe1)).setCell ⟨(w.heap.size+1+1+1+1+1),8,none⟩ (J fp1)).setCell ⟨(w.heap.size+1+1+1+1+1),9,none⟩ (J fh1)).setCell ⟨(w.heap.size+1+1+1+1+1),10,none⟩ (J ft1)).setCell ⟨(w.heap.size+1+1+1+1+1),11,none⟩ (.bool lo1)).heap.size=w6.heap.size):=by show _=_;rw[←Z8.out];simp[World.setCell]
  generalize ((((((((((((w8.setCell ⟨(w.heap.size+1+1+1+1+1),0,none⟩ (J mo1)).setCell ⟨(w.heap.size+1+1+1+1+1),1,none⟩ (J ba1)).setCell ⟨(w.heap.size+1+1+1+1+1),2,none⟩ (.slice (some ⟨k,0,none⟩) l.length l.length)).setCell ⟨(w.heap.size+1+1+1+1+1),3,none⟩ (J op1)).setCell ⟨(w.heap.size+1+1+1+1+1),4,none⟩ (J oh1)).setCell ⟨(w.heap.size+1+1+1+1+1),5,none⟩ (J ot1)).setCell ⟨(w.heap.size+1+1+1+1+1),6,none⟩ (.bool st1)).setCell ⟨(w.heap.size+1+1+1+1+1),7,none⟩ (J fe1)).setCell ⟨(w.heap.size+1+1+1+1+1),8,none⟩ (J fp1)).setCell ⟨(w.heap.size+1+1+1+1+1),9,none⟩ (J fh1)).setCell ⟨(w.heap.size+1+1+1+1+1),10,none⟩ (J ft1)).setCell ⟨(w.heap.size+1+1+1+1+1),11,none⟩ (.bool lo1))=F at *
  obtain⟨r0,-,s3⟩:=Y3.one
  obtain⟨i0,i1,i2,-,-,-,s4⟩:=Y4.three
  obtain⟨⟨d0,d1,d2,d3,d4,d5,d6,d7,d8,d9,d10,d11⟩,s5⟩:=Y5.twelve
  clear Y3 Y4 Y5
  go_wp2_with fail
  refine bodyPost_ret (v:=.tuple #[.agg #[.slice a4 n4 c4],.agg #[J pc1,.slice (some ⟨g6,0,none⟩) 8 cap6,.bool false],.agg (rB mo1 ba1 (.slice (some ⟨k,0,none⟩) l.length l.length) op1 oh1 ot1 st1 fe1 fp1 fh1 ft1 lo1),J 0]) (by simp[results,Tryz.results65,go_sem, *]) rfl ⟨_,zs1,_,_,rs1,_,_,_,_,_,_,_,_,_,_,_,_,_,l,jP HSE.out.symm,?_,?_,?_,HF1.out.mono (by omega),bJ (by omega) _ _ _,bJ (by have:=gg.out.2;omega) _ _ _,?_,B9.out⟩
  ·exact HM6.out.blk (by rw[Z9.out];exact Nat.le_refl _) (fun q hq=>by have:=HF1.out q hq;exact HF3.out q (by omega) (by omega) (by omega))
  ·exact HS6.out.blk (by rw[Z9.out];exact Nat.le_refl _) (fun q hq=>by simp[Value.ownBlock] at hq;exact HF3.out q (by omega) (by omega) (by omega))
  ·exact HL6.out.blk (by rw[Z9.out];exact Nat.le_refl _) (fun q hq=>by simp[Value.ownBlock] at hq;have:=gg.out.2;exact HF3.out q (by omega) (by omega) (by omega))
  ·rw[HT.out,HG1.out]
end Go.Proofs.YthlhocneggcekaaGreat
