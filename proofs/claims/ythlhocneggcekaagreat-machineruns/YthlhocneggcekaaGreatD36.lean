/-
  Laid together: HOut, HDo1, HDo2.
-/
import Derived.Test.YthlhocneggcekaaGreatD32
import Derived.Test.YthlhocneggcekaaGreatD34
import Derived.Test.YthlhocneggcekaaGreatD35
namespace Go.Proofs.YthlhocneggcekaaGreat
open Go.RowKit
theorem Box.setBr {w:World}{n:Nat}{t:TypeId}{a0 a1 a2 a3 a4 a5 a6 a7 a8 a9 a10 a11 a12 a13 a14 a15 a16 a17 a18 a19 a20 a21:Value}(h:Box w n t #[a0,a1,a2,a3,a4,a5,a6,a7,a8,a9,a10,a11,a12,a13,a14,a15,a16,a17,a18,a19,a20,a21])(u0 u1 u2 u3 u4 u5 u6 u7 u8 u9 u10 u11:Value):
  Box ((((((((((((w.setCell ⟨n,10,none⟩ u0).setCell ⟨n,11,none⟩ u1).setCell ⟨n,12,none⟩ u2).setCell ⟨n,13,none⟩ u3).setCell ⟨n,14,none⟩ u4).setCell ⟨n,15,none⟩ u5).setCell ⟨n,16,none⟩ u6).setCell ⟨n,17,none⟩ u7).setCell ⟨n,18,none⟩ u8).setCell ⟨n,19,none⟩ u9).setCell ⟨n,20,none⟩ u10).setCell ⟨n,21,none⟩ u11) n t #[a0,a1,a2,a3,a4,a5,a6,a7,a8,a9,u0,u1,u2,u3,u4,u5,u6,u7,u8,u9,u10,u11]:=by
 have h0:Box _ n t #[a0,a1,a2,a3,a4,a5,a6,a7,a8,a9,u0,a11,a12,a13,a14,a15,a16,a17,a18,a19,a20,a21]:=h.set 10 u0
 have h1:Box _ n t #[a0,a1,a2,a3,a4,a5,a6,a7,a8,a9,u0,u1,a12,a13,a14,a15,a16,a17,a18,a19,a20,a21]:=h0.set 11 u1
 have h2:Box _ n t #[a0,a1,a2,a3,a4,a5,a6,a7,a8,a9,u0,u1,u2,a13,a14,a15,a16,a17,a18,a19,a20,a21]:=h1.set 12 u2
 have h3:Box _ n t #[a0,a1,a2,a3,a4,a5,a6,a7,a8,a9,u0,u1,u2,u3,a14,a15,a16,a17,a18,a19,a20,a21]:=h2.set 13 u3
 have h4:Box _ n t #[a0,a1,a2,a3,a4,a5,a6,a7,a8,a9,u0,u1,u2,u3,u4,a15,a16,a17,a18,a19,a20,a21]:=h3.set 14 u4
 have h5:Box _ n t #[a0,a1,a2,a3,a4,a5,a6,a7,a8,a9,u0,u1,u2,u3,u4,u5,a16,a17,a18,a19,a20,a21]:=h4.set 15 u5
 have h6:Box _ n t #[a0,a1,a2,a3,a4,a5,a6,a7,a8,a9,u0,u1,u2,u3,u4,u5,u6,a17,a18,a19,a20,a21]:=h5.set 16 u6
 have h7:Box _ n t #[a0,a1,a2,a3,a4,a5,a6,a7,a8,a9,u0,u1,u2,u3,u4,u5,u6,u7,a18,a19,a20,a21]:=h6.set 17 u7
 have h8:Box _ n t #[a0,a1,a2,a3,a4,a5,a6,a7,a8,a9,u0,u1,u2,u3,u4,u5,u6,u7,u8,a19,a20,a21]:=h7.set 18 u8
 have h9:Box _ n t #[a0,a1,a2,a3,a4,a5,a6,a7,a8,a9,u0,u1,u2,u3,u4,u5,u6,u7,u8,u9,a20,a21]:=h8.set 19 u9
 have h10:Box _ n t #[a0,a1,a2,a3,a4,a5,a6,a7,a8,a9,u0,u1,u2,u3,u4,u5,u6,u7,u8,u9,u10,a21]:=h9.set 20 u10
 have h11:Box _ n t #[a0,a1,a2,a3,a4,a5,a6,a7,a8,a9,u0,u1,u2,u3,u4,u5,u6,u7,u8,u9,u10,u11]:=h10.set 21 u11
 exact h11
theorem Box.otherBr {w:World}{n m:Nat}{t:TypeId}{cs:Array Value}(h:Box w n t cs)(hp:n≠m)(u0 u1 u2 u3 u4 u5 u6 u7 u8 u9 u10 u11:Value):Box ((((((((((((w.setCell ⟨m,10,none⟩ u0).setCell ⟨m,11,none⟩ u1).setCell ⟨m,12,none⟩ u2).setCell ⟨m,13,none⟩ u3).setCell ⟨m,14,none⟩ u4).setCell ⟨m,15,none⟩ u5).setCell ⟨m,16,none⟩ u6).setCell ⟨m,17,none⟩ u7).setCell ⟨m,18,none⟩ u8).setCell ⟨m,19,none⟩ u9).setCell ⟨m,20,none⟩ u10).setCell ⟨m,21,none⟩ u11) n t cs:=
 ((((((((((((h.other (p:=⟨m,10,none⟩) hp u0).other (p:=⟨m,11,none⟩) hp u1).other (p:=⟨m,12,none⟩) hp u2).other (p:=⟨m,13,none⟩) hp u3).other (p:=⟨m,14,none⟩) hp u4).other (p:=⟨m,15,none⟩) hp u5).other (p:=⟨m,16,none⟩) hp u6).other (p:=⟨m,17,none⟩) hp u7).other (p:=⟨m,18,none⟩) hp u8).other (p:=⟨m,19,none⟩) hp u9).other (p:=⟨m,20,none⟩) hp u10).other (p:=⟨m,21,none⟩) hp u11)
theorem oI {a w:World}{m:Nat}(hp:a.heap.size≤m)(h:Below a.heap.size a w)(u0 u1 u2 u3 u4 u5 u6 u7 u8 u9 u10 u11:Value):Below a.heap.size a ((((((((((((w.setCell ⟨m,10,none⟩ u0).setCell ⟨m,11,none⟩ u1).setCell ⟨m,12,none⟩ u2).setCell ⟨m,13,none⟩ u3).setCell ⟨m,14,none⟩ u4).setCell ⟨m,15,none⟩ u5).setCell ⟨m,16,none⟩ u6).setCell ⟨m,17,none⟩ u7).setCell ⟨m,18,none⟩ u8).setCell ⟨m,19,none⟩ u9).setCell ⟨m,20,none⟩ u10).setCell ⟨m,21,none⟩ u11):=
 ((((((((((((h.setCell (p:=⟨m,10,none⟩) hp u0).setCell (p:=⟨m,11,none⟩) hp u1).setCell (p:=⟨m,12,none⟩) hp u2).setCell (p:=⟨m,13,none⟩) hp u3).setCell (p:=⟨m,14,none⟩) hp u4).setCell (p:=⟨m,15,none⟩) hp u5).setCell (p:=⟨m,16,none⟩) hp u6).setCell (p:=⟨m,17,none⟩) hp u7).setCell (p:=⟨m,18,none⟩) hp u8).setCell (p:=⟨m,19,none⟩) hp u9).setCell (p:=⟨m,20,none⟩) hp u10).setCell (p:=⟨m,21,none⟩) hp u11)
set_option maxRecDepth 10000 in
set_option maxHeartbeats 4000000 in
theorem aA2 (am:Option Addr)(nm cm:Nat)(pc:Int)(rs:List Int)(mo ba op oh ot fe fp fh ft:Int)(st lo:Bool)(ca:Option Addr)(ck cc:Nat)(l:List Ln)(k x y i:Int)(w:World)(hL:Ls w (.slice ca ck cc) l)(hb:chkB ⟨mo,ba,l,op,oh,ot,st,fe,fp,fh,ft,lo⟩=0)(h8:rs.length=8)(hw:∀j,j<8→0≤nth rs j∧nth rs j≤65535)(hx:0≤x∧x≤7)(hy:0≤y∧y≤7)(hi:0≤i∧i≤63):
  Calls Tryz.prog 159 #[.agg (rS (.slice am nm cm) pc rs mo ba (.slice ca ck cc) op oh ot st fe fp fh ft lo),.agg #[J k,J x,J y,J i]] w fun e w'=>
   ∃mo1 ba1 op1 oh1 ot1 fe1 fp1 fh1 ft1 st1 lo1 ca1 ck1 cc1,e=.returned (.tuple #[.agg (rS (.slice am nm cm) pc rs mo1 ba1 (.slice ca1 ck1 cc1) op1 oh1 ot1 st1 fe1 fp1 fh1 ft1 lo1),.bool (decide (nth rs x.toNat≤mostB i))])∧(nth rs x.toNat≤mostB i→Value.slice ca ck cc=.slice ca1 ck1 cc1∧setB ⟨mo,ba,l,op,oh,ot,st,fe,fp,fh,ft,lo⟩ i (nth rs x.toNat)=⟨mo1,ba1,l,op1,oh1,ot1,st1,fe1,fp1,fh1,ft1,lo1⟩)∧Below w.heap.size w w':=by
 have HL:Hid (Ls w (.slice ca ck cc) l):=hL
 have HB:Hid (chkB ⟨mo,ba,l,op,oh,ot,st,fe,fp,fh,ft,lo⟩=0):=hb
 obtain⟨hx0,hx1⟩:=hx
 obtain⟨hy0,hy1⟩:=hy
 obtain⟨hi0,hi1⟩:=hi
 have hx9:x<8:=by omega
 have hy9:y<8:=by omega
 have hx8:x.toNat<8:=by omega
 have hy8:y.toNat<8:=by omega
 have H8:Hid (rs.length=8):=h8
 have rx:=hw x.toNat hx8
 have ry:=hw y.toNat hy8
 obtain⟨one,h1⟩:∃one,nth rs x.toNat=one:=⟨_,rfl⟩
 obtain⟨two,h2⟩:∃two,nth rs y.toNat=two:=⟨_,rfl⟩
 have H1:Hid (nth rs x.toNat=one):=h1
 have H2:Hid (nth rs y.toNat=two):=h2
 rw[h1] at rx
 rw[h2] at ry
 rw[h1]
 obtain⟨rx0,rx1⟩:=rx
 have HR0:Hid (0≤one):=rx0
 obtain⟨ok,hok⟩:∃ok,decide (one≤mostB i)=ok:=⟨_,rfl⟩
 have HOK:Hid (decide (one≤mostB i)=ok):=hok
 clear hok h1 h2 h8 hw rx0 rx1 ry hL hb
 go_enter Tryz.func159,Tryz.ntmps159
 go_upto_region 1 with fail
 have X0:=((Box.newAt (w:=w) (n:=w.heap.size) rfl 154 (rS (.slice am nm cm) pc rs mo ba (.slice ca ck cc) op oh ot st fe fp fh ft lo)).past (.cells #[J k,J x,J y,J i] 130)).past (.cells zS 154)
 have X1:=(Box.newAt (w:=w.alloc (.cells (rS (.slice am nm cm) pc rs mo ba (.slice ca ck cc) op oh ot st fe fp fh ft lo) 154)) (n:=w.heap.size+1) (by simp) 130 #[J k,J x,J y,J i]).past (.cells zS 154)
 have X2:=Box.newAt (w:=(w.alloc (.cells (rS (.slice am nm cm) pc rs mo ba (.slice ca ck cc) op oh ot st fe fp fh ft lo) 154)).alloc (.cells #[J k,J x,J y,J i] 130)) (n:=w.heap.size+1+1) (by simp) 154 zS
 have B0:Hid (Below w.heap.size w _):=aA (aA (aA (Below.refl w.heap.size w) (.cells (rS (.slice am nm cm) pc rs mo ba (.slice ca ck cc) op oh ot st fe fp fh ft lo) 154)) (.cells #[J k,J x,J y,J i] 130)) (.cells zS 154)
 have W3:Hid ((((w.alloc (.cells (rS (.slice am nm cm) pc rs mo ba (.slice ca ck cc) op oh ot st fe fp fh ft lo) 154)).alloc (.cells #[J k,J x,J y,J i] 130)).alloc (.cells zS 154)).heap.size=w.heap.size+1+1+1):=by show _=_;simp
 generalize (((w.alloc (.cells (rS (.slice am nm cm) pc rs mo ba (.slice ca ck cc) op oh ot st fe fp fh ft lo) 154)).alloc (.cells #[J k,J x,J y,J i] 130)).alloc (.cells zS 154))=W at *
 refine wp_region_held_drew (S:=fun w'=>Below W.heap.size W w') (by kernel_rfl) (Below.drew (Below.refl _ _)) (fun hHeld=>?_)
 have CF:Cl (fun w'=>Below W.heap.size W w') _:=⟨fun wz hSz=>And.intro ((X0.keep hSz).state) (And.intro ((X1.keep hSz).four) (And.intro (eqJ ((X0.keep hSz).reg hx8) H1.out) (eqJ ((X0.keep hSz).reg hy8) H2.out)))⟩
 refine tkH 0 rfl ?_
 refine tkH 1 rfl ?_
 refine tkH 2 rfl ?_
 refine tkH 3 rfl ?_
 refine tkH 4 rfl ?_
 refine tkH 5 rfl ?_
 refine tkH 6 rfl ?_
 refine tkH 7 rfl ?_
 refine tkH 8 rfl ?_
 refine bZ (i:=9) (j:=13) (by kernel_rfl) (by rfl) (by rfl) (fun K hK=>?_) (fun K hK=>?_)
 ·go_simp
  refine (vK mo ba op oh ot fe fp fh ft st lo (.slice ca ck cc) l i one _ (HL.out.keep (aB B0.out hHeld)) HB.out HR0.out).mono ?_
  rintro e w5 ⟨mo1,ba1,op1,oh1,ot1,fe1,fp1,fh1,ft1,st1,lo1,ca1,ck1,cc1,rfl,hS1,b5⟩
  rw[HOK.out]
  have HS1:Hid _:=hS1
  clear hS1
  go_wp2_with fail
  refine hK.out _ _ ?_ (fun hHeld2=>?_)
  ·exact aB hHeld b5
  clear hK K hHeld
  have hHeld:=hHeld2
  clear hHeld2
  refine tkH 10 rfl ?_
  refine tkH 11 rfl ?_
  refine tkH 12 rfl ?_
  refine aE (i:=13) (by kernel_rfl) (by rfl) (fun K hK=>?_)
  go_simp
  refine hK.out _ _ ?_ (fun hHeld2=>?_)
  ·exact aA hHeld _
  clear hK K hHeld
  have hHeld:=hHeld2
  clear hHeld2
  refine aE (i:=14) (by kernel_rfl) (by rfl) (fun K hK=>?_)
  go_simp
  refine hK.out _ _ ?_ (fun hHeld2=>?_)
  ·exact aA (aB (Below.drew (Below.refl _ _)) b5) _
  clear hK K hHeld
  have hHeld:=hHeld2
  clear hHeld2
  refine tkH 15 rfl ?_
  refine wpAnyH_done (by kernel_rfl) ?_ _
  have X6:=Box.newAt (w:=w5) (n:=w5.heap.size) rfl 31 (rB mo1 ba1 (.slice ca1 ck1 cc1) op1 oh1 ot1 st1 fe1 fp1 fh1 ft1 lo1)
  have hN6:w.heap.size+1+1<w5.heap.size:=by have:=b5.size;have w3:=W3.out;simp at this;omega
  clear b5
  generalize (w5.alloc (.cells (rB mo1 ba1 (.slice ca1 ck1 cc1) op1 oh1 ot1 st1 fe1 fp1 fh1 ft1 lo1) 31))=W5 at *
  generalize w5.heap.size=N6 at *
  have X0:=X0.keep hHeld
  have X2:=X2.keep hHeld
  have B5:Hid (Below w.heap.size w W5):=aB B0.out hHeld
  clear hHeld B0 X1
  have Y0:=X0.setBr (J mo1) (J ba1) (.slice ca1 ck1 cc1) (J op1) (J oh1) (J ot1) (.bool st1) (J fe1) (J fp1) (J fh1) (J ft1) (.bool lo1)
  have Y2:=X2.otherBr (m:=w.heap.size) (by omega) (J mo1) (J ba1) (.slice ca1 ck1 cc1) (J op1) (J oh1) (J ot1) (.bool st1) (J fe1) (J fp1) (J fh1) (J ft1) (.bool lo1)
  have B6:Hid (Below w.heap.size w _):=oI (Nat.le_refl _) B5.out (J mo1) (J ba1) (.slice ca1 ck1 cc1) (J op1) (J oh1) (J ot1) (.bool st1) (J fe1) (J fp1) (J fh1) (J ft1) (.bool lo1)
  obtain⟨-,⟨g0,g1,g2,g3,g4,g5,g6,g7,g8,g9,g10,g11⟩,s0⟩:=X0.state0
  have fx:=X0.marksAll
  obtain⟨⟨u0,u1,u2,u3,u4,u5,u6,u7,u8,u9,u10,u11⟩,s6⟩:=X6.twelve
  go_upto_region 3 with fail
  clear g0 g1 g2 g3 g4 g5 g6 g7 g8 g9 g10 g11 fx s0 u0 u1 u2 u3 u4 u5 u6 u7 u8 u9 u10 u11 s6 X0 X2 X6
  generalize ((((((((((((W5.setCell ⟨w.heap.size,10,none⟩ (J mo1)).setCell ⟨w.heap.size,11,none⟩ (J ba1)).setCell ⟨w.heap.size,12,none⟩ (.slice ca1 ck1 cc1)).setCell ⟨w.heap.size,13,none⟩ (J op1)).setCell ⟨w.heap.size,14,none⟩ (J oh1)).setCell ⟨w.heap.size,15,none⟩ (J ot1)).setCell ⟨w.heap.size,16,none⟩ (.bool st1)).setCell ⟨w.heap.size,17,none⟩ (J fe1)).setCell ⟨w.heap.size,18,none⟩ (J fp1)).setCell ⟨w.heap.size,19,none⟩ (J fh1)).setCell ⟨w.heap.size,20,none⟩ (J ft1)).setCell ⟨w.heap.size,21,none⟩ (.bool lo1))=W6 at *
  go_wp2_with (first
   | (refine wpList_load_row rfl 154 (.tmp 2) rfl w.heap.size rfl _ _ _ _ Y0 Tryz.underlying154 rfl infoState ?_)
   | (refine wpList_store_row rfl 154 (.tmp 4) (.tmp 23) rfl (w.heap.size+1+1) _ rfl rfl _ _ Y2 infoState rfl (stateOne _ _ _ _ _ _ _ _ _ _ _ _ _ _ _ _ _ _ _ _ _ _ _ _ _ _) ?_))
  have hl:=Box.loadState (Y2.setRow (rS (.slice am nm cm) pc rs mo1 ba1 (.slice ca1 ck1 cc1) op1 oh1 ot1 st1 fe1 fp1 fh1 ft1 lo1)) rfl
  refine bodyPost_ret (v:=.tuple #[.agg (rS (.slice am nm cm) pc rs mo1 ba1 (.slice ca1 ck1 cc1) op1 oh1 ot1 st1 fe1 fp1 fh1 ft1 lo1),.bool ok]) (by simp[results,Tryz.results159,asAddr,hl]) rfl ⟨_,_,_,_,_,_,_,_,_,_,_,_,_,_,by rw[HOK.out],HS1.out,?_⟩
  exact aG (by omega) B6.out _
 ·go_simp
  refine hK.out _ _ ?_ (fun hHeld2=>?_)
  ·exact aA hHeld _
  clear hK K hHeld
  have hHeld:=hHeld2
  clear hHeld2
  refine aE (i:=9) (by kernel_rfl) (by rfl) (fun K hK=>?_)
  go_simp
  refine (vK mo ba op oh ot fe fp fh ft st lo (.slice ca ck cc) l i one _ (HL.out.keep (aB B0.out hHeld)) HB.out HR0.out).mono ?_
  rintro e w5 ⟨mo1,ba1,op1,oh1,ot1,fe1,fp1,fh1,ft1,st1,lo1,ca1,ck1,cc1,rfl,hS1,b5⟩
  rw[HOK.out]
  have HS1:Hid _:=hS1
  clear hS1
  have X6:=((Box.newAt (w:=W) (n:=W.heap.size) rfl 31 zB).drew.keep b5)
  go_wp2_with fail
  refine hK.out _ _ ?_ (fun hHeld2=>?_)
  ·exact aB hHeld b5
  clear hK K hHeld
  have hHeld:=hHeld2
  clear hHeld2
  refine tkH 10 rfl ?_
  refine tkH 11 rfl ?_
  refine tkH 12 rfl ?_
  obtain⟨⟨u0,u1,u2,u3,u4,u5,u6,u7,u8,u9,u10,u11⟩,s6⟩:=X6.twelve
  have f6:=X6.marksAll
  refine aE (i:=14) (by kernel_rfl) (by rfl) (fun K hK=>?_)
  go_simp
  refine hK.out _ _ ?_ (fun hHeld2=>?_)
  ·exact aJ (Nat.le_refl _) hHeld _ _ _ _ _ _ _ _ _ _ _ _
  clear hK K hHeld
  have hHeld:=hHeld2
  clear hHeld2
  refine tkH 15 rfl ?_
  refine wpAnyH_done (by kernel_rfl) ?_ _
  have X6:=X6.set12 (J mo1) (J ba1) (.slice ca1 ck1 cc1) (J op1) (J oh1) (J ot1) (.bool st1) (J fe1) (J fp1) (J fh1) (J ft1) (.bool lo1)
  have hN6:w.heap.size+1+1<W.heap.size:=by have:=W3.out;omega
  clear b5 u0 u1 u2 u3 u4 u5 u6 u7 u8 u9 u10 u11 f6 s6
  generalize ((((((((((((w5.setCell ⟨W.heap.size,0,none⟩ (J mo1)).setCell ⟨W.heap.size,1,none⟩ (J ba1)).setCell ⟨W.heap.size,2,none⟩ (.slice ca1 ck1 cc1)).setCell ⟨W.heap.size,3,none⟩ (J op1)).setCell ⟨W.heap.size,4,none⟩ (J oh1)).setCell ⟨W.heap.size,5,none⟩ (J ot1)).setCell ⟨W.heap.size,6,none⟩ (.bool st1)).setCell ⟨W.heap.size,7,none⟩ (J fe1)).setCell ⟨W.heap.size,8,none⟩ (J fp1)).setCell ⟨W.heap.size,9,none⟩ (J fh1)).setCell ⟨W.heap.size,10,none⟩ (J ft1)).setCell ⟨W.heap.size,11,none⟩ (.bool lo1))=W5 at *
  obtain⟨N6,hWN⟩:∃N6,W.heap.size=N6:=⟨_,rfl⟩
  rw[hWN] at X6 hN6 ⊢
  clear hWN
  have X0:=X0.keep hHeld
  have X2:=X2.keep hHeld
  have B5:Hid (Below w.heap.size w W5):=aB B0.out hHeld
  clear hHeld B0 X1
  have Y0:=X0.setBr (J mo1) (J ba1) (.slice ca1 ck1 cc1) (J op1) (J oh1) (J ot1) (.bool st1) (J fe1) (J fp1) (J fh1) (J ft1) (.bool lo1)
  have Y2:=X2.otherBr (m:=w.heap.size) (by omega) (J mo1) (J ba1) (.slice ca1 ck1 cc1) (J op1) (J oh1) (J ot1) (.bool st1) (J fe1) (J fp1) (J fh1) (J ft1) (.bool lo1)
  have B6:Hid (Below w.heap.size w _):=oI (Nat.le_refl _) B5.out (J mo1) (J ba1) (.slice ca1 ck1 cc1) (J op1) (J oh1) (J ot1) (.bool st1) (J fe1) (J fp1) (J fh1) (J ft1) (.bool lo1)
  obtain⟨-,⟨g0,g1,g2,g3,g4,g5,g6,g7,g8,g9,g10,g11⟩,s0⟩:=X0.state0
  have fx:=X0.marksAll
  obtain⟨⟨u0,u1,u2,u3,u4,u5,u6,u7,u8,u9,u10,u11⟩,s6⟩:=X6.twelve
  go_upto_region 3 with fail
  clear g0 g1 g2 g3 g4 g5 g6 g7 g8 g9 g10 g11 fx s0 u0 u1 u2 u3 u4 u5 u6 u7 u8 u9 u10 u11 s6 X0 X2 X6
  generalize ((((((((((((W5.setCell ⟨w.heap.size,10,none⟩ (J mo1)).setCell ⟨w.heap.size,11,none⟩ (J ba1)).setCell ⟨w.heap.size,12,none⟩ (.slice ca1 ck1 cc1)).setCell ⟨w.heap.size,13,none⟩ (J op1)).setCell ⟨w.heap.size,14,none⟩ (J oh1)).setCell ⟨w.heap.size,15,none⟩ (J ot1)).setCell ⟨w.heap.size,16,none⟩ (.bool st1)).setCell ⟨w.heap.size,17,none⟩ (J fe1)).setCell ⟨w.heap.size,18,none⟩ (J fp1)).setCell ⟨w.heap.size,19,none⟩ (J fh1)).setCell ⟨w.heap.size,20,none⟩ (J ft1)).setCell ⟨w.heap.size,21,none⟩ (.bool lo1))=W6 at *
  go_wp2_with (first
   | (refine wpList_load_row rfl 154 (.tmp 2) rfl w.heap.size rfl _ _ _ _ Y0 Tryz.underlying154 rfl infoState ?_)
   | (refine wpList_store_row rfl 154 (.tmp 4) (.tmp 23) rfl (w.heap.size+1+1) _ rfl rfl _ _ Y2 infoState rfl (stateOne _ _ _ _ _ _ _ _ _ _ _ _ _ _ _ _ _ _ _ _ _ _ _ _ _ _) ?_))
  have hl:=Box.loadState (Y2.setRow (rS (.slice am nm cm) pc rs mo1 ba1 (.slice ca1 ck1 cc1) op1 oh1 ot1 st1 fe1 fp1 fh1 ft1 lo1)) rfl
  refine bodyPost_ret (v:=.tuple #[.agg (rS (.slice am nm cm) pc rs mo1 ba1 (.slice ca1 ck1 cc1) op1 oh1 ot1 st1 fe1 fp1 fh1 ft1 lo1),.bool ok]) (by simp[results,Tryz.results159,asAddr,hl]) rfl ⟨_,_,_,_,_,_,_,_,_,_,_,_,_,_,by rw[HOK.out],HS1.out,?_⟩
  exact aG (by omega) B6.out _
abbrev DoH (am:Option Addr)(nm cm:Nat)(zs:List Int)(p:Int)(rs:List Int)(mo ba op oh ot fe fp fh ft:Int)(st lo:Bool)(ca:Option Addr)(ck cc:Nat)(l:List Ln)(k x y i:Int)(w:World)(e:Ending)(w':World):Prop:=
 ∃ok a1 n1 c1 pc1 rs1 mo1 ba1 op1 oh1 ot1 fe1 fp1 fh1 ft1 st1 lo1 ca1 ck1 cc1,e=.returned (.tuple #[.agg (rS (.slice a1 n1 c1) pc1 rs1 mo1 ba1 (.slice ca1 ck1 cc1) op1 oh1 ot1 st1 fe1 fp1 fh1 ft1 lo1),.bool ok])∧
  (ok=false→exeI zs ⟨p,rs,false⟩ ⟨mo,ba,l,op,oh,ot,st,fe,fp,fh,ft,lo⟩ k x y i=stand zs ⟨p,rs,false⟩ ⟨mo,ba,l,op,oh,ot,st,fe,fp,fh,ft,lo⟩)∧
  (ok=true→∃zs1,exeI zs ⟨p,rs,false⟩ ⟨mo,ba,l,op,oh,ot,st,fe,fp,fh,ft,lo⟩ k x y i=(zs1,⟨pc1,rs1,false⟩,⟨mo1,ba1,l,op1,oh1,ot1,st1,fe1,fp1,fh1,ft1,lo1⟩)∧rs1.length=8∧Value.slice ca ck cc=.slice ca1 ck1 cc1∧
   ((Value.slice am nm cm=.slice a1 n1 c1∧zs1=zs)∨(Sl w' (.slice a1 n1 c1) zs1∧Fresh w.heap.size (.slice a1 n1 c1))))∧Below w.heap.size w w'
set_option maxRecDepth 10000 in
set_option maxHeartbeats 4000000 in
theorem do_0 (am:Option Addr)(nm cm:Nat)(zs:List Int)(p:Int)(rs:List Int)(mo ba op oh ot fe fp fh ft:Int)(st lo:Bool)(ca:Option Addr)(ck cc:Nat)(l:List Ln)(x y i:Int)(w:World)(_:Sl w (.slice am nm cm) zs)(_:Ls w (.slice ca ck cc) l)(_:chkB ⟨mo,ba,l,op,oh,ot,st,fe,fp,fh,ft,lo⟩=0)(_:chk zs=0)(_:rs.length=8)(_:∀j,j<8→0≤nth rs j∧nth rs j≤65535)(_:0≤x∧x≤7)(_:0≤y∧y≤7)(_:0≤i∧i≤63):
  Calls Tryz.prog 132 #[.agg (rS (.slice am nm cm) (nextP p) rs mo ba (.slice ca ck cc) op oh ot st fe fp fh ft lo),.agg #[J 0,J x,J y,J i]] w fun e w'=>DoH am nm cm zs p rs mo ba op oh ot fe fp fh ft st lo ca ck cc l 0 x y i w e w':=by
 obtain⟨pc,hpc⟩:∃pc,nextP p=pc:=⟨_,rfl⟩
 rw[hpc]
 have HPC:Hid (nextP p=pc):=hpc
 clear hpc
 have HT:Hid (exeI zs ⟨p,rs,false⟩ ⟨mo,ba,l,op,oh,ot,st,fe,fp,fh,ft,lo⟩ 0 x y i=stand zs ⟨p,rs,false⟩ ⟨mo,ba,l,op,oh,ot,st,fe,fp,fh,ft,lo⟩):=by show _=_;rw[exeI,if_neg (by decide),if_neg (by decide),if_neg (by decide),if_neg (by decide),if_neg (by decide),if_neg (by decide),if_neg (by decide),if_neg (by decide)]
 go_enter Tryz.func132,Tryz.ntmps132
 go_upto_region 2 with fail
 have X9:=((Box.newAt (w:=w) (n:=w.heap.size) rfl 154 (rS (.slice am nm cm) pc rs mo ba (.slice ca ck cc) op oh ot st fe fp fh ft lo)).past (.cells #[J 0,J x,J y,J i] 130)).past (.cells zS 154)
 have X8:=(Box.newAt (w:=w.alloc (.cells (rS (.slice am nm cm) pc rs mo ba (.slice ca ck cc) op oh ot st fe fp fh ft lo) 154)) (n:=w.heap.size+1) (by simp) 130 #[J 0,J x,J y,J i]).past (.cells zS 154)
 have Y2:=Box.newAt (w:=(w.alloc (.cells (rS (.slice am nm cm) pc rs mo ba (.slice ca ck cc) op oh ot st fe fp fh ft lo) 154)).alloc (.cells #[J 0,J x,J y,J i] 130)) (n:=w.heap.size+1+1) (by simp) 154 zS
 have B6:Hid (Below w.heap.size w _):=aA (aA (aA (Below.refl w.heap.size w) (.cells (rS (.slice am nm cm) pc rs mo ba (.slice ca ck cc) op oh ot st fe fp fh ft lo) 154)) (.cells #[J 0,J x,J y,J i] 130)) (.cells zS 154)
 have W3:Hid ((((w.alloc (.cells (rS (.slice am nm cm) pc rs mo ba (.slice ca ck cc) op oh ot st fe fp fh ft lo) 154)).alloc (.cells #[J 0,J x,J y,J i] 130)).alloc (.cells zS 154)).heap.size=w.heap.size+1+1+1):=by show _=_;simp
 generalize (((w.alloc (.cells (rS (.slice am nm cm) pc rs mo ba (.slice ca ck cc) op oh ot st fe fp fh ft lo) 154)).alloc (.cells #[J 0,J x,J y,J i] 130)).alloc (.cells zS 154))=W at *
 clear X9 X8 W3
 go_wp2_with (first
  | (refine wpList_store_row rfl 154 (.tmp 4) (.tmp 8) rfl (w.heap.size+1+1) _ rfl rfl _ _ Y2 infoState rfl (stateOne _ _ _ _ _ _ _ _ _ _ _ _ _ _ _ _ _ _ _ _ _ _ _ _ _ _) ?_))
 have hl:=Box.loadState (Y2.setRow zS) rfl
 refine bodyPost_ret (v:=.tuple #[.agg zS,.bool false]) (by simp[results,Tryz.results132,asAddr,hl]) rfl ⟨false,none,0,0,0,List.replicate 8 0,_,_,_,_,_,_,_,_,_,_,_,none,0,0,rfl,fun _=>HT.out,fun h=>(by cases h),aG (by omega) B6.out _⟩
set_option maxRecDepth 10000 in
set_option maxHeartbeats 4000000 in
theorem do_1 (am:Option Addr)(nm cm:Nat)(zs:List Int)(p:Int)(rs:List Int)(mo ba op oh ot fe fp fh ft:Int)(st lo:Bool)(ca:Option Addr)(ck cc:Nat)(l:List Ln)(x y i:Int)(w:World)(_:Sl w (.slice am nm cm) zs)(_:Ls w (.slice ca ck cc) l)(_:chkB ⟨mo,ba,l,op,oh,ot,st,fe,fp,fh,ft,lo⟩=0)(_:chk zs=0)(h8:rs.length=8)(hw:∀j,j<8→0≤nth rs j∧nth rs j≤65535)(hx:0≤x∧x≤7)(hy:0≤y∧y≤7)(hi:0≤i∧i≤63):
  Calls Tryz.prog 132 #[.agg (rS (.slice am nm cm) (nextP p) rs mo ba (.slice ca ck cc) op oh ot st fe fp fh ft lo),.agg #[J 1,J x,J y,J i]] w fun e w'=>DoH am nm cm zs p rs mo ba op oh ot fe fp fh ft st lo ca ck cc l 1 x y i w e w':=by
 obtain⟨hx0,hx1⟩:=hx
 obtain⟨hy0,hy1⟩:=hy
 obtain⟨hi0,hi1⟩:=hi
 have hx9:x<8:=by omega
 have hy9:y<8:=by omega
 have hx8:x.toNat<8:=by omega
 have hy8:y.toNat<8:=by omega
 have H8:Hid (rs.length=8):=h8
 have rx:=hw x.toNat hx8
 have ry:=hw y.toNat hy8
 obtain⟨one,h1⟩:∃one,nth rs x.toNat=one:=⟨_,rfl⟩
 obtain⟨two,h2⟩:∃two,nth rs y.toNat=two:=⟨_,rfl⟩
 have H1:Hid (nth rs x.toNat=one):=h1
 have H2:Hid (nth rs y.toNat=two):=h2
 rw[h1] at rx
 rw[h2] at ry
 obtain⟨pc,hpc⟩:∃pc,nextP p=pc:=⟨_,rfl⟩
 rw[hpc]
 have HPC:Hid (nextP p=pc):=hpc
 clear hpc
 have HT:Hid (exeI zs ⟨p,rs,false⟩ ⟨mo,ba,l,op,oh,ot,st,fe,fp,fh,ft,lo⟩ 1 x y i=(zs,⟨pc,rs.set x.toNat i,false⟩,⟨mo,ba,l,op,oh,ot,st,fe,fp,fh,ft,lo⟩)):=by show _=_;rw[exeI,if_pos rfl,HPC.out]
 clear h1 h2 h8 hw rx ry
 go_enter Tryz.func132,Tryz.ntmps132
 go_upto_region 4 with fail
 have X0:=((Box.newAt (w:=w) (n:=w.heap.size) rfl 154 (rS (.slice am nm cm) pc rs mo ba (.slice ca ck cc) op oh ot st fe fp fh ft lo)).past (.cells #[J 1,J x,J y,J i] 130)).past (.cells zS 154)
 have X1:=(Box.newAt (w:=w.alloc (.cells (rS (.slice am nm cm) pc rs mo ba (.slice ca ck cc) op oh ot st fe fp fh ft lo) 154)) (n:=w.heap.size+1) (by simp) 130 #[J 1,J x,J y,J i]).past (.cells zS 154)
 have X2:=Box.newAt (w:=(w.alloc (.cells (rS (.slice am nm cm) pc rs mo ba (.slice ca ck cc) op oh ot st fe fp fh ft lo) 154)).alloc (.cells #[J 1,J x,J y,J i] 130)) (n:=w.heap.size+1+1) (by simp) 154 zS
 have B0:Hid (Below w.heap.size w _):=aA (aA (aA (Below.refl w.heap.size w) (.cells (rS (.slice am nm cm) pc rs mo ba (.slice ca ck cc) op oh ot st fe fp fh ft lo) 154)) (.cells #[J 1,J x,J y,J i] 130)) (.cells zS 154)
 have W3:Hid ((((w.alloc (.cells (rS (.slice am nm cm) pc rs mo ba (.slice ca ck cc) op oh ot st fe fp fh ft lo) 154)).alloc (.cells #[J 1,J x,J y,J i] 130)).alloc (.cells zS 154)).heap.size=w.heap.size+1+1+1):=by show _=_;simp
 generalize (((w.alloc (.cells (rS (.slice am nm cm) pc rs mo ba (.slice ca ck cc) op oh ot st fe fp fh ft lo) 154)).alloc (.cells #[J 1,J x,J y,J i] 130)).alloc (.cells zS 154))=W at *
 have Y0:=X0.setReg hx8 H8.out i
 have Y2:=X2.other (p:=⟨w.heap.size,2+x.toNat,none⟩) (by show w.heap.size+1+1≠w.heap.size;omega) (J i)
 have B6:Hid (Below w.heap.size w (W.setCell ⟨w.heap.size,2+x.toNat,none⟩ (J i))):=aI (by show w.heap.size≤w.heap.size;omega) B0.out _
 obtain⟨i0,i1,i2,i3,-,-,-,-,s1⟩:=X1.four
 have gx:=X0.reg hx8
 have fx:=X0.marksAll
 have s0:=X0.lt
 go_upto_region 20 with fail
 clear gx fx s0 X0 X2 i0 i1 i2 i3 s1 X1
 generalize (W.setCell ⟨w.heap.size,2+x.toNat,none⟩ (J i))=W6 at *
 go_wp2_with (first
  | (refine wpList_load_row rfl 154 (.tmp 2) rfl w.heap.size rfl _ _ _ _ Y0 Tryz.underlying154 rfl infoState ?_)
  | (refine wpList_store_row rfl 154 (.tmp 4) (.tmp 93) rfl (w.heap.size+1+1) _ rfl rfl _ _ Y2 infoState rfl (stateOne _ _ _ _ _ _ _ _ _ _ _ _ _ _ _ _ _ _ _ _ _ _ _ _ _ _) ?_))
 have hl:=Box.loadState (Y2.setRow (rS (.slice am nm cm) pc (rs.set x.toNat i) mo ba (.slice ca ck cc) op oh ot st fe fp fh ft lo)) rfl
 refine bodyPost_ret (v:=.tuple #[.agg (rS (.slice am nm cm) pc (rs.set x.toNat i) mo ba (.slice ca ck cc) op oh ot st fe fp fh ft lo),.bool true]) (by simp[results,Tryz.results132,asAddr,hl]) rfl ⟨_,_,_,_,_,_,_,_,_,_,_,_,_,_,_,_,_,_,_,_,rfl,fun h=>(by cases h),fun _=>⟨zs,HT.out,by rw[List.length_set];exact H8.out,rfl,.inl ⟨rfl,rfl⟩⟩,aG (by omega) B6.out _⟩
set_option maxRecDepth 10000 in
set_option maxHeartbeats 4000000 in
theorem do_2 (am:Option Addr)(nm cm:Nat)(zs:List Int)(p:Int)(rs:List Int)(mo ba op oh ot fe fp fh ft:Int)(st lo:Bool)(ca:Option Addr)(ck cc:Nat)(l:List Ln)(x y i:Int)(w:World)(_:Sl w (.slice am nm cm) zs)(_:Ls w (.slice ca ck cc) l)(_:chkB ⟨mo,ba,l,op,oh,ot,st,fe,fp,fh,ft,lo⟩=0)(_:chk zs=0)(h8:rs.length=8)(hw:∀j,j<8→0≤nth rs j∧nth rs j≤65535)(hx:0≤x∧x≤7)(hy:0≤y∧y≤7)(hi:0≤i∧i≤63):
  Calls Tryz.prog 132 #[.agg (rS (.slice am nm cm) (nextP p) rs mo ba (.slice ca ck cc) op oh ot st fe fp fh ft lo),.agg #[J 2,J x,J y,J i]] w fun e w'=>DoH am nm cm zs p rs mo ba op oh ot fe fp fh ft st lo ca ck cc l 2 x y i w e w':=by
 obtain⟨hx0,hx1⟩:=hx
 obtain⟨hy0,hy1⟩:=hy
 obtain⟨hi0,hi1⟩:=hi
 have hx9:x<8:=by omega
 have hy9:y<8:=by omega
 have hx8:x.toNat<8:=by omega
 have hy8:y.toNat<8:=by omega
 have H8:Hid (rs.length=8):=h8
 have rx:=hw x.toNat hx8
 have ry:=hw y.toNat hy8
 obtain⟨one,h1⟩:∃one,nth rs x.toNat=one:=⟨_,rfl⟩
 obtain⟨two,h2⟩:∃two,nth rs y.toNat=two:=⟨_,rfl⟩
 have H1:Hid (nth rs x.toNat=one):=h1
 have H2:Hid (nth rs y.toNat=two):=h2
 rw[h1] at rx
 rw[h2] at ry
 obtain⟨pc,hpc⟩:∃pc,nextP p=pc:=⟨_,rfl⟩
 rw[hpc]
 have HPC:Hid (nextP p=pc):=hpc
 clear hpc
 obtain⟨v,hv⟩:∃v,((one+two)%65536)=v:=⟨_,rfl⟩
 have HV:Hid (((one+two)%65536)=v):=hv
 have HT:Hid (exeI zs ⟨p,rs,false⟩ ⟨mo,ba,l,op,oh,ot,st,fe,fp,fh,ft,lo⟩ 2 x y i=(zs,⟨pc,rs.set x.toNat v,false⟩,⟨mo,ba,l,op,oh,ot,st,fe,fp,fh,ft,lo⟩)):=by show _=_;rw[exeI,if_neg (by decide),if_pos rfl,HPC.out,h1,h2,hv]
 clear hv
 obtain⟨rx0,rx1⟩:=rx
 obtain⟨ry0,ry1⟩:=ry
 have hwr:IntKind.i64.wrap (one+two)=one+two:=cF _ (by omega) (by omega)
 clear h1 h2 h8 hw
 go_enter Tryz.func132,Tryz.ntmps132
 go_upto_region 6 with fail
 have X0:=((Box.newAt (w:=w) (n:=w.heap.size) rfl 154 (rS (.slice am nm cm) pc rs mo ba (.slice ca ck cc) op oh ot st fe fp fh ft lo)).past (.cells #[J 2,J x,J y,J i] 130)).past (.cells zS 154)
 have X1:=(Box.newAt (w:=w.alloc (.cells (rS (.slice am nm cm) pc rs mo ba (.slice ca ck cc) op oh ot st fe fp fh ft lo) 154)) (n:=w.heap.size+1) (by simp) 130 #[J 2,J x,J y,J i]).past (.cells zS 154)
 have X2:=Box.newAt (w:=(w.alloc (.cells (rS (.slice am nm cm) pc rs mo ba (.slice ca ck cc) op oh ot st fe fp fh ft lo) 154)).alloc (.cells #[J 2,J x,J y,J i] 130)) (n:=w.heap.size+1+1) (by simp) 154 zS
 have B0:Hid (Below w.heap.size w _):=aA (aA (aA (Below.refl w.heap.size w) (.cells (rS (.slice am nm cm) pc rs mo ba (.slice ca ck cc) op oh ot st fe fp fh ft lo) 154)) (.cells #[J 2,J x,J y,J i] 130)) (.cells zS 154)
 have W3:Hid ((((w.alloc (.cells (rS (.slice am nm cm) pc rs mo ba (.slice ca ck cc) op oh ot st fe fp fh ft lo) 154)).alloc (.cells #[J 2,J x,J y,J i] 130)).alloc (.cells zS 154)).heap.size=w.heap.size+1+1+1):=by show _=_;simp
 generalize (((w.alloc (.cells (rS (.slice am nm cm) pc rs mo ba (.slice ca ck cc) op oh ot st fe fp fh ft lo) 154)).alloc (.cells #[J 2,J x,J y,J i] 130)).alloc (.cells zS 154))=W at *
 have Y0:=X0.setReg hx8 H8.out v |>.drew
 have Y2:=X2.other (p:=⟨w.heap.size,2+x.toNat,none⟩) (by show w.heap.size+1+1≠w.heap.size;omega) (J v) |>.drew
 have B6:Hid (Below w.heap.size w (W.setCell ⟨w.heap.size,2+x.toNat,none⟩ (J v)).drew):=Below.drew (aI (by show w.heap.size≤w.heap.size;omega) B0.out _)
 refine cA (by kernel_rfl) 16 (fun w'=>Below W.heap.size W w') (Below.drew (Below.refl _ _)) (fun hHeld=>?_)
 have CF:Cl (fun w'=>Below W.heap.size W w') _:=⟨fun wz hSz=>And.intro ((X0.keep hSz).state) (And.intro ((X1.keep hSz).four) (And.intro (eqJ ((X0.keep hSz).reg hx8) H1.out) (eqJ ((X0.keep hSz).reg hy8) H2.out)))⟩
 refine tkL 0 rfl ?_
 refine tkL 1 rfl ?_
 refine tkL 2 rfl ?_
 refine tkL 3 rfl ?_
 refine tkL 4 rfl ?_
 refine tkL 5 rfl ?_
 refine tkL 6 rfl ?_
 refine tkL 7 rfl ?_
 refine tkL 8 rfl ?_
 refine tkL 9 rfl ?_
 refine tkL 10 rfl ?_
 refine tkL 11 rfl ?_
 refine tkL 12 rfl ?_
 refine tkL 14 rfl ?_
 refine bP (i:=13) (by kernel_rfl) (by rfl) (fun K hK=>?_)
 go_simp
 refine (mJ _ _ (by omega)).mono ?_
 rintro e w5 ⟨rfl,rfl⟩
 rw[HV.out]
 go_wp2_with fail
 refine hK.out _ _ (fun _=>hHeld) ?_
 clear hK K
 refine tkL 15 rfl ?_
 (have gx:=X0.drew.reg hx8);(have fx:=X0.drew.marksAll);(have s0:=X0.lt)
 refine bP (i:=16) (by kernel_rfl) (by rfl) (fun K hK=>?_)
 go_simp
 refine hK.out _ _ (fun h=>absurd h (by decide)) ?_
 clear hK K
 refine cZ (by kernel_rfl) ?_ _
 clear gx fx s0 X0 X2 X1 hHeld
 generalize (W.setCell ⟨w.heap.size,2+x.toNat,none⟩ (J v)).drew=W6 at *
 go_wp2_with (first
  | (refine wpList_load_row rfl 154 (.tmp 2) rfl w.heap.size rfl _ _ _ _ Y0 Tryz.underlying154 rfl infoState ?_)
  | (refine wpList_store_row rfl 154 (.tmp 4) (.tmp 93) rfl (w.heap.size+1+1) _ rfl rfl _ _ Y2 infoState rfl (stateOne _ _ _ _ _ _ _ _ _ _ _ _ _ _ _ _ _ _ _ _ _ _ _ _ _ _) ?_))
 have hl:=Box.loadState (Y2.setRow (rS (.slice am nm cm) pc (rs.set x.toNat v) mo ba (.slice ca ck cc) op oh ot st fe fp fh ft lo)) rfl
 refine bodyPost_ret (v:=.tuple #[.agg (rS (.slice am nm cm) pc (rs.set x.toNat v) mo ba (.slice ca ck cc) op oh ot st fe fp fh ft lo),.bool true]) (by simp[results,Tryz.results132,asAddr,hl]) rfl ⟨_,_,_,_,_,_,_,_,_,_,_,_,_,_,_,_,_,_,_,_,rfl,fun h=>(by cases h),fun _=>⟨zs,HT.out,by rw[List.length_set];exact H8.out,rfl,.inl ⟨rfl,rfl⟩⟩,aG (by omega) B6.out _⟩
set_option maxRecDepth 10000 in
set_option maxHeartbeats 4000000 in
theorem do_3 (am:Option Addr)(nm cm:Nat)(zs:List Int)(p:Int)(rs:List Int)(mo ba op oh ot fe fp fh ft:Int)(st lo:Bool)(ca:Option Addr)(ck cc:Nat)(l:List Ln)(x y i:Int)(w:World)(_:Sl w (.slice am nm cm) zs)(_:Ls w (.slice ca ck cc) l)(_:chkB ⟨mo,ba,l,op,oh,ot,st,fe,fp,fh,ft,lo⟩=0)(_:chk zs=0)(h8:rs.length=8)(hw:∀j,j<8→0≤nth rs j∧nth rs j≤65535)(hx:0≤x∧x≤7)(hy:0≤y∧y≤7)(hi:0≤i∧i≤63):
  Calls Tryz.prog 132 #[.agg (rS (.slice am nm cm) (nextP p) rs mo ba (.slice ca ck cc) op oh ot st fe fp fh ft lo),.agg #[J 3,J x,J y,J i]] w fun e w'=>DoH am nm cm zs p rs mo ba op oh ot fe fp fh ft st lo ca ck cc l 3 x y i w e w':=by
 obtain⟨hx0,hx1⟩:=hx
 obtain⟨hy0,hy1⟩:=hy
 obtain⟨hi0,hi1⟩:=hi
 have hx9:x<8:=by omega
 have hy9:y<8:=by omega
 have hx8:x.toNat<8:=by omega
 have hy8:y.toNat<8:=by omega
 have H8:Hid (rs.length=8):=h8
 have rx:=hw x.toNat hx8
 have ry:=hw y.toNat hy8
 obtain⟨one,h1⟩:∃one,nth rs x.toNat=one:=⟨_,rfl⟩
 obtain⟨two,h2⟩:∃two,nth rs y.toNat=two:=⟨_,rfl⟩
 have H1:Hid (nth rs x.toNat=one):=h1
 have H2:Hid (nth rs y.toNat=two):=h2
 rw[h1] at rx
 rw[h2] at ry
 obtain⟨pc,hpc⟩:∃pc,nextP p=pc:=⟨_,rfl⟩
 rw[hpc]
 have HPC:Hid (nextP p=pc):=hpc
 clear hpc
 obtain⟨v,hv⟩:∃v,(one*2 ^ i.toNat%65536)=v:=⟨_,rfl⟩
 have HV:Hid ((one*2 ^ i.toNat%65536)=v):=hv
 have HT:Hid (exeI zs ⟨p,rs,false⟩ ⟨mo,ba,l,op,oh,ot,st,fe,fp,fh,ft,lo⟩ 3 x y i=(zs,⟨pc,rs.set x.toNat v,false⟩,⟨mo,ba,l,op,oh,ot,st,fe,fp,fh,ft,lo⟩)):=by show _=_;rw[exeI,if_neg (by decide),if_neg (by decide),if_pos rfl,HPC.out,h1,hv]
 clear hv
 obtain⟨rx0,rx1⟩:=rx
 obtain⟨ry0,ry1⟩:=ry
 have HRX:Hid (0≤one∧one≤65535):=⟨rx0,rx1⟩
 have HRI:Hid (0≤i∧i≤63):=⟨hi0,hi1⟩
 clear h1 h2 h8 hw
 go_enter Tryz.func132,Tryz.ntmps132
 go_upto_region 8 with fail
 have X0:=((Box.newAt (w:=w) (n:=w.heap.size) rfl 154 (rS (.slice am nm cm) pc rs mo ba (.slice ca ck cc) op oh ot st fe fp fh ft lo)).past (.cells #[J 3,J x,J y,J i] 130)).past (.cells zS 154)
 have X1:=(Box.newAt (w:=w.alloc (.cells (rS (.slice am nm cm) pc rs mo ba (.slice ca ck cc) op oh ot st fe fp fh ft lo) 154)) (n:=w.heap.size+1) (by simp) 130 #[J 3,J x,J y,J i]).past (.cells zS 154)
 have X2:=Box.newAt (w:=(w.alloc (.cells (rS (.slice am nm cm) pc rs mo ba (.slice ca ck cc) op oh ot st fe fp fh ft lo) 154)).alloc (.cells #[J 3,J x,J y,J i] 130)) (n:=w.heap.size+1+1) (by simp) 154 zS
 have B0:Hid (Below w.heap.size w _):=aA (aA (aA (Below.refl w.heap.size w) (.cells (rS (.slice am nm cm) pc rs mo ba (.slice ca ck cc) op oh ot st fe fp fh ft lo) 154)) (.cells #[J 3,J x,J y,J i] 130)) (.cells zS 154)
 have W3:Hid ((((w.alloc (.cells (rS (.slice am nm cm) pc rs mo ba (.slice ca ck cc) op oh ot st fe fp fh ft lo) 154)).alloc (.cells #[J 3,J x,J y,J i] 130)).alloc (.cells zS 154)).heap.size=w.heap.size+1+1+1):=by show _=_;simp
 generalize (((w.alloc (.cells (rS (.slice am nm cm) pc rs mo ba (.slice ca ck cc) op oh ot st fe fp fh ft lo) 154)).alloc (.cells #[J 3,J x,J y,J i] 130)).alloc (.cells zS 154))=W at *
 have Y0:=X0.setReg hx8 H8.out v |>.drew
 have Y2:=X2.other (p:=⟨w.heap.size,2+x.toNat,none⟩) (by show w.heap.size+1+1≠w.heap.size;omega) (J v) |>.drew
 have B6:Hid (Below w.heap.size w (W.setCell ⟨w.heap.size,2+x.toNat,none⟩ (J v)).drew):=Below.drew (aI (by show w.heap.size≤w.heap.size;omega) B0.out _)
 refine cA (by kernel_rfl) 12 (fun w'=>Below W.heap.size W w') (Below.drew (Below.refl _ _)) (fun hHeld=>?_)
 have CF:Cl (fun w'=>Below W.heap.size W w') _:=⟨fun wz hSz=>And.intro ((X0.keep hSz).state) (And.intro ((X1.keep hSz).four) (And.intro (eqJ ((X0.keep hSz).reg hx8) H1.out) (eqJ ((X0.keep hSz).reg hy8) H2.out)))⟩
 refine tkL 0 rfl ?_
 refine tkL 1 rfl ?_
 refine tkL 2 rfl ?_
 refine tkL 3 rfl ?_
 refine tkL 4 rfl ?_
 refine tkL 5 rfl ?_
 refine tkL 6 rfl ?_
 refine tkL 7 rfl ?_
 refine tkL 8 rfl ?_
 refine tkL 10 rfl ?_
 refine bP (i:=9) (by kernel_rfl) (by rfl) (fun K hK=>?_)
 go_simp
 refine (rX _ _ _ HRX.out HRI.out).mono ?_
 rintro e w5 ⟨rfl,rfl⟩
 rw[HV.out]
 go_wp2_with fail
 refine hK.out _ _ (fun _=>hHeld) ?_
 clear hK K
 refine tkL 11 rfl ?_
 (have gx:=X0.drew.reg hx8);(have fx:=X0.drew.marksAll);(have s0:=X0.lt)
 refine bP (i:=12) (by kernel_rfl) (by rfl) (fun K hK=>?_)
 go_simp
 refine hK.out _ _ (fun h=>absurd h (by decide)) ?_
 clear hK K
 refine cZ (by kernel_rfl) ?_ _
 clear gx fx s0 X0 X2 X1 hHeld
 generalize (W.setCell ⟨w.heap.size,2+x.toNat,none⟩ (J v)).drew=W6 at *
 go_wp2_with (first
  | (refine wpList_load_row rfl 154 (.tmp 2) rfl w.heap.size rfl _ _ _ _ Y0 Tryz.underlying154 rfl infoState ?_)
  | (refine wpList_store_row rfl 154 (.tmp 4) (.tmp 93) rfl (w.heap.size+1+1) _ rfl rfl _ _ Y2 infoState rfl (stateOne _ _ _ _ _ _ _ _ _ _ _ _ _ _ _ _ _ _ _ _ _ _ _ _ _ _) ?_))
 have hl:=Box.loadState (Y2.setRow (rS (.slice am nm cm) pc (rs.set x.toNat v) mo ba (.slice ca ck cc) op oh ot st fe fp fh ft lo)) rfl
 refine bodyPost_ret (v:=.tuple #[.agg (rS (.slice am nm cm) pc (rs.set x.toNat v) mo ba (.slice ca ck cc) op oh ot st fe fp fh ft lo),.bool true]) (by simp[results,Tryz.results132,asAddr,hl]) rfl ⟨_,_,_,_,_,_,_,_,_,_,_,_,_,_,_,_,_,_,_,_,rfl,fun h=>(by cases h),fun _=>⟨zs,HT.out,by rw[List.length_set];exact H8.out,rfl,.inl ⟨rfl,rfl⟩⟩,aG (by omega) B6.out _⟩
end Go.Proofs.YthlhocneggcekaaGreat
