/-
  Laid together: Stepped5, Stepped7, SteppedR.
-/
import Derived.Test.YthlhocneggcekaaGreatD29
import Derived.Deep.CutBlock
namespace Go.Proofs.YthlhocneggcekaaGreat
open Go.RowKit
set_option maxRecDepth 10000 in
set_option maxHeartbeats 8000000 in
theorem xP (v:Value)(zs:List Int)(p:Int)(u:Value)(r:List Int)(mo ba op oh ot fe fp fh ft:Int)(st lo:Bool)(vc:Value)(l:List Ln)(w:World)(x y i:Int)(hP:StP v zs p u r mo ba op oh ot fe fp fh ft st lo vc l w 0 5 x y i):StC v zs p u r mo ba op oh ot fe fp fh ft st lo vc l w:=by
 obtain⟨b,o,cap,rb,ro,rc,rfl,rfl,hbb,hrb,hp0,hp1,hF⟩:=fT hP
 have HF:Hid _:=hF
 obtain⟨R,hR⟩:∃R:Array Value,R=(rB mo ba vc op oh ot st fe fp fh ft lo):=⟨_,rfl⟩
 have HRB:Hid (R=(rB mo ba vc op oh ot st fe fp fh ft lo)):=hR
 have HRS:Hid (R.size=12∧R.all (·.oneCell')=true):=hR ▸ eX hF.hc
 unfold StC
 rw[←hR]
 have gz:=hF.cs p.toNat (by omega)
 obtain⟨z,hz⟩:∃z,nth zs p.toNat=z:=⟨_,rfl⟩
 have HE:Hid (riE z=0):=by have:=hF.hE;rw[hz] at this;exact this
 have HX:Hid (riX z=(5,x,y,i)):=by have:=hF.hX;rw[hz] at this;exact this
 rw[hz] at gz
 clear hP hF hR hz
 go_enter Tryz.func49,Tryz.ntmps49
 go_upto_region 1 with fail
 (try simp only[Value.cells])
 rw[fS]
 obtain⟨A,bw⟩:=gX w (.slice (some ⟨b,o,none⟩) 512 cap) (.slice (some ⟨rb,ro,none⟩) 8 rc) p R
 generalize sixW w (.slice (some ⟨b,o,none⟩) 512 cap) (.slice (some ⟨rb,ro,none⟩) 8 rc) p R=W0 at *
 have gz:=(bw.cell (p:=⟨b,o+p.toNat,none⟩) hbb).trans gz
 have t1:b<W0.heap.size:=Nat.lt_of_lt_of_le hbb bw.size
 have BV:Hid (Below w.heap.size w W0):=bw
 obtain⟨m0,-,s0⟩:=A.x0.one
 obtain⟨h0,h1,h2,-,-,-,s1⟩:=A.x1.three
 clear bw
 go_wp2_with fail
 refine (fQ HE.out HX.out).mono ?_
 rintro _ w1 ⟨rfl,b1⟩
 have hI6:=(A.keep b1).lt
 have A:=(A.keep b1).past (.cells #[J 5,J x,J y,J i] 130)
 have XI:=Box.newAt (w:=w1) (n:=w1.heap.size) rfl 130 #[J 5,J x,J y,J i]
 have BV:Hid (Below w.heap.size w (w1.alloc (.cells #[J 5,J x,J y,J i] 130))):=aA (aB BV.out b1) _
 clear b1 gz t1 m0 s0 h0 h1 h2 s1
 go_upto_region 5 with fail
 generalize w1.heap.size=I at *
 generalize (w1.alloc (.cells #[J 5,J x,J y,J i] 130))=W at *
 have HRW:Hid (Sl W (.slice (some ⟨rb,ro,none⟩) 8 rc) r):=HF.out.hr.keep BV.out
 have HPN:Hid ((IntKind.i64.wrap (p+1)).tmod 512=nextP p):=fR hp0 hp1
 have H8:Hid (r.length=8):=HF.out.r8
 have HNE:Hid (r≠[]):=fun e=>by have:=H8.out;rw[e] at this;simp at this
 have HOL:Hid (OwnI (W.alloc (.cells #[] 3)) W.heap.size (.slice (some ⟨W.heap.size,0,none⟩) 0 0) []):=eC rfl (Nat.le_refl _)
 have HOL2:Hid (∀ob:Obj,OwnI ((W.alloc ob).alloc (.cells #[] 3)) W.heap.size (.slice (some ⟨W.heap.size+1,0,none⟩) 0 0) []):=fun ob=>eC (by simp) (by simp)
 obtain⟨a0,a1,-,-,-,-,s1⟩:=A.x1.three
 have zI:=XI.lt
 have hA:=A.lt
 go_cut [12] from 37 to 45 (fun s wx=>StN p r W s wx)
 case first=>
  go_region_held3 (fun w'=>w'.cell? ⟨w.heap.size+1,0,none⟩=some (J p)∧w'.cell? ⟨w.heap.size+1,1,none⟩=some (.slice (some ⟨rb,ro,none⟩) 8 rc)∧Below W.heap.size W w')
   (with_reducible refine keep2H (by assumption) (by assumption) (by assumption) ?_;(repeat (first|with_reducible assumption|(with_reducible (refine limb2H (?_:_∧_∧_);assumption))|with_reducible exact Below.refl _ _|with_reducible refine Below.drew ?_|with_reducible refine aH ?_ _|with_reducible refine aA ?_ _|with_reducible refine Below.trans ?_ (by assumption)|(with_reducible refine bO ?_ ?_ _ _ _;(focus omega)))))
   (first|(refine dB rfl (.tmp 41) (.tmp 43) rfl W.heap.size (.slice (some ⟨_,0,none⟩) 0 0) (.slice (some ⟨rb,ro,none⟩) 8 rc) [] r rfl rfl ?_ ?_ ?_ ?_ ?_ ?_;(focus ((repeat (first|with_reducible refine OwnI.drew ?_|with_reducible exact HOL.out|with_reducible exact HOL2.out _|with_reducible refine OwnI.alloc ?_ _));done));(focus (refine HRW.out.keep ?_;(repeat (first|with_reducible exact Below.refl _ _|with_reducible refine Below.drew ?_|with_reducible refine aA ?_ _));done));(focus (rw[H8.out];simp;done));(focus (first|(simp;done)|(simp;omega)));(focus (exact HNE.out));intro g cg w7 hown hgr hbel hat;first|(have XN:=ord2 hgr;obtain⟨i0,i1,i2,j0,j1,j2,l9⟩:=XN.three)|(have XN:=ord3 hgr;obtain⟨i0,i1,i2,j0,j1,j2,l9⟩:=XN.three)|skip))
  all_goals (rename_i hH;have HBE:=limb2H hH;clear hH)
  all_goals (go_wp2_with fail;go_meet)
  ·refine⟨_,g,cg,rfl,by rw[←HPN.out];exact Box.newAt rfl _ _,hown.alloc _,by have:=hbel.size;simp at this;omega,HBE⟩
  ·refine⟨_,g,cg,rfl,by rw[←HPN.out];exact XN.set3 _ _ _,hown.far3 (dQ hown XN) _ _ _,by omega,HBE⟩
  ·refine⟨_,g,cg,rfl,by rw[←HPN.out];exact XN.set3 _ _ _,hown.far3 (dQ hown XN) _ _ _,by omega,HBE⟩
 case rest=>
  obtain⟨n,g,cg,rfl,XN,HO,hn,BC⟩:=hcut
  rw[H8.out] at XN HO
  have A:=A.keep BC
  have XI:=XI.keep BC
  have BV:Hid (Below w.heap.size w wc):=aB BV.out BC
  have hgn:=dQ HO XN
  have hgW:=HO.base g rfl
  have HOW:Hid _:=HO
  clear BC HRW HOL HOL2 HNE HPN HO a0 a1 s1
  obtain⟨-,⟨i2a,i2b⟩,⟨i3a,i3b⟩,⟨i4a,i4b⟩⟩:=HF.out.hi rfl
  have rx:=HF.out.rw x.toNat (by omega)
  have ry:=HF.out.rw y.toNat (by omega)
  have gx:=HF.out.rs x.toNat (by omega)
  have gy:=HF.out.rs y.toNat (by omega)
  obtain⟨one,h1⟩:∃one,nth r x.toNat=one:=⟨_,rfl⟩
  obtain⟨two,h2⟩:∃two,nth r y.toNat=two:=⟨_,rfl⟩
  rw[h1] at rx gx
  rw[h2] at ry gy
  rw[←BV.out.cell (p:=⟨rb,ro+x.toNat,none⟩) hrb] at gx
  rw[←BV.out.cell (p:=⟨rb,ro+y.toNat,none⟩) hrb] at gy
  have HT:Hid _:=HF.out.ht rfl
  have HO1:Hid (nth r x.toNat=one):=h1
  have HO2:Hid (nth r y.toNat=two):=h2
  clear h1 h2
  obtain⟨c0,c1,c2,c3,-,-,-,-,zI2⟩:=XI.four
  obtain⟨a0,a1,-,-,-,-,s1⟩:=A.x1.three
  have hrb1:rb<wc.heap.size:=Nat.lt_of_lt_of_le hrb BV.out.size
  go_upto_region 6 with fail
  go_quiet (fail)
  have A:=A.drewN nq
  have XN:=XN.drewN nq
  have XI:=XI.drewN nq
  have HOV:Hid (OwnI (wc.drewN nq) W.heap.size (.slice (some ⟨g,0,none⟩) 8 cg) r):=HOW.out
  have BV:Hid (Below w.heap.size w (wc.drewN nq)):=aH BV.out nq
  have lg:g<(wc.drewN nq).heap.size:=OwnI.lt HOV.out g rfl
  clear HOW gx gy c0 c1 c2 c3 a0 a1 s1 zI2 hrb1
  generalize wc.drewN nq=V at *
  obtain⟨rx0,rx1⟩:=rx
  obtain⟨ry0,ry1⟩:=ry
  have hx9:x<8:=by omega
  have hwr:IntKind.i64.wrap (two+i)=two+i:=cF _ (by omega) (by omega)
  have hA6V:=A.lt
  have hS8:r.length≤maxLen:=by rw[H8.out];decide
  have HS8:Hid (r.length≤maxLen):=hS8
  have lI:=XI.lt
  obtain⟨c0,c1,c2,c3,-,-,-,-,zI2⟩:=XI.four
  by_cases hq:two+i≤511
  rotate_left
  ·have hq1:511<two+i:=by omega
   have HT1:Hid (goS zs ⟨p,r,false⟩ ⟨mo,ba,l,op,oh,ot,st,fe,fp,fh,ft,lo⟩=(zs,⟨p,r,true⟩,⟨mo,ba,l,op,oh,ot,st,fe,fp,fh,ft,lo⟩)):=by
    show _=_
    rw[HT.out,exeI,if_neg (by decide),if_neg (by decide),if_neg (by decide),if_neg (by decide),if_pos rfl,if_neg (by rw[HO2.out];exact hq)];rfl
   go_wp2_with fail
   refine (dY A HRB.out HF.out.hc ⟨_,_,_,rfl⟩ ⟨_,_,_,rfl⟩).mono ?_
   rintro _ w2 ⟨c3,c4,rfl,h3,h4,g3,g4,K⟩
   have R3:=K.box _ _ _ (by omega) A.x3
   have R4:=K.box _ _ _ (by omega) A.x4
   have R5:=K.box _ _ _ (by omega) A.x5
   have hb:=K.bel w (by omega) BV.out
   clear K A
   go_wp2_with (first
    | fail
    | (refine wpList_store_row rfl 24 _ _ rfl _ _ rfl rfl _ _ R3 (by rw[info1,g3.out.1]) g3.out.1.symm g3.out.2 ?_)
    | (refine wpList_store_row rfl 26 _ _ rfl _ _ rfl rfl _ _ (R4.otherRow (by omega) _) (by rw[info3,g4.out.1]) g4.out.1.symm g4.out.2 ?_)
    | (refine wpList_store_row rfl 31 _ _ rfl _ _ rfl rfl _ _ ((R5.otherRow (by omega) _).otherRow (by omega) _) (by rw[info12,HRS.out.1]) HRS.out.1.symm HRS.out.2 ?_))
   obtain rfl:=h3.out
   obtain rfl:=h4.out
   exact cY (by rfl) (by rfl) (by rfl) R3 R4 R5 hb HRB.out HT1.out (fun _ hb _ _=>⟨HF.out.hm.keep hb,HF.out.hr.keep hb⟩) (.inl rfl) (.inl rfl)
  have hq1:¬511<two+i:=by omega
  have hq2:0≤two+i:=by omega
  have hq3:two+i<512:=by omega
  have HT1:Hid (goS zs ⟨p,r,false⟩ ⟨mo,ba,l,op,oh,ot,st,fe,fp,fh,ft,lo⟩=(zs.set (two+i).toNat one,⟨nextP p,r,false⟩,⟨mo,ba,l,op,oh,ot,st,fe,fp,fh,ft,lo⟩)):=by
   show _=_
   rw[HT.out,exeI,if_neg (by decide),if_neg (by decide),if_neg (by decide),if_neg (by decide),if_pos rfl,if_pos (by rw[HO2.out];exact hq),HO1.out,HO2.out]
  clear hq hS8
  go_upto_region 27 with fail
  clear c0 c1 c2 c3 zI2
  refine wp_region_held_drew (S:=fun w'=>Src w.heap.size n (w.heap.size+1+1) _ _ R w'∧Box w' I 130 #[J 5,J x,J y,J i]) (by kernel_rfl) ⟨⟨A.x0.drew,XN.drew,A.x2.drew⟩,XI.drew⟩ (fun hHeld=>?_)
  refine aO (i:=0) (v:=.agg _) rfl (by kernel_rfl) (by kernel_rfl) (by kernel_rfl) (fun _ _ _ h=>h) (aS (by kernel_rfl) 24 _ rfl rfl (fun _ h=>h.1.a.load1 rfl)) (by assumption) ?_
  simp only[nmz]
  refine tkH 1 rfl ?_ (by intro wz hSz;(try dsimp only at hSz);(obtain⟨c0,c1,c2,c3,-,-,-,-,zI2⟩:=hSz.2.four);go_simp;(try with_reducible rfl))
  refine tkH 2 rfl ?_ (by intro wz hSz;(try dsimp only at hSz);(obtain⟨c0,c1,c2,c3,-,-,-,-,zI2⟩:=hSz.2.four);go_simp;(try with_reducible rfl))
  refine tkH 3 rfl ?_ (by intro wz hSz;(try dsimp only at hSz);(obtain⟨c0,c1,c2,c3,-,-,-,-,zI2⟩:=hSz.2.four);go_simp;(try with_reducible rfl))
  refine tkH 4 rfl ?_ (by intro wz hSz;(try dsimp only at hSz);(obtain⟨c0,c1,c2,c3,-,-,-,-,zI2⟩:=hSz.2.four);go_simp;(try with_reducible rfl))
  refine tkH 5 rfl ?_ (by intro wz hSz;(try dsimp only at hSz);(obtain⟨c0,c1,c2,c3,-,-,-,-,zI2⟩:=hSz.2.four);go_simp;(try with_reducible rfl))
  refine aO (i:=7) (v:=.agg _) rfl (by kernel_rfl) (by kernel_rfl) (by kernel_rfl) (fun _ _ _ h=>h) (aS (by kernel_rfl) 26 _ rfl rfl (fun _ h=>h.1.b.load3 rfl)) (by assumption) ?_
  simp only[nmz]
  refine aO (i:=8) (v:=.agg _) rfl (by kernel_rfl) (by kernel_rfl) (by kernel_rfl) (fun _ _ _ h=>h) (aS (by kernel_rfl) 31 _ rfl rfl (fun _ h=>h.1.c.load12 HRS.out.1)) (by assumption) ?_
  simp only[nmz]
  refine aE (i:=6) (by kernel_rfl) (by rfl) (fun K hK=>?_)
  go_simp
  refine (uQ _ zs (two+i) one _ (HF.out.hm.keep (Below.drew BV.out)) (bF HF.out.hz).1 hq2 hq3).mono ?_
  rintro _ w5 ⟨v5,rfl,h5,n5,b5⟩
  have A:=A.drew.keep b5
  have HS5:Hid (Sl w5 v5 (zs.set (two+i).toNat one)):=h5
  have HF5:Hid (Fresh V.heap.size v5):=n5
  have HO5:Hid (OwnI w5 W.heap.size (.slice (some ⟨g,0,none⟩) 8 cg) r):=OwnI.keep (w:=V.drew) HOV.out (fun k hk=>b5.block k (OwnI.lt HOV.out k hk))
  have BV5:Hid (Below w.heap.size w w5):=aB (Below.drew BV.out) b5
  obtain⟨a5,c5,e5⟩:=h5.shape
  rw[List.length_set,(bF HF.out.hz).1] at e5
  subst e5
  go_wp2_with fail
  refine hK.out _ _ ⟨⟨hHeld.1.a.keep b5,hHeld.1.b.keep b5,hHeld.1.c.keep b5⟩,hHeld.2.keep b5⟩ (fun hHeld2=>?_)
  clear hK K hHeld h5 n5 b5
  have hHeld:=hHeld2
  clear hHeld2
  refine aE (i:=9) (by kernel_rfl) (by rfl) (fun K hK=>?_)
  refine aF rfl 24 _ _ rfl _ _ rfl rfl _ _ (A.x3) info1 rfl (by simp[Value.oneCell']) ?_
  refine hK.out _ _ ⟨hHeld.1.put (by omega) _,hHeld.2.otherRow (by omega) _⟩ (fun hHeld2=>?_)
  clear hK K hHeld
  have hHeld:=hHeld2
  clear hHeld2
  simp only[Act.put]
  refine aE (i:=10) (by kernel_rfl) (by rfl) (fun K hK=>?_)
  refine aF rfl 26 _ _ rfl _ _ rfl rfl _ _ (A.x4.otherRow (by omega) _) info3 rfl (by simp[Value.oneCell']) ?_
  refine hK.out _ _ ⟨hHeld.1.put (by omega) _,hHeld.2.otherRow (by omega) _⟩ (fun hHeld2=>?_)
  clear hK K hHeld
  have hHeld:=hHeld2
  clear hHeld2
  simp only[Act.put]
  refine aE (i:=11) (by kernel_rfl) (by rfl) (fun K hK=>?_)
  refine aF rfl 31 _ _ rfl _ _ rfl rfl _ _ ((A.x5.otherRow (by omega) _).otherRow (by omega) _) (by rw[info12,HRS.out.1]) HRS.out.1.symm HRS.out.2 ?_
  refine hK.out _ _ ⟨hHeld.1.put (by omega) _,hHeld.2.otherRow (by omega) _⟩ (fun hHeld2=>?_)
  clear hK K hHeld
  have hHeld:=hHeld2
  clear hHeld2
  simp only[Act.put]
  refine wpAnyH_done (by kernel_rfl) ?_ _
  go_wp2_with fail
  exact cY (by rfl) (by rfl) (by rfl) A.x3 A.x4 A.x5 BV5.out HRB.out HT1.out (fun _ _ ho hf=>⟨hf (by omega) HF5.out HS5.out,(ho (by omega) HO5.out).sl HS8.out⟩) (.inr (HF5.out.mono (by omega))) (.inr (bJ (by omega) _ _ _))
def St7 (B:Br)(i one:Int)(vc:Value)(V:World)(C:Nat)(s:Value)(wx:World):Prop:=
 ∃mo1 ba1 op1 ot1 fp1 fh1 st1 lo1,s=J (mostB i)∧Box wx C 31 (rB mo1 ba1 vc op1 B.oh ot1 st1 B.fen fp1 fh1 B.ft lo1)∧(setB B i one=⟨mo1,ba1,B.cache,op1,B.oh,ot1,st1,B.fen,fp1,fh1,B.ft,lo1⟩∨mostB i=-1)∧Below C V wx
set_option maxRecDepth 10000 in
set_option maxHeartbeats 8000000 in
theorem xQ (v:Value)(zs:List Int)(p:Int)(u:Value)(r:List Int)(mo ba op oh ot fe fp fh ft:Int)(st lo:Bool)(vc:Value)(l:List Ln)(w:World)(x y i:Int)(hP:StP v zs p u r mo ba op oh ot fe fp fh ft st lo vc l w 0 7 x y i):StC v zs p u r mo ba op oh ot fe fp fh ft st lo vc l w:=by
 obtain⟨b,o,cap,rb,ro,rc,rfl,rfl,hbb,hrb,hp0,hp1,hF⟩:=fT hP
 have HF:Hid _:=hF
 obtain⟨R,hR⟩:∃R:Array Value,R=(rB mo ba vc op oh ot st fe fp fh ft lo):=⟨_,rfl⟩
 have HRB:Hid (R=(rB mo ba vc op oh ot st fe fp fh ft lo)):=hR
 have HRS:Hid (R.size=12∧R.all (·.oneCell')=true):=hR ▸ eX hF.hc
 unfold StC
 rw[←hR]
 have gz:=hF.cs p.toNat (by omega)
 obtain⟨z,hz⟩:∃z,nth zs p.toNat=z:=⟨_,rfl⟩
 have HE:Hid (riE z=0):=by have:=hF.hE;rw[hz] at this;exact this
 have HX:Hid (riX z=(7,x,y,i)):=by have:=hF.hX;rw[hz] at this;exact this
 rw[hz] at gz
 clear hP hF hR hz
 go_enter Tryz.func49,Tryz.ntmps49
 go_upto_region 1 with fail
 (try simp only[Value.cells])
 rw[fS]
 obtain⟨A,bw⟩:=gX w (.slice (some ⟨b,o,none⟩) 512 cap) (.slice (some ⟨rb,ro,none⟩) 8 rc) p R
 generalize sixW w (.slice (some ⟨b,o,none⟩) 512 cap) (.slice (some ⟨rb,ro,none⟩) 8 rc) p R=W0 at *
 have gz:=(bw.cell (p:=⟨b,o+p.toNat,none⟩) hbb).trans gz
 have t1:b<W0.heap.size:=Nat.lt_of_lt_of_le hbb bw.size
 have BV:Hid (Below w.heap.size w W0):=bw
 obtain⟨m0,-,s0⟩:=A.x0.one
 obtain⟨h0,h1,h2,-,-,-,s1⟩:=A.x1.three
 clear bw
 go_wp2_with fail
 refine (fQ HE.out HX.out).mono ?_
 rintro _ w1 ⟨rfl,b1⟩
 have hI6:=(A.keep b1).lt
 have A:=(A.keep b1).past (.cells #[J 7,J x,J y,J i] 130)
 have XI:=Box.newAt (w:=w1) (n:=w1.heap.size) rfl 130 #[J 7,J x,J y,J i]
 have BV:Hid (Below w.heap.size w (w1.alloc (.cells #[J 7,J x,J y,J i] 130))):=aA (aB BV.out b1) _
 clear b1 gz t1 m0 s0 h0 h1 h2 s1
 go_upto_region 5 with fail
 generalize w1.heap.size=I at *
 generalize (w1.alloc (.cells #[J 7,J x,J y,J i] 130))=W at *
 have HRW:Hid (Sl W (.slice (some ⟨rb,ro,none⟩) 8 rc) r):=HF.out.hr.keep BV.out
 have HPN:Hid ((IntKind.i64.wrap (p+1)).tmod 512=nextP p):=fR hp0 hp1
 have H8:Hid (r.length=8):=HF.out.r8
 have HNE:Hid (r≠[]):=fun e=>by have:=H8.out;rw[e] at this;simp at this
 have HOL:Hid (OwnI (W.alloc (.cells #[] 3)) W.heap.size (.slice (some ⟨W.heap.size,0,none⟩) 0 0) []):=eC rfl (Nat.le_refl _)
 have HOL2:Hid (∀ob:Obj,OwnI ((W.alloc ob).alloc (.cells #[] 3)) W.heap.size (.slice (some ⟨W.heap.size+1,0,none⟩) 0 0) []):=fun ob=>eC (by simp) (by simp)
 obtain⟨a0,a1,-,-,-,-,s1⟩:=A.x1.three
 have zI:=XI.lt
 have hA:=A.lt
 go_cut [12] from 37 to 45 (fun s wx=>StN p r W s wx)
 case first=>
  go_region_held3 (fun w'=>w'.cell? ⟨w.heap.size+1,0,none⟩=some (J p)∧w'.cell? ⟨w.heap.size+1,1,none⟩=some (.slice (some ⟨rb,ro,none⟩) 8 rc)∧Below W.heap.size W w')
   (with_reducible refine keep2H (by assumption) (by assumption) (by assumption) ?_;(repeat (first|with_reducible assumption|(with_reducible (refine limb2H (?_:_∧_∧_);assumption))|with_reducible exact Below.refl _ _|with_reducible refine Below.drew ?_|with_reducible refine aH ?_ _|with_reducible refine aA ?_ _|with_reducible refine Below.trans ?_ (by assumption)|(with_reducible refine bO ?_ ?_ _ _ _;(focus omega)))))
   (first|(refine dB rfl (.tmp 41) (.tmp 43) rfl W.heap.size (.slice (some ⟨_,0,none⟩) 0 0) (.slice (some ⟨rb,ro,none⟩) 8 rc) [] r rfl rfl ?_ ?_ ?_ ?_ ?_ ?_;(focus ((repeat (first|with_reducible refine OwnI.drew ?_|with_reducible exact HOL.out|with_reducible exact HOL2.out _|with_reducible refine OwnI.alloc ?_ _));done));(focus (refine HRW.out.keep ?_;(repeat (first|with_reducible exact Below.refl _ _|with_reducible refine Below.drew ?_|with_reducible refine aA ?_ _));done));(focus (rw[H8.out];simp;done));(focus (first|(simp;done)|(simp;omega)));(focus (exact HNE.out));intro g cg w7 hown hgr hbel hat;first|(have XN:=ord2 hgr;obtain⟨i0,i1,i2,j0,j1,j2,l9⟩:=XN.three)|(have XN:=ord3 hgr;obtain⟨i0,i1,i2,j0,j1,j2,l9⟩:=XN.three)|skip))
  all_goals (rename_i hH;have HBE:=limb2H hH;clear hH)
  all_goals (go_wp2_with fail;go_meet)
  ·refine⟨_,g,cg,rfl,by rw[←HPN.out];exact Box.newAt rfl _ _,hown.alloc _,by have:=hbel.size;simp at this;omega,HBE⟩
  ·refine⟨_,g,cg,rfl,by rw[←HPN.out];exact XN.set3 _ _ _,hown.far3 (dQ hown XN) _ _ _,by omega,HBE⟩
  ·refine⟨_,g,cg,rfl,by rw[←HPN.out];exact XN.set3 _ _ _,hown.far3 (dQ hown XN) _ _ _,by omega,HBE⟩
 case rest=>
  obtain⟨n,g,cg,rfl,XN,HO,hn,BC⟩:=hcut
  rw[H8.out] at XN HO
  have A:=A.keep BC
  have XI:=XI.keep BC
  have BV:Hid (Below w.heap.size w wc):=aB BV.out BC
  have hgn:=dQ HO XN
  have hgW:=HO.base g rfl
  have HOW:Hid _:=HO
  clear BC HRW HOL HOL2 HNE HPN HO a0 a1 s1
  obtain⟨-,⟨i2a,i2b⟩,⟨i3a,i3b⟩,⟨i4a,i4b⟩⟩:=HF.out.hi rfl
  have rx:=HF.out.rw x.toNat (by omega)
  have ry:=HF.out.rw y.toNat (by omega)
  have gx:=HF.out.rs x.toNat (by omega)
  have gy:=HF.out.rs y.toNat (by omega)
  obtain⟨one,h1⟩:∃one,nth r x.toNat=one:=⟨_,rfl⟩
  obtain⟨two,h2⟩:∃two,nth r y.toNat=two:=⟨_,rfl⟩
  rw[h1] at rx gx
  rw[h2] at ry gy
  rw[←BV.out.cell (p:=⟨rb,ro+x.toNat,none⟩) hrb] at gx
  rw[←BV.out.cell (p:=⟨rb,ro+y.toNat,none⟩) hrb] at gy
  have HT:Hid _:=HF.out.ht rfl
  have HO1:Hid (nth r x.toNat=one):=h1
  have HO2:Hid (nth r y.toNat=two):=h2
  clear h1 h2
  obtain⟨c0,c1,c2,c3,-,-,-,-,zI2⟩:=XI.four
  obtain⟨a0,a1,-,-,-,-,s1⟩:=A.x1.three
  have hrb1:rb<wc.heap.size:=Nat.lt_of_lt_of_le hrb BV.out.size
  go_upto_region 6 with fail
  go_quiet (fail)
  have A:=A.drewN nq
  have XN:=XN.drewN nq
  have XI:=XI.drewN nq
  have HOV:Hid (OwnI (wc.drewN nq) W.heap.size (.slice (some ⟨g,0,none⟩) 8 cg) r):=HOW.out
  have BV:Hid (Below w.heap.size w (wc.drewN nq)):=aH BV.out nq
  have lg:g<(wc.drewN nq).heap.size:=OwnI.lt HOV.out g rfl
  clear HOW gx gy c0 c1 c2 c3 a0 a1 s1 zI2 hrb1
  generalize wc.drewN nq=V at *
  obtain⟨rx0,rx1⟩:=rx
  obtain⟨ry0,ry1⟩:=ry
  have hx9:x<8:=by omega
  have hA6V:=A.lt
  have Z0:=Box.newAt (w:=V) (n:=V.heap.size) rfl 31 zB
  have hb0:Below V.heap.size V ((V.alloc (.cells zB 31)).setRow V.heap.size R):=aG (Nat.le_refl _) (aA (Below.refl _ _) _) _
  have XC:=Z0.setRow R
  have XI1:=XI.keep hb0
  obtain⟨e0,e1,e2,e3,-,-,-,-,zI⟩:=XI.four
  go_upto_region 43 with (first
   | fail
   | (refine wpList_load_row rfl 31 _ rfl _ rfl _ _ _ _ A.x2 Tryz.underlying31 rfl (by rw[info12,HRS.out.1]) ?_)
   | (refine wpList_store_row rfl 31 _ _ rfl _ _ rfl rfl _ _ Z0 (by rw[info12,HRS.out.1]) HRS.out.1.symm HRS.out.2 ?_))
  generalize ((V.alloc (.cells zB 31)).setRow V.heap.size R)=V1 at *
  rw[HRB.out] at XC
  generalize hC:V.heap.size=C at *
  have HC:Hid (V.heap.size=C):=hC
  clear Z0 e0 e1 e2 e3 zI hC
  obtain⟨c0,c1,c2,c3,-,-,-,-,zI2⟩:=XI1.four
  go_upto_block 3 with fail
  go_cut [18] from 216 to 247 (fun s wx=>St7 ⟨mo,ba,l,op,oh,ot,st,fe,fp,fh,ft,lo⟩ i one vc V C s wx)
  case first=>
   obtain⟨⟨d0,d1,d2,d3,d4,d5,d6,d7,d8,d9,d10,d11⟩,s2⟩:=XC.twelve
   obtain⟨y0,y1,y2,y3,y4,y5,y6,y7,y8,y9,y10,y11⟩:=XC.marks
   have parts:i=0∨i=1∨i=2∨i=3∨i=5∨i=6∨i=9∨(¬i=0∧¬i=1∧¬i=2∧¬i=3∧¬i=5∧¬i=6∧¬i=9):=by omega
   rcases parts with rfl|rfl|rfl|rfl|rfl|rfl|rfl|⟨j0,j1,j2,j3,j5,j6,j9⟩
   ·go_wp2_with fail
    go_meet
    exact⟨one,ba,op,ot,fp,fh,st,lo,rfl,Box.set XC 0 (J one),.inl rfl,hb0.setCell (p:=⟨C,_,none⟩) (Nat.le_refl _) _⟩
   ·go_wp2_with fail
    go_meet
    exact⟨mo,one,op,ot,fp,fh,st,lo,rfl,Box.set XC 1 (J one),.inl rfl,hb0.setCell (p:=⟨C,_,none⟩) (Nat.le_refl _) _⟩
   ·go_wp2_with fail
    go_meet
    exact⟨mo,ba,one,ot,fp,fh,st,lo,rfl,Box.set XC 3 (J one),.inl rfl,hb0.setCell (p:=⟨C,_,none⟩) (Nat.le_refl _) _⟩
   ·go_wp2_with fail
    go_meet
    exact⟨mo,ba,op,one,fp,fh,st,lo,rfl,Box.set XC 5 (J one),.inl rfl,hb0.setCell (p:=⟨C,_,none⟩) (Nat.le_refl _) _⟩
   ·go_wp2_with fail
    go_meet
    exact⟨mo,ba,op,ot,one,fh,st,lo,rfl,Box.set XC 8 (J one),.inl rfl,hb0.setCell (p:=⟨C,_,none⟩) (Nat.le_refl _) _⟩
   ·go_wp2_with fail
    go_meet
    exact⟨mo,ba,op,ot,fp,one,st,lo,rfl,Box.set XC 9 (J one),.inl rfl,hb0.setCell (p:=⟨C,_,none⟩) (Nat.le_refl _) _⟩
   ·go_wp2_with fail
    go_meet
    exact⟨mo,ba,op,ot,fp,fh,false,false,rfl,Box.set (Box.set XC 6 (.bool false)) 11 (.bool false),.inl rfl,(hb0.setCell (p:=⟨C,_,none⟩) (Nat.le_refl _) _).setCell (p:=⟨C,_,none⟩) (Nat.le_refl _) _⟩
   ·have k0:(i==0)=false:=by simpa using j0
    have k1:(i==1)=false:=by simpa using j1
    have k2:(i==2)=false:=by simpa using j2
    have k3:(i==3)=false:=by simpa using j3
    have k5:(i==5)=false:=by simpa using j5
    have k6:(i==6)=false:=by simpa using j6
    have k9:(i==9)=false:=by simpa using j9
    have HM:Hid (mostB i=-1):=by show _=_;unfold mostB;rw[if_neg j0,if_neg (by omega),if_neg (by omega),if_neg j9]
    clear j0 j1 j2 j3 j5 j6 j9
    go_wp2_with fail
    go_meet
    exact⟨mo,ba,op,ot,fp,fh,st,lo,by rw[HM.out],XC,.inr HM.out,hb0⟩
  case rest=>
   obtain⟨mo1,ba1,op1,ot1,fp1,fh1,st1,lo1,rfl,XC,hset,hb⟩:=hcut
   have hb:Below V.heap.size V wc:=by rw[HC.out];exact hb
   have HSE:Hid _:=hset
   obtain⟨R1,hR1⟩:∃R1:Array Value,R1=(rB mo1 ba1 vc op1 oh ot1 st1 fe fp1 fh1 ft lo1):=⟨_,rfl⟩
   have HRB1:Hid (R1=(rB mo1 ba1 vc op1 oh ot1 st1 fe fp1 fh1 ft lo1)):=hR1
   have HRS1:Hid (R1.size=12∧R1.all (·.oneCell')=true):=hR1 ▸ eX HF.out.hc
   rw[←hR1] at XC
   have A:=A.keep hb
   have XN:=XN.keep hb
   have HOV:Hid (OwnI wc W.heap.size (.slice (some ⟨g,0,none⟩) 8 cg) r):=HOV.out.keep fun k hk=>hb.block k (OwnI.lt HOV.out k hk)
   have BV:Hid (Below w.heap.size w wc):=aB BV.out hb
   have HS8:Hid (r.length≤maxLen):=by show _≤_;rw[H8.out];decide
   obtain⟨mb,hmb⟩:∃mb,mostB i=mb:=⟨_,rfl⟩
   have HMB:Hid (mostB i=mb):=hmb
   rw[hmb]
   clear hR1 hb hset hmb c0 c1 c2 c3 zI2 XI1
   by_cases hq:one≤mb
   rotate_left
   ·have hq1:mb<one:=by omega
    have HT1:Hid (goS zs ⟨p,r,false⟩ ⟨mo,ba,l,op,oh,ot,st,fe,fp,fh,ft,lo⟩=(zs,⟨p,r,true⟩,⟨mo,ba,l,op,oh,ot,st,fe,fp,fh,ft,lo⟩)):=by
     show _=_
     rw[HT.out,exeI,if_neg (by decide),if_neg (by decide),if_neg (by decide),if_neg (by decide),if_neg (by decide),if_neg (by decide),if_pos rfl,HO1.out,if_neg (by rw[HMB.out];exact hq)];rfl
    go_wp2_with fail
    refine (dY A HRB.out HF.out.hc ⟨_,_,_,rfl⟩ ⟨_,_,_,rfl⟩).mono ?_
    rintro _ w2 ⟨c3,c4,rfl,h3,h4,g3,g4,K⟩
    have R3:=K.box _ _ _ (by omega) A.x3
    have R4:=K.box _ _ _ (by omega) A.x4
    have R5:=K.box _ _ _ (by omega) A.x5
    have hb:=K.bel w (by omega) BV.out
    clear K A
    go_wp2_with (first
     | fail
     | (refine wpList_store_row rfl 24 _ _ rfl _ _ rfl rfl _ _ R3 (by rw[info1,g3.out.1]) g3.out.1.symm g3.out.2 ?_)
     | (refine wpList_store_row rfl 26 _ _ rfl _ _ rfl rfl _ _ (R4.otherRow (by omega) _) (by rw[info3,g4.out.1]) g4.out.1.symm g4.out.2 ?_)
     | (refine wpList_store_row rfl 31 _ _ rfl _ _ rfl rfl _ _ ((R5.otherRow (by omega) _).otherRow (by omega) _) (by rw[info12,HRS.out.1]) HRS.out.1.symm HRS.out.2 ?_))
    obtain rfl:=h3.out
    obtain rfl:=h4.out
    exact cY (by rfl) (by rfl) (by rfl) R3 R4 R5 hb HRB.out HT1.out (fun _ hb _ _=>⟨HF.out.hm.keep hb,HF.out.hr.keep hb⟩) (.inl rfl) (.inl rfl)
   have hq1:¬mb<one:=by omega
   have HT1:Hid (goS zs ⟨p,r,false⟩ ⟨mo,ba,l,op,oh,ot,st,fe,fp,fh,ft,lo⟩=(zs,⟨nextP p,r,false⟩,⟨mo1,ba1,l,op1,oh,ot1,st1,fe,fp1,fh1,ft,lo1⟩)):=by
    show _=_
    rw[HT.out,exeI,if_neg (by decide),if_neg (by decide),if_neg (by decide),if_neg (by decide),if_neg (by decide),if_neg (by decide),if_pos rfl,HO1.out,if_pos (by rw[HMB.out];exact hq)]
    rcases HSE.out with e|e
    ·rw[e]
    ·have:=HMB.out;omega
   clear hq
   go_upto_region 62 with fail
   have hA6:=A.lt
   refine wp_region_held_drew (S:=Src w.heap.size n C _ _ _) (by kernel_rfl) ⟨A.x0.drew,XN.drew,XC.drew⟩ (fun hHeld=>?_)
   refine aO (i:=0) (v:=.agg _) rfl (by kernel_rfl) (by kernel_rfl) (by kernel_rfl) (fun _ _ _ h=>h) (aS (by kernel_rfl) 24 _ rfl rfl (fun _ h=>h.a.load1 rfl)) (by assumption) ?_
   simp only[nmz]
   refine aO (i:=1) (v:=.agg _) rfl (by kernel_rfl) (by kernel_rfl) (by kernel_rfl) (fun _ _ _ h=>h) (aS (by kernel_rfl) 26 _ rfl rfl (fun _ h=>h.b.load3 rfl)) (by assumption) ?_
   simp only[nmz]
   refine aO (i:=2) (v:=.agg _) rfl (by kernel_rfl) (by kernel_rfl) (by kernel_rfl) (fun _ _ _ h=>h) (aS (by kernel_rfl) 31 _ rfl rfl (fun _ h=>h.c.load12 HRS1.out.1)) (by assumption) ?_
   simp only[nmz]
   refine aE (i:=3) (by kernel_rfl) (by rfl) (fun K hK=>?_)
   refine aF rfl 24 _ _ rfl _ _ rfl rfl _ _ (A.x3.drew) info1 rfl (by simp[Value.oneCell']) ?_
   refine hK.out _ _ (hHeld.put (by omega) _) (fun hHeld2=>?_)
   clear hK K hHeld
   have hHeld:=hHeld2
   clear hHeld2
   simp only[Act.put]
   refine aE (i:=4) (by kernel_rfl) (by rfl) (fun K hK=>?_)
   refine aF rfl 26 _ _ rfl _ _ rfl rfl _ _ (A.x4.drew.otherRow (by omega) _) info3 rfl (by simp[Value.oneCell']) ?_
   refine hK.out _ _ (hHeld.put (by omega) _) (fun hHeld2=>?_)
   clear hK K hHeld
   have hHeld:=hHeld2
   clear hHeld2
   simp only[Act.put]
   refine aE (i:=5) (by kernel_rfl) (by rfl) (fun K hK=>?_)
   refine aF rfl 31 _ _ rfl _ _ rfl rfl _ _ ((A.x5.drew.otherRow (by omega) _).otherRow (by omega) _) (by rw[info12,HRS1.out.1]) HRS1.out.1.symm HRS1.out.2 ?_
   refine hK.out _ _ (hHeld.put (by omega) _) (fun hHeld2=>?_)
   clear hK K hHeld
   have hHeld:=hHeld2
   clear hHeld2
   simp only[Act.put]
   refine wpAnyH_done (by kernel_rfl) ?_ _
   go_wp2_with fail
   exact cY (by rfl) (by rfl) (by rfl) A.x3.drew A.x4.drew A.x5.drew (Below.drew BV.out) HRB1.out HT1.out (fun _ hb ho _=>⟨HF.out.hm.keep hb,(ho (by omega) HOV.out.drew).sl HS8.out⟩) (.inl rfl) (.inr (bJ (by omega) _ _ _))
theorem stepped_anyN (v:Value)(zs:List Int)(p:Int)(u:Value)(r:List Int)(mo ba op oh ot fe fp fh ft:Int)(st lo:Bool)(vc:Value)(l:List Ln)(w:World)(hs:Sl w v zs)(hr:Sl w u r)(h:Ls w vc l)(hE:stE zs ⟨p,r,false⟩ ⟨mo,ba,l,op,oh,ot,st,fe,fp,fh,ft,lo⟩=0):
  Calls Tryz.prog 49 #[.agg #[v],.agg #[J p,u,.bool false],.agg (rB mo ba vc op oh ot st fe fp fh ft lo)] w fun e w'=>StepOutN v u w.heap.size zs ⟨p,r,false⟩ mo ba op oh ot fe fp fh ft st lo vc l w e w':=by
 obtain⟨e,hI⟩:∃e,riE (insW zs ⟨p,r,false⟩)=e:=⟨_,rfl⟩
 obtain⟨k,x,y,i,hX⟩:∃k x y i,riX (insW zs ⟨p,r,false⟩)=(k,x,y,i):=⟨_,_,_,_,rfl⟩
 by_cases he:e=0
 rotate_left
 ·exact sE v zs p u r mo ba op oh ot fe fp fh ft st lo vc l w e k x y i ⟨hs,hr,h,hE,hI,hX⟩ he
 subst he
 obtain⟨hk,-,-,-,-⟩:=uU (oV hI hX).1
 have parts:(k=0∨k=1∨k=2∨k=3)∨(k=4∨k=6)∨k=5∨k=7∨k=8:=by omega
 rcases parts with q|q|rfl|rfl|rfl
 ·exact xM v zs p u r mo ba op oh ot fe fp fh ft st lo vc l w k x y i ⟨hs,hr,h,hE,hI,hX⟩ q
 ·exact xN v zs p u r mo ba op oh ot fe fp fh ft st lo vc l w k x y i ⟨hs,hr,h,hE,hI,hX⟩ q
 ·exact xP v zs p u r mo ba op oh ot fe fp fh ft st lo vc l w x y i ⟨hs,hr,h,hE,hI,hX⟩
 ·exact xQ v zs p u r mo ba op oh ot fe fp fh ft st lo vc l w x y i ⟨hs,hr,h,hE,hI,hX⟩
 ·exact xO v zs p u r mo ba op oh ot fe fp fh ft st lo vc l w x y i ⟨hs,hr,h,hE,hI,hX⟩
end Go.Proofs.YthlhocneggcekaaGreat
