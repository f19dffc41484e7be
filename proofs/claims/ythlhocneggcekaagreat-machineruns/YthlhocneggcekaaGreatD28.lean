/-
  Laid together: SteppedX, Late.
-/
import Derived.Test.YthlhocneggcekaaGreatD27
namespace Go.Proofs.YthlhocneggcekaaGreat
open Go.RowKit
set_option maxRecDepth 10000 in
set_option maxHeartbeats 8000000 in
theorem xM (v:Value)(zs:List Int)(p:Int)(u:Value)(r:List Int)(mo ba op oh ot fe fp fh ft:Int)(st lo:Bool)(vc:Value)(l:List Ln)(w:World)(k x y i:Int)(hP:StP v zs p u r mo ba op oh ot fe fp fh ft st lo vc l w 0 k x y i)(hk:k=0∨k=1∨k=2∨k=3):StC v zs p u r mo ba op oh ot fe fp fh ft st lo vc l w:=by
 obtain⟨b,o,cap,rb,ro,rc,rfl,rfl,hbb,hrb,hp0,hp1,hF⟩:=fT hP
 have HF:Hid _:=hF
 obtain⟨R,hR⟩:∃R:Array Value,R=(rB mo ba vc op oh ot st fe fp fh ft lo):=⟨_,rfl⟩
 have HRB:Hid (R=(rB mo ba vc op oh ot st fe fp fh ft lo)):=hR
 have HRS:Hid (R.size=12∧R.all (·.oneCell')=true):=hR ▸ eX hF.hc
 unfold StC
 rw[←hR]
 have gz:=hF.cs p.toNat (by omega)
 obtain⟨z,hz⟩:∃z,nth zs p.toNat=z:=⟨_,rfl⟩
 have HE:Hid (riE z=0):=by have:=hF.hE;rw[hz] at this;exact this
 have HX:Hid (riX z=(k,x,y,i)):=by have:=hF.hX;rw[hz] at this;exact this
 rw[hz] at gz
 clear hP hF hR hz
 go_enter Tryz.func49,Tryz.ntmps49
 go_upto_region 1 with fail
 (try simp only[Value.cells])
 rw[fS]
 obtain⟨A,bw⟩:=gX w (.slice (some ⟨b,o,none⟩) 512 cap) (.slice (some ⟨rb,ro,none⟩) 8 rc) p R
 generalize sixW w (.slice (some ⟨b,o,none⟩) 512 cap) (.slice (some ⟨rb,ro,none⟩) 8 rc) p R=W0 at *
 have gz:=(bw.cell (p:=⟨b,o+p.toNat,none⟩) hbb).trans gz
 have t1:b<W0.heap.size:=Nat.lt_of_lt_of_le hbb bw.size
 have BV:Hid (Below w.heap.size w W0):=bw
 obtain⟨m0,-,s0⟩:=A.x0.one
 obtain⟨h0,h1,h2,-,-,-,s1⟩:=A.x1.three
 clear bw
 go_wp2_with fail
 refine (fQ HE.out HX.out).mono ?_
 rintro _ w1 ⟨rfl,b1⟩
 have hI6:=(A.keep b1).lt
 have A:=(A.keep b1).past (.cells #[J k,J x,J y,J i] 130)
 have XI:=Box.newAt (w:=w1) (n:=w1.heap.size) rfl 130 #[J k,J x,J y,J i]
 have BV:Hid (Below w.heap.size w (w1.alloc (.cells #[J k,J x,J y,J i] 130))):=aA (aB BV.out b1) _
 clear b1 gz t1 m0 s0 h0 h1 h2 s1
 go_upto_region 5 with fail
 generalize w1.heap.size=I at *
 generalize (w1.alloc (.cells #[J k,J x,J y,J i] 130))=W at *
 have HRW:Hid (Sl W (.slice (some ⟨rb,ro,none⟩) 8 rc) r):=HF.out.hr.keep BV.out
 have HPN:Hid ((IntKind.i64.wrap (p+1)).tmod 512=nextP p):=fR hp0 hp1
 have H8:Hid (r.length=8):=HF.out.r8
 have HNE:Hid (r≠[]):=fun e=>by have:=H8.out;rw[e] at this;simp at this
 have HOL:Hid (OwnI (W.alloc (.cells #[] 3)) W.heap.size (.slice (some ⟨W.heap.size,0,none⟩) 0 0) []):=eC rfl (Nat.le_refl _)
 have HOL2:Hid (∀ob:Obj,OwnI ((W.alloc ob).alloc (.cells #[] 3)) W.heap.size (.slice (some ⟨W.heap.size+1,0,none⟩) 0 0) []):=fun ob=>eC (by simp) (by simp)
 obtain⟨a0,a1,-,-,-,-,s1⟩:=A.x1.three
 have zI:=XI.lt
 have hA:=A.lt
 go_cut [12] from 37 to 45 (fun s wx=>StN p r W s wx)
 case first=>
  go_region_held3 (fun w'=>w'.cell? ⟨w.heap.size+1,0,none⟩=some (J p)∧w'.cell? ⟨w.heap.size+1,1,none⟩=some (.slice (some ⟨rb,ro,none⟩) 8 rc)∧Below W.heap.size W w')
   (with_reducible refine keep2H (by assumption) (by assumption) (by assumption) ?_;(repeat (first|with_reducible assumption|(with_reducible (refine limb2H (?_:_∧_∧_);assumption))|with_reducible exact Below.refl _ _|with_reducible refine Below.drew ?_|with_reducible refine aH ?_ _|with_reducible refine aA ?_ _|with_reducible refine Below.trans ?_ (by assumption)|(with_reducible refine bO ?_ ?_ _ _ _;(focus omega)))))
   (first|(refine dB rfl (.tmp 41) (.tmp 43) rfl W.heap.size (.slice (some ⟨_,0,none⟩) 0 0) (.slice (some ⟨rb,ro,none⟩) 8 rc) [] r rfl rfl ?_ ?_ ?_ ?_ ?_ ?_;(focus ((repeat (first|with_reducible refine OwnI.drew ?_|with_reducible exact HOL.out|with_reducible exact HOL2.out _|with_reducible refine OwnI.alloc ?_ _));done));(focus (refine HRW.out.keep ?_;(repeat (first|with_reducible exact Below.refl _ _|with_reducible refine Below.drew ?_|with_reducible refine aA ?_ _));done));(focus (rw[H8.out];simp;done));(focus (first|(simp;done)|(simp;omega)));(focus (exact HNE.out));intro g cg w7 hown hgr hbel hat;first|(have XN:=ord2 hgr;obtain⟨i0,i1,i2,j0,j1,j2,l9⟩:=XN.three)|(have XN:=ord3 hgr;obtain⟨i0,i1,i2,j0,j1,j2,l9⟩:=XN.three)|skip))
  all_goals (rename_i hH;have HBE:=limb2H hH;clear hH)
  all_goals (go_wp2_with fail;go_meet)
  ·refine⟨_,g,cg,rfl,by rw[←HPN.out];exact Box.newAt rfl _ _,hown.alloc _,by have:=hbel.size;simp at this;omega,HBE⟩
  ·refine⟨_,g,cg,rfl,by rw[←HPN.out];exact XN.set3 _ _ _,hown.far3 (dQ hown XN) _ _ _,by omega,HBE⟩
  ·refine⟨_,g,cg,rfl,by rw[←HPN.out];exact XN.set3 _ _ _,hown.far3 (dQ hown XN) _ _ _,by omega,HBE⟩
 case rest=>
  obtain⟨n,g,cg,rfl,XN,HO,hn,BC⟩:=hcut
  rw[H8.out] at XN HO
  have A:=A.keep BC
  have XI:=XI.keep BC
  have BV:Hid (Below w.heap.size w wc):=aB BV.out BC
  have hgn:=dQ HO XN
  have hgW:=HO.base g rfl
  have HOW:Hid _:=HO
  clear BC HRW HOL HOL2 HNE HPN HO a0 a1 s1
  obtain⟨-,⟨i2a,i2b⟩,⟨i3a,i3b⟩,⟨i4a,i4b⟩⟩:=HF.out.hi rfl
  have rx:=HF.out.rw x.toNat (by omega)
  have ry:=HF.out.rw y.toNat (by omega)
  have gx:=HF.out.rs x.toNat (by omega)
  have gy:=HF.out.rs y.toNat (by omega)
  obtain⟨one,h1⟩:∃one,nth r x.toNat=one:=⟨_,rfl⟩
  obtain⟨two,h2⟩:∃two,nth r y.toNat=two:=⟨_,rfl⟩
  rw[h1] at rx gx
  rw[h2] at ry gy
  rw[←BV.out.cell (p:=⟨rb,ro+x.toNat,none⟩) hrb] at gx
  rw[←BV.out.cell (p:=⟨rb,ro+y.toNat,none⟩) hrb] at gy
  have HT:Hid _:=HF.out.ht rfl
  have HO1:Hid (nth r x.toNat=one):=h1
  have HO2:Hid (nth r y.toNat=two):=h2
  clear h1 h2
  obtain⟨c0,c1,c2,c3,-,-,-,-,zI2⟩:=XI.four
  obtain⟨a0,a1,-,-,-,-,s1⟩:=A.x1.three
  have hrb1:rb<wc.heap.size:=Nat.lt_of_lt_of_le hrb BV.out.size
  go_upto_region 6 with fail
  go_quiet (fail)
  have A:=A.drewN nq
  have XN:=XN.drewN nq
  have XI:=XI.drewN nq
  have HOV:Hid (OwnI (wc.drewN nq) W.heap.size (.slice (some ⟨g,0,none⟩) 8 cg) r):=HOW.out
  have BV:Hid (Below w.heap.size w (wc.drewN nq)):=aH BV.out nq
  have lg:g<(wc.drewN nq).heap.size:=OwnI.lt HOV.out g rfl
  clear HOW gx gy c0 c1 c2 c3 a0 a1 s1 zI2 hrb1
  generalize wc.drewN nq=V at *
  obtain⟨rx0,rx1⟩:=rx
  obtain⟨ry0,ry1⟩:=ry
  have hx9:x<8:=by omega
  rcases hk with rfl|rfl|rfl|rfl
  ·obtain⟨c0,c1,c2,c3,-,-,-,-,zI2⟩:=XI.four
   have HT1:Hid (goS zs ⟨p,r,false⟩ ⟨mo,ba,l,op,oh,ot,st,fe,fp,fh,ft,lo⟩=(zs,⟨p,r,true⟩,⟨mo,ba,l,op,oh,ot,st,fe,fp,fh,ft,lo⟩)):=by
    show _=_
    rw[HT.out];rfl
   go_wp2_with fail
   refine (dY A HRB.out HF.out.hc ⟨_,_,_,rfl⟩ ⟨_,_,_,rfl⟩).mono ?_
   rintro _ w2 ⟨c3,c4,rfl,h3,h4,g3,g4,K⟩
   have R3:=K.box _ _ _ (by omega) A.x3
   have R4:=K.box _ _ _ (by omega) A.x4
   have R5:=K.box _ _ _ (by omega) A.x5
   have hb:=K.bel w (by omega) BV.out
   clear K A
   go_wp2_with (first
    | fail
    | (refine wpList_store_row rfl 24 _ _ rfl _ _ rfl rfl _ _ R3 (by rw[info1,g3.out.1]) g3.out.1.symm g3.out.2 ?_)
    | (refine wpList_store_row rfl 26 _ _ rfl _ _ rfl rfl _ _ (R4.otherRow (by omega) _) (by rw[info3,g4.out.1]) g4.out.1.symm g4.out.2 ?_)
    | (refine wpList_store_row rfl 31 _ _ rfl _ _ rfl rfl _ _ ((R5.otherRow (by omega) _).otherRow (by omega) _) (by rw[info12,HRS.out.1]) HRS.out.1.symm HRS.out.2 ?_))
   obtain rfl:=h3.out
   obtain rfl:=h4.out
   exact cY (by rfl) (by rfl) (by rfl) R3 R4 R5 hb HRB.out HT1.out (fun _ hb _ _=>⟨HF.out.hm.keep hb,HF.out.hr.keep hb⟩) (.inl rfl) (.inl rfl)
  rotate_left
  rotate_left
  ·have HSH:Hid (∀j,0≤shl one j∧shl one j≤65535):=zE ⟨rx0,rx1⟩
   obtain⟨v2,hv2⟩:∃v2,shl one i.toNat=v2:=⟨_,rfl⟩
   have HV2:Hid (shl one i.toNat=v2):=hv2
   have HP2:Hid (one*2 ^ i.toNat%65536=v2):=by show _=_;rw[←hv2,oY ⟨rx0,rx1⟩]
   clear hv2
   have HT1:Hid (goS zs ⟨p,r,false⟩ ⟨mo,ba,l,op,oh,ot,st,fe,fp,fh,ft,lo⟩=(zs,⟨nextP p,r.set x.toNat v2,false⟩,⟨mo,ba,l,op,oh,ot,st,fe,fp,fh,ft,lo⟩)):=by
    show _=_
    rw[HT.out,exeI,if_neg (by decide),if_neg (by decide),if_pos rfl,HO1.out,HP2.out]
   obtain⟨c0,c1,c2,c3,-,-,-,-,zI2⟩:=XI.four
   go_wp2_with fail
   go_loop [13,91] (fun s c=>∃j:Nat,(j:Int)≤i∧c=J j∧s=J (shl one j)) (fun _ c=>64-(intOf c).toNat)
   case atStart=>exact⟨0,by omega,rfl,rfl⟩
   case round=>
    obtain⟨j,hj,rfl,rfl⟩:=hrel
    by_cases hlt:(j:Int)<i
    ·obtain⟨s,hs⟩:∃s,shl one j=s:=⟨_,rfl⟩
     have hsb:=HSH.out j
     have HS:Hid (shl one (j+1)=s*2%65536):=by show _=_;rw[shl,hs]
     rw[hs] at hsb ⊢
     obtain⟨sb0,sb1⟩:=hsb
     clear hs
     go_wp2
     refine⟨⟨j+1,by omega,by go_num,by rw[HS.out]⟩,by simp[intOf];omega⟩
    ·have hn:j=i.toNat:=by omega
     rw[hn,HV2.out]
     clear hn hlt hj c0 c1 c2 c3 zI2
     obtain⟨m0,m1,m2,n0,n1,n2,zN⟩:=XN.three
     obtain⟨c0,c1,c2,c3,-,-,-,-,zI2⟩:=XI.four
     have q1:=OwnI.cellAt HOV.out (i:=x.toNat) (by rw[H8.out];omega)
     have q2:=OwnI.frozenAt HOV.out x.toNat
     go_upto_region 63 with fail
     have A:=A.other (n:=g) (i:=x.toNat) (by omega) (J v2)
     have XN:=XN.other (p:=⟨g,x.toNat,none⟩) (by show n≠g;omega) (J v2)
     have HOV:Hid (OwnI (V.setCell ⟨g,x.toNat,none⟩ (J v2)) W.heap.size (.slice (some ⟨g,0,none⟩) 8 cg) (r.set x.toNat v2)):=OwnI.setAt HOV.out x.toNat v2
     have BV:Hid (Below w.heap.size w (V.setCell ⟨g,x.toNat,none⟩ (J v2))):=BV.out.setCell (p:=⟨g,x.toNat,none⟩) (by show w.heap.size≤g;omega) (J v2)
     have HS8:Hid ((r.set x.toNat v2).length≤maxLen):=by show _≤_;rw[List.length_set,H8.out];decide
     clear m0 m1 m2 n0 n1 n2 zN c0 c1 c2 c3 zI2 q1 q2
     generalize (V.setCell ⟨g,x.toNat,none⟩ (J v2))=V2 at *
     have hA6:=A.lt
     refine wp_region_held_drew (S:=Src w.heap.size n (w.heap.size+1+1) _ _ _) (by kernel_rfl) ⟨A.x0.drew,XN.drew,A.x2.drew⟩ (fun hHeld=>?_)
     refine aO (i:=0) (v:=.agg _) rfl (by kernel_rfl) (by kernel_rfl) (by kernel_rfl) (fun _ _ _ h=>h) (aS (by kernel_rfl) 24 _ rfl rfl (fun _ h=>h.a.load1 rfl)) (by assumption) ?_
     simp only[nmz]
     refine aO (i:=1) (v:=.agg _) rfl (by kernel_rfl) (by kernel_rfl) (by kernel_rfl) (fun _ _ _ h=>h) (aS (by kernel_rfl) 26 _ rfl rfl (fun _ h=>h.b.load3 rfl)) (by assumption) ?_
     simp only[nmz]
     refine aO (i:=2) (v:=.agg _) rfl (by kernel_rfl) (by kernel_rfl) (by kernel_rfl) (fun _ _ _ h=>h) (aS (by kernel_rfl) 31 _ rfl rfl (fun _ h=>h.c.load12 HRS.out.1)) (by assumption) ?_
     simp only[nmz]
     refine aE (i:=3) (by kernel_rfl) (by rfl) (fun K hK=>?_)
     refine aF rfl 24 _ _ rfl _ _ rfl rfl _ _ (A.x3.drew) info1 rfl (by simp[Value.oneCell']) ?_
     refine hK.out _ _ (hHeld.put (by omega) _) (fun hHeld2=>?_)
     clear hK K hHeld
     have hHeld:=hHeld2
     clear hHeld2
     simp only[Act.put]
     refine aE (i:=4) (by kernel_rfl) (by rfl) (fun K hK=>?_)
     refine aF rfl 26 _ _ rfl _ _ rfl rfl _ _ (A.x4.drew.otherRow (by omega) _) info3 rfl (by simp[Value.oneCell']) ?_
     refine hK.out _ _ (hHeld.put (by omega) _) (fun hHeld2=>?_)
     clear hK K hHeld
     have hHeld:=hHeld2
     clear hHeld2
     simp only[Act.put]
     refine aE (i:=5) (by kernel_rfl) (by rfl) (fun K hK=>?_)
     refine aF rfl 31 _ _ rfl _ _ rfl rfl _ _ ((A.x5.drew.otherRow (by omega) _).otherRow (by omega) _) (by rw[info12,HRS.out.1]) HRS.out.1.symm HRS.out.2 ?_
     refine hK.out _ _ (hHeld.put (by omega) _) (fun hHeld2=>?_)
     clear hK K hHeld
     have hHeld:=hHeld2
     clear hHeld2
     simp only[Act.put]
     refine wpAnyH_done (by kernel_rfl) ?_ _
     go_wp2_with fail
     exact cY (by rfl) (by rfl) (by rfl) A.x3.drew A.x4.drew A.x5.drew (Below.drew BV.out) HRB.out HT1.out (fun _ hb ho _=>⟨HF.out.hm.keep hb,(ho (by omega) HOV.out.drew).sl HS8.out⟩) (.inl rfl) (.inr (bJ (by omega) _ _ _))
  focus
   have HT1:Hid (goS zs ⟨p,r,false⟩ ⟨mo,ba,l,op,oh,ot,st,fe,fp,fh,ft,lo⟩=(zs,⟨nextP p,r.set x.toNat i,false⟩,⟨mo,ba,l,op,oh,ot,st,fe,fp,fh,ft,lo⟩)):=by
    show _=_
    rw[HT.out,exeI,if_pos rfl]
   obtain⟨m0,m1,m2,n0,n1,n2,zN⟩:=XN.three
   obtain⟨c0,c1,c2,c3,-,-,-,-,zI2⟩:=XI.four
   have q1:=OwnI.cellAt HOV.out (i:=x.toNat) (by rw[H8.out];omega)
   have q2:=OwnI.frozenAt HOV.out x.toNat
   go_upto_region 63 with fail
   have A:=A.other (n:=g) (i:=x.toNat) (by omega) (J i)
   have XN:=XN.other (p:=⟨g,x.toNat,none⟩) (by show n≠g;omega) (J i)
   have HOV:Hid (OwnI (V.setCell ⟨g,x.toNat,none⟩ (J i)) W.heap.size (.slice (some ⟨g,0,none⟩) 8 cg) (r.set x.toNat i)):=OwnI.setAt HOV.out x.toNat i
   have BV:Hid (Below w.heap.size w (V.setCell ⟨g,x.toNat,none⟩ (J i))):=BV.out.setCell (p:=⟨g,x.toNat,none⟩) (by show w.heap.size≤g;omega) (J i)
   have HS8:Hid ((r.set x.toNat i).length≤maxLen):=by show _≤_;rw[List.length_set,H8.out];decide
   clear m0 m1 m2 n0 n1 n2 zN c0 c1 c2 c3 zI2 q1 q2
   generalize (V.setCell ⟨g,x.toNat,none⟩ (J i))=V2 at *
  rotate_left
  focus
   obtain⟨v2,hv2⟩:∃v2,(one+two)-65536*((one+two)/65536)=v2:=⟨_,rfl⟩
   have hv3:Int.emod (one+two) 65536=v2:=by rw[←hv2];have:=Int.emod_def (one+two) 65536;exact this
   have hv3:(one+two)%65536=v2:=hv3
   have HT1:Hid (goS zs ⟨p,r,false⟩ ⟨mo,ba,l,op,oh,ot,st,fe,fp,fh,ft,lo⟩=(zs,⟨nextP p,r.set x.toNat v2,false⟩,⟨mo,ba,l,op,oh,ot,st,fe,fp,fh,ft,lo⟩)):=by
    show _=_
    rw[HT.out,exeI,if_neg (by decide),if_pos rfl,HO1.out,HO2.out,hv3]
   obtain⟨m0,m1,m2,n0,n1,n2,zN⟩:=XN.three
   obtain⟨c0,c1,c2,c3,-,-,-,-,zI2⟩:=XI.four
   have q1:=OwnI.cellAt HOV.out (i:=x.toNat) (by rw[H8.out];omega)
   have q2:=OwnI.frozenAt HOV.out x.toNat
   go_upto_region 63 with fail
   have A:=A.other (n:=g) (i:=x.toNat) (by omega) (J v2)
   have XN:=XN.other (p:=⟨g,x.toNat,none⟩) (by show n≠g;omega) (J v2)
   have HOV:Hid (OwnI (V.setCell ⟨g,x.toNat,none⟩ (J v2)) W.heap.size (.slice (some ⟨g,0,none⟩) 8 cg) (r.set x.toNat v2)):=OwnI.setAt HOV.out x.toNat v2
   have BV:Hid (Below w.heap.size w (V.setCell ⟨g,x.toNat,none⟩ (J v2))):=BV.out.setCell (p:=⟨g,x.toNat,none⟩) (by show w.heap.size≤g;omega) (J v2)
   have HS8:Hid ((r.set x.toNat v2).length≤maxLen):=by show _≤_;rw[List.length_set,H8.out];decide
   clear m0 m1 m2 n0 n1 n2 zN c0 c1 c2 c3 zI2 q1 q2
   generalize (V.setCell ⟨g,x.toNat,none⟩ (J v2))=V2 at *
  all_goals (skip)
  all_goals
   have hA6:=A.lt
   refine wp_region_held_drew (S:=Src w.heap.size n (w.heap.size+1+1) _ _ _) (by kernel_rfl) ⟨A.x0.drew,XN.drew,A.x2.drew⟩ (fun hHeld=>?_)
   refine aO (i:=0) (v:=.agg _) rfl (by kernel_rfl) (by kernel_rfl) (by kernel_rfl) (fun _ _ _ h=>h) (aS (by kernel_rfl) 24 _ rfl rfl (fun _ h=>h.a.load1 rfl)) (by assumption) ?_
   simp only[nmz]
   refine aO (i:=1) (v:=.agg _) rfl (by kernel_rfl) (by kernel_rfl) (by kernel_rfl) (fun _ _ _ h=>h) (aS (by kernel_rfl) 26 _ rfl rfl (fun _ h=>h.b.load3 rfl)) (by assumption) ?_
   simp only[nmz]
   refine aO (i:=2) (v:=.agg _) rfl (by kernel_rfl) (by kernel_rfl) (by kernel_rfl) (fun _ _ _ h=>h) (aS (by kernel_rfl) 31 _ rfl rfl (fun _ h=>h.c.load12 HRS.out.1)) (by assumption) ?_
   simp only[nmz]
   refine aE (i:=3) (by kernel_rfl) (by rfl) (fun K hK=>?_)
   refine aF rfl 24 _ _ rfl _ _ rfl rfl _ _ (A.x3.drew) info1 rfl (by simp[Value.oneCell']) ?_
   refine hK.out _ _ (hHeld.put (by omega) _) (fun hHeld2=>?_)
   clear hK K hHeld
   have hHeld:=hHeld2
   clear hHeld2
   simp only[Act.put]
   refine aE (i:=4) (by kernel_rfl) (by rfl) (fun K hK=>?_)
   refine aF rfl 26 _ _ rfl _ _ rfl rfl _ _ (A.x4.drew.otherRow (by omega) _) info3 rfl (by simp[Value.oneCell']) ?_
   refine hK.out _ _ (hHeld.put (by omega) _) (fun hHeld2=>?_)
   clear hK K hHeld
   have hHeld:=hHeld2
   clear hHeld2
   simp only[Act.put]
   refine aE (i:=5) (by kernel_rfl) (by rfl) (fun K hK=>?_)
   refine aF rfl 31 _ _ rfl _ _ rfl rfl _ _ ((A.x5.drew.otherRow (by omega) _).otherRow (by omega) _) (by rw[info12,HRS.out.1]) HRS.out.1.symm HRS.out.2 ?_
   refine hK.out _ _ (hHeld.put (by omega) _) (fun hHeld2=>?_)
   clear hK K hHeld
   have hHeld:=hHeld2
   clear hHeld2
   simp only[Act.put]
   refine wpAnyH_done (by kernel_rfl) ?_ _
   go_wp2_with fail
   exact cY (by rfl) (by rfl) (by rfl) A.x3.drew A.x4.drew A.x5.drew (Below.drew BV.out) HRB.out HT1.out (fun _ hb ho _=>⟨HF.out.hm.keep hb,(ho (by omega) HOV.out.drew).sl HS8.out⟩) (.inl rfl) (.inr (bJ (by omega) _ _ _))
end Go.Proofs.YthlhocneggcekaaGreat
namespace Go.Proofs.YthlhocneggcekaaGreat
open Go Go.RowKit
section
variable {P:Program} {ops:Array Oper} {Q:Exit→Act→World→Prop} {md:Region.Mode} {S:World→Prop} {z:Nat}
def wpLate (P:Program)(md:Region.Mode)(ops:Array Oper)(Q:Exit→Act→World→Prop)(S:World→Prop)(z:Nat):Nat→Array Bool→Act→World→Prop
 | 0,listed,a,w=>Region.ready md ops listed=[]∧Q .normal a w
 | n+1,listed,a,w=>(Region.ready md ops listed=[]→Q .normal a w)∧
   ∀i∈Region.ready md ops listed,wpOp P ops Q i (fun a' w'=>(i<z→S w')∧wpLate P md ops Q S z n (listed.setIfInBounds i true) a' w') a w
theorem iF:∀(n:Nat) (listed:Array Bool)(a:Act)(w:World),wpLate P md ops Q S z n listed a w→wpAny P md ops Q n listed a w
 | 0,_,_,_,h=>h
 | n+1,_,_,_,h=>⟨h.1,fun i hi=>wpOp_mono (fun a' w' h'=>iF n _ a' w' h'.2) (h.2 i hi)⟩
def waitsT (md:Region.Mode)(ops:Array Oper):Nat→Nat→Nat→Bool
 | 0,_,_=>false
 | n+1,z,i=>match ops[z]? with
  | some o=>o.after.any (fun e=>Region.binds md e&&(e.on==i || waitsT md ops n e.on i))
  | none=>false
def ShutL (md:Region.Mode)(ops:Array Oper)(listed:Array Bool):Prop:=∀(j:Nat) (o:Oper),ops[j]?=some o→listed.getD j false=true→∀e∈o.after,Region.binds md e=true→listed.getD e.on false=true
def shutB (md:Region.Mode)(ops:Array Oper)(listed:Array Bool):Bool:=(List.range ops.size).all fun j=>match ops[j]? with
 | some o=>!(listed.getD j false) || o.after.all (fun e=>!(Region.binds md e) || listed.getD e.on false)
 | none=>true
theorem uB {listed:Array Bool}(h:shutB md ops listed=true):ShutL md ops listed:=by
 intro j o ho hj e he hb
 unfold shutB at h
 rw[List.all_eq_true] at h
 have hlt:j<ops.size:=by
  rcases Nat.lt_or_ge j ops.size with k|k
  ·exact k
  ·rw[Array.getElem?_eq_none k] at ho;cases ho
 have:=h j (List.mem_range.2 hlt)
 rw[ho] at this
 simp only[hj,Bool.not_true,Bool.false_or,Array.all_eq_true] at this
 obtain⟨k,hk,rfl⟩:=Array.mem_iff_getElem.1 he
 have h2:=this k hk
 rw[hb] at h2
 simpa using h2
theorem oH {listed:Array Bool}{i:Nat}(h1:listed.getD i false=true)(h2:listed.getD i true=false):False:=by
 rcases Nat.lt_or_ge i listed.size with h'|h'
 ·simp[h'] at h1 h2;rw[h1] at h2;cases h2
 ·simp[Array.getElem?_eq_none h'] at h1
theorem ShutL.set {listed:Array Bool}(h:ShutL md ops listed){j:Nat}(hj:j∈Region.ready md ops listed):ShutL md ops (listed.setIfInBounds j true):=by
 obtain⟨_,oj,hoj,hall⟩:=mem_ready.1 hj
 have mono:∀k,listed.getD k false=true→(listed.setIfInBounds j true).getD k false=true:=by
  intro k hk
  by_cases e:j=k
  ·subst e
   rcases Nat.lt_or_ge j listed.size with h'|h'
   ·simp[h']
   ·simp[Array.getElem?_eq_none h'] at hk
  ·rw[getD_set_ne false e];exact hk
 intro k o ho hk e he hb
 by_cases hjk:j=k
 ·subst hjk
  rw[hoj] at ho
  cases ho
  exact mono _ (hall e he hb)
 ·rw[getD_set_ne false hjk] at hk
  exact mono _ (h k o ho hk e he hb)
theorem kO {listed:Array Bool}(hc:ShutL md ops listed){i:Nat}:∀(n z:Nat) (o:Oper),ops[z]?=some o→(∀e∈o.after,Region.binds md e=true→listed.getD e.on false=true)→waitsT md ops n z i=true→listed.getD i false=true
 | 0,_,_,_,_,h=>by simp[waitsT] at h
 | n+1,z,o,ho,hall,h=>by
  rw[waitsT,ho] at h
  simp only[Array.any_eq_true] at h
  obtain⟨j,hj,he⟩:=h
  rw[Bool.and_eq_true] at he
  have h1:=hall _ (Array.getElem_mem hj) he.1
  rcases Bool.or_eq_true _ _ ▸ he.2 with h2|h2
  ·rw[beq_iff_eq] at h2
   rw[←h2];exact h1
  ·cases ho2:ops[o.after[j].on]? with
   | none=>
    cases n with
    | zero=>simp[waitsT] at h2
    | succ n=>rw[waitsT,ho2] at h2;cases h2
   | some o2=>exact kO hc n _ o2 ho2 (hc _ o2 ho2 h1) h2
def lateB (md:Region.Mode)(ops:Array Oper)(z i:Nat):Bool:=(List.range ops.size).all fun j=>decide (j<z) || waitsT md ops 5 j i
theorem pT {i:Nat}{oi:Oper}{v:Value}(hi:ops[i]?=some oi)(hsel:∀(j:Nat) (o:Oper) cs b,ops[j]?=some o→o.op≠.select cs b)(hwt:lateB md ops z i=true)
  (hQ:∀c a w,Q (.panic c) (a.put oi.dst v) w→Q (.panic c) a w):
  ∀(n:Nat) (listed:Array Bool) (a:Act) (w:World),ShutL md ops listed→
   (∀j oj,ops[j]?=some oj→j≠i→listed.getD j true=false→(∀e∈oj.after,Region.binds md e=true→e.on≠i)→oi.apart ops oj=true)→
   i∈Region.ready md ops listed→YieldsIf P ops S oi v a→S w→
   wpLate P md ops Q S z n (listed.setIfInBounds i true) (a.put oi.dst v) w→wpLate P md ops Q S z (n+1) listed a w:=by
 intro n
 induction n with
 | zero=>
  intro listed a w _ _ hr hy hS H
  refine⟨fun h=>(by rw[h] at hr;cases hr),fun j hj=>?_⟩
  by_cases e:j=i
  ·subst e;exact hy.wpOp hi hS ⟨fun _=>hS,H⟩
  ·have:=ready_mono hj e
   rw[H.1] at this
   cases this
 | succ n ih=>
  intro listed a w hcl hfree hr hy hS H
  refine⟨fun h=>(by rw[h] at hr;cases hr),fun j hj=>?_⟩
  by_cases e:j=i
  ·subst e;exact hy.wpOp hi hS ⟨fun _=>hS,H⟩
  ·have hun:listed.getD i true=false:=(mem_ready.1 hr).1
   obtain⟨hjun,oj,hoj,hall⟩:=mem_ready.1 hj
   have hjz:j<z:=by
    rcases Nat.lt_or_ge j z with k|k
    ·exact k
    ·exfalso
     have hlt:j<ops.size:=by
      rcases Nat.lt_or_ge j ops.size with k|k
      ·exact k
      ·rw[Array.getElem?_eq_none k] at hoj;cases hoj
     unfold lateB at hwt
     rw[List.all_eq_true] at hwt
     have h1:=hwt j (List.mem_range.2 hlt)
     rw[decide_eq_false (by omega),Bool.false_or] at h1
     exact oH (kO hcl _ j oj hoj hall h1) hun
   have hnot:∀e∈oj.after,Region.binds md e=true→e.on≠i:=fun e he hb heq=>by
    have h1:=hall e he hb
    rw[heq] at h1
    exact oH h1 hun
   have h2:=wpOp_putIf hoj (hfree j oj hoj e hjun hnot) (fun cs b=>hsel i oi cs b hi) (fun cs b=>hsel j oj cs b hoj) hQ hy (H.2 j (ready_mono hj e))
   refine wpOp_mono (fun a' w' h3=>⟨fun _=>h3.2.1 hjz,ih (listed.setIfInBounds j true) a' w' (hcl.set hj) (fun q oq hq hqi hqu hno=>?_) (ready_mono hr (Ne.symm e)) h3.1 (h3.2.1 hjz) ?_⟩) h2
   ·refine hfree q oq hq hqi ?_ hno
    by_cases hjq:j=q
    ·subst hjq;exact hjun
    ·rw[getD_set_ne true hjq] at hqu;exact hqu
   ·rw[Array.setIfInBounds_comm _ _ e]
    exact h3.2.2
theorem pU {i:Nat}{oi:Oper}{v:Value}{n:Nat}{listed:Array Bool}{a:Act}{w:World}(hi:opL ops.toList i=some oi)
  (hs:Region.noSelect ops=true) (hf:Region.free md ops listed i=true) (hr:(Region.ready md ops listed).contains i=true) (hwt:lateB md ops z i=true) (hcl:shutB md ops listed=true)
  (hQ:∀c a w,Q (.panic c) (a.put oi.dst v) w→Q (.panic c) a w) (hy:YieldsIf P ops S oi v a) (hS:S w)
  (h:wpLate P md ops Q S z n (listed.setIfInBounds i true) (a.put oi.dst v) w):wpLate P md ops Q S z (n+1) listed a w:=
 pT (bY hi) (Region.noSelect_spec hs) hwt hQ n listed a w (uB hcl) (Region.free_spec (bY hi) hf) (by simpa using hr) hy hS h
theorem bP {i:Nat}{o:Oper}{n:Nat}{listed:Array Bool}{a:Act}{w:World}(hr:Region.ready md ops listed=[i])(ho:opL ops.toList i=some o)
  (h:∀K':Act→World→Prop,Shut (∀a w,(i<z→S w)→wpLate P md ops Q S z n (listed.setIfInBounds i true) a w→K' a w)→if Region.wanted o (yielded ops a.tmps)=true then Oper.wp P o a w K' Q else K' (a.put o.dst undef) w):
  wpLate P md ops Q S z (n+1) listed a w:=by
 refine⟨fun h0=>absurd (hr ▸ h0) (by simp),fun j hj=>?_⟩
 rw[hr,List.mem_singleton] at hj
 subst hj
 exact wpOp_step (bY ho) (fun K' hK=>h K' (fun a w h1 h2=>hK a w ⟨h1,h2⟩))
theorem cZ {listed:Array Bool}{a:Act}{w:World}(hr:Region.ready md ops listed=[])(h:Q .normal a w):∀n,wpLate P md ops Q S z n listed a w
 | 0=>⟨hr,h⟩
 | _+1=>⟨fun _=>h,fun i hi=>by rw[hr] at hi;cases hi⟩
theorem cA {id:Nat}{a:Act}{w:World}(hm:P.follows .mixedOrders=true)(z:Nat)(S:World→Prop)(hS:S w.drew)
  (h:S w.drew→wpLate P .any ops Q S z ops.size (Array.replicate ops.size false) a w.drew):(Code.region id ops true).wp P Q a w:=
 wp_region_any hm (iF _ _ _ _ (h hS))
theorem tkL (i:Nat){oi:Oper}{v:Value}{n:Nat}{listed:Array Bool}{a b:Act}{w:World}(hi:opL ops.toList i=some oi)(h:wpLate P md ops Q S z n (listed.setIfInBounds i true) b w)
  (hy:∀w,S w→(execOp a.eval oi).run P w=.ok (.value v) w:=by intro wz hSz;(try dsimp only at hSz);(try have hcl:=Cl.out (by assumption) _ hSz);go_simp;(try with_reducible rfl)) (hk:(goB md ops listed i&&lateB md ops z i&&shutB md ops listed&&Region.wanted oi (yielded ops a.tmps))=true:=by kernel_rfl) (hQ:∀c a w,Q (.panic c) (a.put oi.dst v) w→Q (.panic c) a w:=by exact fun _ _ _ h=>h) (hS:S w:=by assumption) (hb:a.put oi.dst v=b:=by simp only[nmz];rfl):wpLate P md ops Q S z (n+1) listed a w:=by
 subst hb
 simp only[goB,Bool.and_eq_true] at hk
 exact pU hi hk.1.1.1.1.1 hk.1.1.1.1.2 hk.1.1.1.2 hk.1.1.2 hk.1.2 hQ (.inl ⟨hk.2,hy⟩) hS h
end
end Go.Proofs.YthlhocneggcekaaGreat
