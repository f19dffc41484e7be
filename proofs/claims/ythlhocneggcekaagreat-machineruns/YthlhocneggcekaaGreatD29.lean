/-
  Laid together: SteppedY, SteppedZ.
-/
import Derived.Test.YthlhocneggcekaaGreatD28
namespace Go.Proofs.YthlhocneggcekaaGreat
open Go.RowKit
set_option maxRecDepth 10000 in
set_option maxHeartbeats 8000000 in
theorem xN (v:Value)(zs:List Int)(p:Int)(u:Value)(r:List Int)(mo ba op oh ot fe fp fh ft:Int)(st lo:Bool)(vc:Value)(l:List Ln)(w:World)(k x y i:Int)(hP:StP v zs p u r mo ba op oh ot fe fp fh ft st lo vc l w 0 k x y i)(hk:k=4∨k=6):StC v zs p u r mo ba op oh ot fe fp fh ft st lo vc l w:=by
 obtain⟨b,o,cap,rb,ro,rc,rfl,rfl,hbb,hrb,hp0,hp1,hF⟩:=fT hP
 have HF:Hid _:=hF
 obtain⟨R,hR⟩:∃R:Array Value,R=(rB mo ba vc op oh ot st fe fp fh ft lo):=⟨_,rfl⟩
 have HRB:Hid (R=(rB mo ba vc op oh ot st fe fp fh ft lo)):=hR
 have HRS:Hid (R.size=12∧R.all (·.oneCell')=true):=hR ▸ eX hF.hc
 unfold StC
 rw[←hR]
 have gz:=hF.cs p.toNat (by omega)
 obtain⟨z,hz⟩:∃z,nth zs p.toNat=z:=⟨_,rfl⟩
 have HE:Hid (riE z=0):=by have:=hF.hE;rw[hz] at this;exact this
 have HX:Hid (riX z=(k,x,y,i)):=by have:=hF.hX;rw[hz] at this;exact this
 rw[hz] at gz
 clear hP hF hR hz
 go_enter Tryz.func49,Tryz.ntmps49
 go_upto_region 1 with fail
 (try simp only[Value.cells])
 rw[fS]
 obtain⟨A,bw⟩:=gX w (.slice (some ⟨b,o,none⟩) 512 cap) (.slice (some ⟨rb,ro,none⟩) 8 rc) p R
 generalize sixW w (.slice (some ⟨b,o,none⟩) 512 cap) (.slice (some ⟨rb,ro,none⟩) 8 rc) p R=W0 at *
 have gz:=(bw.cell (p:=⟨b,o+p.toNat,none⟩) hbb).trans gz
 have t1:b<W0.heap.size:=Nat.lt_of_lt_of_le hbb bw.size
 have BV:Hid (Below w.heap.size w W0):=bw
 obtain⟨m0,-,s0⟩:=A.x0.one
 obtain⟨h0,h1,h2,-,-,-,s1⟩:=A.x1.three
 clear bw
 go_wp2_with fail
 refine (fQ HE.out HX.out).mono ?_
 rintro _ w1 ⟨rfl,b1⟩
 have hI6:=(A.keep b1).lt
 have A:=(A.keep b1).past (.cells #[J k,J x,J y,J i] 130)
 have XI:=Box.newAt (w:=w1) (n:=w1.heap.size) rfl 130 #[J k,J x,J y,J i]
 have BV:Hid (Below w.heap.size w (w1.alloc (.cells #[J k,J x,J y,J i] 130))):=aA (aB BV.out b1) _
 clear b1 gz t1 m0 s0 h0 h1 h2 s1
 go_upto_region 5 with fail
 generalize w1.heap.size=I at *
 generalize (w1.alloc (.cells #[J k,J x,J y,J i] 130))=W at *
 have HRW:Hid (Sl W (.slice (some ⟨rb,ro,none⟩) 8 rc) r):=HF.out.hr.keep BV.out
 have HPN:Hid ((IntKind.i64.wrap (p+1)).tmod 512=nextP p):=fR hp0 hp1
 have H8:Hid (r.length=8):=HF.out.r8
 have HNE:Hid (r≠[]):=fun e=>by have:=H8.out;rw[e] at this;simp at this
 have HOL:Hid (OwnI (W.alloc (.cells #[] 3)) W.heap.size (.slice (some ⟨W.heap.size,0,none⟩) 0 0) []):=eC rfl (Nat.le_refl _)
 have HOL2:Hid (∀ob:Obj,OwnI ((W.alloc ob).alloc (.cells #[] 3)) W.heap.size (.slice (some ⟨W.heap.size+1,0,none⟩) 0 0) []):=fun ob=>eC (by simp) (by simp)
 obtain⟨a0,a1,-,-,-,-,s1⟩:=A.x1.three
 have zI:=XI.lt
 have hA:=A.lt
 go_cut [12] from 37 to 45 (fun s wx=>StN p r W s wx)
 case first=>
  go_region_held3 (fun w'=>w'.cell? ⟨w.heap.size+1,0,none⟩=some (J p)∧w'.cell? ⟨w.heap.size+1,1,none⟩=some (.slice (some ⟨rb,ro,none⟩) 8 rc)∧Below W.heap.size W w')
   (with_reducible refine keep2H (by assumption) (by assumption) (by assumption) ?_;(repeat (first|with_reducible assumption|(with_reducible (refine limb2H (?_:_∧_∧_);assumption))|with_reducible exact Below.refl _ _|with_reducible refine Below.drew ?_|with_reducible refine aH ?_ _|with_reducible refine aA ?_ _|with_reducible refine Below.trans ?_ (by assumption)|(with_reducible refine bO ?_ ?_ _ _ _;(focus omega)))))
   (first|(refine dB rfl (.tmp 41) (.tmp 43) rfl W.heap.size (.slice (some ⟨_,0,none⟩) 0 0) (.slice (some ⟨rb,ro,none⟩) 8 rc) [] r rfl rfl ?_ ?_ ?_ ?_ ?_ ?_;(focus ((repeat (first|with_reducible refine OwnI.drew ?_|with_reducible exact HOL.out|with_reducible exact HOL2.out _|with_reducible refine OwnI.alloc ?_ _));done));(focus (refine HRW.out.keep ?_;(repeat (first|with_reducible exact Below.refl _ _|with_reducible refine Below.drew ?_|with_reducible refine aA ?_ _));done));(focus (rw[H8.out];simp;done));(focus (first|(simp;done)|(simp;omega)));(focus (exact HNE.out));intro g cg w7 hown hgr hbel hat;first|(have XN:=ord2 hgr;obtain⟨i0,i1,i2,j0,j1,j2,l9⟩:=XN.three)|(have XN:=ord3 hgr;obtain⟨i0,i1,i2,j0,j1,j2,l9⟩:=XN.three)|skip))
  all_goals (rename_i hH;have HBE:=limb2H hH;clear hH)
  all_goals (go_wp2_with fail;go_meet)
  ·refine⟨_,g,cg,rfl,by rw[←HPN.out];exact Box.newAt rfl _ _,hown.alloc _,by have:=hbel.size;simp at this;omega,HBE⟩
  ·refine⟨_,g,cg,rfl,by rw[←HPN.out];exact XN.set3 _ _ _,hown.far3 (dQ hown XN) _ _ _,by omega,HBE⟩
  ·refine⟨_,g,cg,rfl,by rw[←HPN.out];exact XN.set3 _ _ _,hown.far3 (dQ hown XN) _ _ _,by omega,HBE⟩
 case rest=>
  obtain⟨n,g,cg,rfl,XN,HO,hn,BC⟩:=hcut
  rw[H8.out] at XN HO
  have A:=A.keep BC
  have XI:=XI.keep BC
  have BV:Hid (Below w.heap.size w wc):=aB BV.out BC
  have hgn:=dQ HO XN
  have hgW:=HO.base g rfl
  have HOW:Hid _:=HO
  clear BC HRW HOL HOL2 HNE HPN HO a0 a1 s1
  obtain⟨-,⟨i2a,i2b⟩,⟨i3a,i3b⟩,⟨i4a,i4b⟩⟩:=HF.out.hi rfl
  have rx:=HF.out.rw x.toNat (by omega)
  have ry:=HF.out.rw y.toNat (by omega)
  have gx:=HF.out.rs x.toNat (by omega)
  have gy:=HF.out.rs y.toNat (by omega)
  obtain⟨one,h1⟩:∃one,nth r x.toNat=one:=⟨_,rfl⟩
  obtain⟨two,h2⟩:∃two,nth r y.toNat=two:=⟨_,rfl⟩
  rw[h1] at rx gx
  rw[h2] at ry gy
  rw[←BV.out.cell (p:=⟨rb,ro+x.toNat,none⟩) hrb] at gx
  rw[←BV.out.cell (p:=⟨rb,ro+y.toNat,none⟩) hrb] at gy
  have HT:Hid _:=HF.out.ht rfl
  have HO1:Hid (nth r x.toNat=one):=h1
  have HO2:Hid (nth r y.toNat=two):=h2
  clear h1 h2
  obtain⟨c0,c1,c2,c3,-,-,-,-,zI2⟩:=XI.four
  obtain⟨a0,a1,-,-,-,-,s1⟩:=A.x1.three
  have hrb1:rb<wc.heap.size:=Nat.lt_of_lt_of_le hrb BV.out.size
  go_upto_region 6 with fail
  go_quiet (fail)
  have A:=A.drewN nq
  have XN:=XN.drewN nq
  have XI:=XI.drewN nq
  have HOV:Hid (OwnI (wc.drewN nq) W.heap.size (.slice (some ⟨g,0,none⟩) 8 cg) r):=HOW.out
  have BV:Hid (Below w.heap.size w (wc.drewN nq)):=aH BV.out nq
  have lg:g<(wc.drewN nq).heap.size:=OwnI.lt HOV.out g rfl
  clear HOW gx gy c0 c1 c2 c3 a0 a1 s1 zI2 hrb1
  generalize wc.drewN nq=V at *
  obtain⟨rx0,rx1⟩:=rx
  obtain⟨ry0,ry1⟩:=ry
  have hx9:x<8:=by omega
  rcases hk with rfl|rfl
  focus
   have hwr:IntKind.i64.wrap (two+i)=two+i:=cF _ (by omega) (by omega)
   have hbV:b<V.heap.size:=Nat.lt_of_lt_of_le hbb BV.out.size
   obtain⟨c0,c1,c2,c3,-,-,-,-,zI2⟩:=XI.four
   by_cases hq:two+i≤511
   rotate_left
   ·have hq1:511<two+i:=by omega
    have HT1:Hid (goS zs ⟨p,r,false⟩ ⟨mo,ba,l,op,oh,ot,st,fe,fp,fh,ft,lo⟩=(zs,⟨p,r,true⟩,⟨mo,ba,l,op,oh,ot,st,fe,fp,fh,ft,lo⟩)):=by
     show _=_
     rw[HT.out,exeI,if_neg (by decide),if_neg (by decide),if_neg (by decide),if_pos rfl,if_neg (by rw[HO2.out];exact hq)];rfl
    go_wp2_with fail
    refine (dY A HRB.out HF.out.hc ⟨_,_,_,rfl⟩ ⟨_,_,_,rfl⟩).mono ?_
    rintro _ w2 ⟨c3,c4,rfl,h3,h4,g3,g4,K⟩
    have R3:=K.box _ _ _ (by omega) A.x3
    have R4:=K.box _ _ _ (by omega) A.x4
    have R5:=K.box _ _ _ (by omega) A.x5
    have hb:=K.bel w (by omega) BV.out
    clear K A
    go_wp2_with (first
     | fail
     | (refine wpList_store_row rfl 24 _ _ rfl _ _ rfl rfl _ _ R3 (by rw[info1,g3.out.1]) g3.out.1.symm g3.out.2 ?_)
     | (refine wpList_store_row rfl 26 _ _ rfl _ _ rfl rfl _ _ (R4.otherRow (by omega) _) (by rw[info3,g4.out.1]) g4.out.1.symm g4.out.2 ?_)
     | (refine wpList_store_row rfl 31 _ _ rfl _ _ rfl rfl _ _ ((R5.otherRow (by omega) _).otherRow (by omega) _) (by rw[info12,HRS.out.1]) HRS.out.1.symm HRS.out.2 ?_))
    obtain rfl:=h3.out
    obtain rfl:=h4.out
    exact cY (by rfl) (by rfl) (by rfl) R3 R4 R5 hb HRB.out HT1.out (fun _ hb _ _=>⟨HF.out.hm.keep hb,HF.out.hr.keep hb⟩) (.inl rfl) (.inl rfl)
   have hq1:¬511<two+i:=by omega
   have hq2:0≤two+i:=by omega
   have hq3:two+i<512:=by omega
   obtain⟨v2,hv2⟩:∃v2,nth zs (two+i).toNat=v2:=⟨_,rfl⟩
   have HGZ:Hid (∀wz,Below V.heap.size V wz→wz.cell? ⟨b,o+(two+i).toNat,none⟩=some (J v2)):=fun wz hz=>by
    rw[hz.cell (p:=⟨b,o+(two+i).toNat,none⟩) hbV,BV.out.cell (p:=⟨b,o+(two+i).toNat,none⟩) hbb,HF.out.cs _ (by omega),hv2]
   have HT1:Hid (goS zs ⟨p,r,false⟩ ⟨mo,ba,l,op,oh,ot,st,fe,fp,fh,ft,lo⟩=(zs,⟨nextP p,r.set x.toNat v2,false⟩,⟨mo,ba,l,op,oh,ot,st,fe,fp,fh,ft,lo⟩)):=by
    show _=_
    rw[HT.out,exeI,if_neg (by decide),if_neg (by decide),if_neg (by decide),if_pos rfl,if_pos (by rw[HO2.out];exact hq),HO2.out,hv2]
   clear hv2 hq
   go_upto_region 23 with fail
   refine cA (by kernel_rfl) 13 (fun w'=>Below V.heap.size V w') (Below.drew (Below.refl _ _)) (fun hHeld=>?_)
   have CF:Cl (fun w'=>Below V.heap.size V w') _:=⟨fun wz hSz=>And.intro ((A.x0.keep hSz).one) (And.intro ((XN.keep hSz).three) (And.intro ((XI.keep hSz).four) (HGZ.out _ hSz)))⟩
   refine tkL 0 rfl ?_
   refine tkL 1 rfl ?_
   refine tkL 2 rfl ?_
   refine tkL 3 rfl ?_
   refine tkL 4 rfl ?_
   refine tkL 5 rfl ?_
   refine tkL 6 rfl ?_
   refine tkL 7 rfl ?_
   refine tkL 8 rfl ?_
   refine tkL 9 rfl ?_
   refine tkL 10 rfl ?_
   refine tkL 11 rfl ?_
   refine tkL 12 rfl ?_
   have q1:=OwnI.cellAt HOV.out (i:=x.toNat) (by rw[H8.out];omega)
   have q2:=OwnI.frozenAt HOV.out x.toNat
   refine bP (i:=13) (by kernel_rfl) (by rfl) (fun K hK=>?_)
   go_simp
   refine hK.out _ _ (fun h=>absurd h (by decide)) ?_
   clear hK K
   refine cZ (by kernel_rfl) ?_ _
   clear hHeld q1 q2
   clear c0 c1 c2 c3 zI2 HGZ
   have A:=A.other (n:=g) (i:=x.toNat) (by omega) (J v2)
   have XN:=XN.other (p:=⟨g,x.toNat,none⟩) (by show n≠g;omega) (J v2)
   have HOV:Hid (OwnI (V.setCell ⟨g,x.toNat,none⟩ (J v2)) W.heap.size (.slice (some ⟨g,0,none⟩) 8 cg) (r.set x.toNat v2)):=OwnI.setAt HOV.out x.toNat v2
   have BV:Hid (Below w.heap.size w (V.setCell ⟨g,x.toNat,none⟩ (J v2))):=BV.out.setCell (p:=⟨g,x.toNat,none⟩) (by show w.heap.size≤g;omega) (J v2)
   have HS8:Hid ((r.set x.toNat v2).length≤maxLen):=by show _≤_;rw[List.length_set,H8.out];decide
   have A:=A.drew
   have XN:=XN.drew
   have HOV:Hid (OwnI (V.setCell ⟨g,x.toNat,none⟩ (J v2)).drew W.heap.size (.slice (some ⟨g,0,none⟩) 8 cg) (r.set x.toNat v2)):=HOV.out
   have BV:Hid (Below w.heap.size w (V.setCell ⟨g,x.toNat,none⟩ (J v2)).drew):=Below.drew BV.out
   generalize (V.setCell ⟨g,x.toNat,none⟩ (J v2)).drew=V2 at *
   go_upto_region 63 with fail
  rotate_left
  focus
   obtain⟨c0,c1,c2,c3,-,-,-,-,zI2⟩:=XI.four
   obtain⟨m0,m1,m2,n0,n1,n2,zN⟩:=XN.three
   have HS8:Hid (r.length≤maxLen):=by show _≤_;rw[H8.out];decide
   by_cases hq:one=two
   ·have hq1:(one==two)=true:=by simpa using hq
    have HT1:Hid (goS zs ⟨p,r,false⟩ ⟨mo,ba,l,op,oh,ot,st,fe,fp,fh,ft,lo⟩=(zs,⟨i,r,false⟩,⟨mo,ba,l,op,oh,ot,st,fe,fp,fh,ft,lo⟩)):=by
     show _=_
     rw[HT.out,exeI,if_neg (by decide),if_neg (by decide),if_neg (by decide),if_neg (by decide),if_neg (by decide),if_pos rfl,HO1.out,HO2.out,if_pos hq]
    clear hq
    go_upto_region 63 with fail
    have A:=A.other (n:=n) (i:=0) (by omega) (J i)
    have XN:Box (V.setCell ⟨n,0,none⟩ (J i)) n 26 #[J i,.slice (some ⟨g,0,none⟩) 8 cg,.bool false]:=Box.set XN 0 (J i)
    have HOV:Hid (OwnI (V.setCell ⟨n,0,none⟩ (J i)) W.heap.size (.slice (some ⟨g,0,none⟩) 8 cg) r):=OwnI.far1 HOV.out hgn _
    have BV:Hid (Below w.heap.size w (V.setCell ⟨n,0,none⟩ (J i))):=BV.out.setCell (p:=⟨n,0,none⟩) (by show w.heap.size≤n;omega) (J i)
    clear m0 m1 m2 n0 n1 n2 zN c0 c1 c2 c3 zI2
    generalize (V.setCell ⟨n,0,none⟩ (J i))=V2 at *
    have hA6:=A.lt
    refine wp_region_held_drew (S:=Src w.heap.size n (w.heap.size+1+1) _ _ _) (by kernel_rfl) ⟨A.x0.drew,XN.drew,A.x2.drew⟩ (fun hHeld=>?_)
    refine aO (i:=0) (v:=.agg _) rfl (by kernel_rfl) (by kernel_rfl) (by kernel_rfl) (fun _ _ _ h=>h) (aS (by kernel_rfl) 24 _ rfl rfl (fun _ h=>h.a.load1 rfl)) (by assumption) ?_
    simp only[nmz]
    refine aO (i:=1) (v:=.agg _) rfl (by kernel_rfl) (by kernel_rfl) (by kernel_rfl) (fun _ _ _ h=>h) (aS (by kernel_rfl) 26 _ rfl rfl (fun _ h=>h.b.load3 rfl)) (by assumption) ?_
    simp only[nmz]
    refine aO (i:=2) (v:=.agg _) rfl (by kernel_rfl) (by kernel_rfl) (by kernel_rfl) (fun _ _ _ h=>h) (aS (by kernel_rfl) 31 _ rfl rfl (fun _ h=>h.c.load12 HRS.out.1)) (by assumption) ?_
    simp only[nmz]
    refine aE (i:=3) (by kernel_rfl) (by rfl) (fun K hK=>?_)
    refine aF rfl 24 _ _ rfl _ _ rfl rfl _ _ (A.x3.drew) info1 rfl (by simp[Value.oneCell']) ?_
    refine hK.out _ _ (hHeld.put (by omega) _) (fun hHeld2=>?_)
    clear hK K hHeld
    have hHeld:=hHeld2
    clear hHeld2
    simp only[Act.put]
    refine aE (i:=4) (by kernel_rfl) (by rfl) (fun K hK=>?_)
    refine aF rfl 26 _ _ rfl _ _ rfl rfl _ _ (A.x4.drew.otherRow (by omega) _) info3 rfl (by simp[Value.oneCell']) ?_
    refine hK.out _ _ (hHeld.put (by omega) _) (fun hHeld2=>?_)
    clear hK K hHeld
    have hHeld:=hHeld2
    clear hHeld2
    simp only[Act.put]
    refine aE (i:=5) (by kernel_rfl) (by rfl) (fun K hK=>?_)
    refine aF rfl 31 _ _ rfl _ _ rfl rfl _ _ ((A.x5.drew.otherRow (by omega) _).otherRow (by omega) _) (by rw[info12,HRS.out.1]) HRS.out.1.symm HRS.out.2 ?_
    refine hK.out _ _ (hHeld.put (by omega) _) (fun hHeld2=>?_)
    clear hK K hHeld
    have hHeld:=hHeld2
    clear hHeld2
    simp only[Act.put]
    refine wpAnyH_done (by kernel_rfl) ?_ _
    go_wp2_with fail
    exact cY (by rfl) (by rfl) (by rfl) A.x3.drew A.x4.drew A.x5.drew (Below.drew BV.out) HRB.out HT1.out (fun _ hb ho _=>⟨HF.out.hm.keep hb,(ho (by omega) HOV.out.drew).sl HS8.out⟩) (.inl rfl) (.inr (bJ (by omega) _ _ _))
   have hq1:(one==two)=false:=by simpa using hq
   have HT1:Hid (goS zs ⟨p,r,false⟩ ⟨mo,ba,l,op,oh,ot,st,fe,fp,fh,ft,lo⟩=(zs,⟨nextP p,r,false⟩,⟨mo,ba,l,op,oh,ot,st,fe,fp,fh,ft,lo⟩)):=by
    show _=_
    rw[HT.out,exeI,if_neg (by decide),if_neg (by decide),if_neg (by decide),if_neg (by decide),if_neg (by decide),if_pos rfl,HO1.out,HO2.out,if_neg hq]
   clear hq
   go_upto_region 63 with fail
   clear m0 m1 m2 n0 n1 n2 zN c0 c1 c2 c3 zI2
  all_goals
   have hA6:=A.lt
   refine wp_region_held_drew (S:=Src w.heap.size n (w.heap.size+1+1) _ _ _) (by kernel_rfl) ⟨A.x0.drew,XN.drew,A.x2.drew⟩ (fun hHeld=>?_)
   refine aO (i:=0) (v:=.agg _) rfl (by kernel_rfl) (by kernel_rfl) (by kernel_rfl) (fun _ _ _ h=>h) (aS (by kernel_rfl) 24 _ rfl rfl (fun _ h=>h.a.load1 rfl)) (by assumption) ?_
   simp only[nmz]
   refine aO (i:=1) (v:=.agg _) rfl (by kernel_rfl) (by kernel_rfl) (by kernel_rfl) (fun _ _ _ h=>h) (aS (by kernel_rfl) 26 _ rfl rfl (fun _ h=>h.b.load3 rfl)) (by assumption) ?_
   simp only[nmz]
   refine aO (i:=2) (v:=.agg _) rfl (by kernel_rfl) (by kernel_rfl) (by kernel_rfl) (fun _ _ _ h=>h) (aS (by kernel_rfl) 31 _ rfl rfl (fun _ h=>h.c.load12 HRS.out.1)) (by assumption) ?_
   simp only[nmz]
   refine aE (i:=3) (by kernel_rfl) (by rfl) (fun K hK=>?_)
   refine aF rfl 24 _ _ rfl _ _ rfl rfl _ _ (A.x3.drew) info1 rfl (by simp[Value.oneCell']) ?_
   refine hK.out _ _ (hHeld.put (by omega) _) (fun hHeld2=>?_)
   clear hK K hHeld
   have hHeld:=hHeld2
   clear hHeld2
   simp only[Act.put]
   refine aE (i:=4) (by kernel_rfl) (by rfl) (fun K hK=>?_)
   refine aF rfl 26 _ _ rfl _ _ rfl rfl _ _ (A.x4.drew.otherRow (by omega) _) info3 rfl (by simp[Value.oneCell']) ?_
   refine hK.out _ _ (hHeld.put (by omega) _) (fun hHeld2=>?_)
   clear hK K hHeld
   have hHeld:=hHeld2
   clear hHeld2
   simp only[Act.put]
   refine aE (i:=5) (by kernel_rfl) (by rfl) (fun K hK=>?_)
   refine aF rfl 31 _ _ rfl _ _ rfl rfl _ _ ((A.x5.drew.otherRow (by omega) _).otherRow (by omega) _) (by rw[info12,HRS.out.1]) HRS.out.1.symm HRS.out.2 ?_
   refine hK.out _ _ (hHeld.put (by omega) _) (fun hHeld2=>?_)
   clear hK K hHeld
   have hHeld:=hHeld2
   clear hHeld2
   simp only[Act.put]
   refine wpAnyH_done (by kernel_rfl) ?_ _
   go_wp2_with fail
   exact cY (by rfl) (by rfl) (by rfl) A.x3.drew A.x4.drew A.x5.drew (Below.drew BV.out) HRB.out HT1.out (fun _ hb ho _=>⟨HF.out.hm.keep hb,(ho (by omega) HOV.out.drew).sl HS8.out⟩) (.inl rfl) (.inr (bJ (by omega) _ _ _))
set_option maxRecDepth 10000 in
set_option maxHeartbeats 8000000 in
theorem xO (v:Value)(zs:List Int)(p:Int)(u:Value)(r:List Int)(mo ba op oh ot fe fp fh ft:Int)(st lo:Bool)(vc:Value)(l:List Ln)(w:World)(x y i:Int)(hP:StP v zs p u r mo ba op oh ot fe fp fh ft st lo vc l w 0 8 x y i):StC v zs p u r mo ba op oh ot fe fp fh ft st lo vc l w:=by
 obtain⟨b,o,cap,rb,ro,rc,rfl,rfl,hbb,hrb,hp0,hp1,hF⟩:=fT hP
 have HF:Hid _:=hF
 obtain⟨R,hR⟩:∃R:Array Value,R=(rB mo ba vc op oh ot st fe fp fh ft lo):=⟨_,rfl⟩
 have HRB:Hid (R=(rB mo ba vc op oh ot st fe fp fh ft lo)):=hR
 have HRS:Hid (R.size=12∧R.all (·.oneCell')=true):=hR ▸ eX hF.hc
 unfold StC
 rw[←hR]
 have gz:=hF.cs p.toNat (by omega)
 obtain⟨z,hz⟩:∃z,nth zs p.toNat=z:=⟨_,rfl⟩
 have HE:Hid (riE z=0):=by have:=hF.hE;rw[hz] at this;exact this
 have HX:Hid (riX z=(8,x,y,i)):=by have:=hF.hX;rw[hz] at this;exact this
 rw[hz] at gz
 clear hP hF hR hz
 go_enter Tryz.func49,Tryz.ntmps49
 go_upto_region 1 with fail
 (try simp only[Value.cells])
 rw[fS]
 obtain⟨A,bw⟩:=gX w (.slice (some ⟨b,o,none⟩) 512 cap) (.slice (some ⟨rb,ro,none⟩) 8 rc) p R
 generalize sixW w (.slice (some ⟨b,o,none⟩) 512 cap) (.slice (some ⟨rb,ro,none⟩) 8 rc) p R=W0 at *
 have gz:=(bw.cell (p:=⟨b,o+p.toNat,none⟩) hbb).trans gz
 have t1:b<W0.heap.size:=Nat.lt_of_lt_of_le hbb bw.size
 have BV:Hid (Below w.heap.size w W0):=bw
 obtain⟨m0,-,s0⟩:=A.x0.one
 obtain⟨h0,h1,h2,-,-,-,s1⟩:=A.x1.three
 clear bw
 go_wp2_with fail
 refine (fQ HE.out HX.out).mono ?_
 rintro _ w1 ⟨rfl,b1⟩
 have hI6:=(A.keep b1).lt
 have A:=(A.keep b1).past (.cells #[J 8,J x,J y,J i] 130)
 have XI:=Box.newAt (w:=w1) (n:=w1.heap.size) rfl 130 #[J 8,J x,J y,J i]
 have BV:Hid (Below w.heap.size w (w1.alloc (.cells #[J 8,J x,J y,J i] 130))):=aA (aB BV.out b1) _
 clear b1 gz t1 m0 s0 h0 h1 h2 s1
 go_upto_region 5 with fail
 generalize w1.heap.size=I at *
 generalize (w1.alloc (.cells #[J 8,J x,J y,J i] 130))=W at *
 have HRW:Hid (Sl W (.slice (some ⟨rb,ro,none⟩) 8 rc) r):=HF.out.hr.keep BV.out
 have HPN:Hid ((IntKind.i64.wrap (p+1)).tmod 512=nextP p):=fR hp0 hp1
 have H8:Hid (r.length=8):=HF.out.r8
 have HNE:Hid (r≠[]):=fun e=>by have:=H8.out;rw[e] at this;simp at this
 have HOL:Hid (OwnI (W.alloc (.cells #[] 3)) W.heap.size (.slice (some ⟨W.heap.size,0,none⟩) 0 0) []):=eC rfl (Nat.le_refl _)
 have HOL2:Hid (∀ob:Obj,OwnI ((W.alloc ob).alloc (.cells #[] 3)) W.heap.size (.slice (some ⟨W.heap.size+1,0,none⟩) 0 0) []):=fun ob=>eC (by simp) (by simp)
 obtain⟨a0,a1,-,-,-,-,s1⟩:=A.x1.three
 have zI:=XI.lt
 have hA:=A.lt
 go_cut [12] from 37 to 45 (fun s wx=>StN p r W s wx)
 case first=>
  go_region_held3 (fun w'=>w'.cell? ⟨w.heap.size+1,0,none⟩=some (J p)∧w'.cell? ⟨w.heap.size+1,1,none⟩=some (.slice (some ⟨rb,ro,none⟩) 8 rc)∧Below W.heap.size W w')
   (with_reducible refine keep2H (by assumption) (by assumption) (by assumption) ?_;(repeat (first|with_reducible assumption|(with_reducible (refine limb2H (?_:_∧_∧_);assumption))|with_reducible exact Below.refl _ _|with_reducible refine Below.drew ?_|with_reducible refine aH ?_ _|with_reducible refine aA ?_ _|with_reducible refine Below.trans ?_ (by assumption)|(with_reducible refine bO ?_ ?_ _ _ _;(focus omega)))))
   (first|(refine dB rfl (.tmp 41) (.tmp 43) rfl W.heap.size (.slice (some ⟨_,0,none⟩) 0 0) (.slice (some ⟨rb,ro,none⟩) 8 rc) [] r rfl rfl ?_ ?_ ?_ ?_ ?_ ?_;(focus ((repeat (first|with_reducible refine OwnI.drew ?_|with_reducible exact HOL.out|with_reducible exact HOL2.out _|with_reducible refine OwnI.alloc ?_ _));done));(focus (refine HRW.out.keep ?_;(repeat (first|with_reducible exact Below.refl _ _|with_reducible refine Below.drew ?_|with_reducible refine aA ?_ _));done));(focus (rw[H8.out];simp;done));(focus (first|(simp;done)|(simp;omega)));(focus (exact HNE.out));intro g cg w7 hown hgr hbel hat;first|(have XN:=ord2 hgr;obtain⟨i0,i1,i2,j0,j1,j2,l9⟩:=XN.three)|(have XN:=ord3 hgr;obtain⟨i0,i1,i2,j0,j1,j2,l9⟩:=XN.three)|skip))
  all_goals (rename_i hH;have HBE:=limb2H hH;clear hH)
  all_goals (go_wp2_with fail;go_meet)
  ·refine⟨_,g,cg,rfl,by rw[←HPN.out];exact Box.newAt rfl _ _,hown.alloc _,by have:=hbel.size;simp at this;omega,HBE⟩
  ·refine⟨_,g,cg,rfl,by rw[←HPN.out];exact XN.set3 _ _ _,hown.far3 (dQ hown XN) _ _ _,by omega,HBE⟩
  ·refine⟨_,g,cg,rfl,by rw[←HPN.out];exact XN.set3 _ _ _,hown.far3 (dQ hown XN) _ _ _,by omega,HBE⟩
 case rest=>
  obtain⟨n,g,cg,rfl,XN,HO,hn,BC⟩:=hcut
  rw[H8.out] at XN HO
  have A:=A.keep BC
  have XI:=XI.keep BC
  have BV:Hid (Below w.heap.size w wc):=aB BV.out BC
  have hgn:=dQ HO XN
  have hgW:=HO.base g rfl
  have HOW:Hid _:=HO
  clear BC HRW HOL HOL2 HNE HPN HO a0 a1 s1
  obtain⟨-,⟨i2a,i2b⟩,⟨i3a,i3b⟩,⟨i4a,i4b⟩⟩:=HF.out.hi rfl
  have rx:=HF.out.rw x.toNat (by omega)
  have ry:=HF.out.rw y.toNat (by omega)
  have gx:=HF.out.rs x.toNat (by omega)
  have gy:=HF.out.rs y.toNat (by omega)
  obtain⟨one,h1⟩:∃one,nth r x.toNat=one:=⟨_,rfl⟩
  obtain⟨two,h2⟩:∃two,nth r y.toNat=two:=⟨_,rfl⟩
  rw[h1] at rx gx
  rw[h2] at ry gy
  rw[←BV.out.cell (p:=⟨rb,ro+x.toNat,none⟩) hrb] at gx
  rw[←BV.out.cell (p:=⟨rb,ro+y.toNat,none⟩) hrb] at gy
  have HT:Hid _:=HF.out.ht rfl
  have HO1:Hid (nth r x.toNat=one):=h1
  have HO2:Hid (nth r y.toNat=two):=h2
  clear h1 h2
  obtain⟨c0,c1,c2,c3,-,-,-,-,zI2⟩:=XI.four
  obtain⟨a0,a1,-,-,-,-,s1⟩:=A.x1.three
  have hrb1:rb<wc.heap.size:=Nat.lt_of_lt_of_le hrb BV.out.size
  go_upto_region 6 with fail
  go_quiet (fail)
  have A:=A.drewN nq
  have XN:=XN.drewN nq
  have XI:=XI.drewN nq
  have HOV:Hid (OwnI (wc.drewN nq) W.heap.size (.slice (some ⟨g,0,none⟩) 8 cg) r):=HOW.out
  have BV:Hid (Below w.heap.size w (wc.drewN nq)):=aH BV.out nq
  have lg:g<(wc.drewN nq).heap.size:=OwnI.lt HOV.out g rfl
  clear HOW gx gy c0 c1 c2 c3 a0 a1 s1 zI2 hrb1
  generalize wc.drewN nq=V at *
  obtain⟨rx0,rx1⟩:=rx
  obtain⟨ry0,ry1⟩:=ry
  have hx9:x<8:=by omega
  have A2:=A.x2
  rw[HRB.out] at A2
  obtain⟨c0,c1,c2,c3,-,-,-,-,zI2⟩:=XI.four
  obtain⟨⟨d0,d1,d2,d3,d4,d5,d6,d7,d8,d9,d10,d11⟩,s2⟩:=A2.twelve
  obtain⟨sv,hsv⟩:∃sv,stB ⟨mo,ba,l,op,oh,ot,st,fe,fp,fh,ft,lo⟩=sv:=⟨_,rfl⟩
  have HSV0:Hid (stB ⟨mo,ba,l,op,oh,ot,st,fe,fp,fh,ft,lo⟩=sv):=hsv
  obtain⟨sq,hsq⟩:∃sq:Int,(if st=true then (1:Int) else 0)=sq:=⟨_,rfl⟩
  clear A2
  go_upto_if 160 with fail
  go_cut [15,160,161,162] from 160 to 162 (fun s _ _ _ wx=>s=J sq∧wx=V)
  case first=>
   cases st
   all_goals
    go_wp2_with fail
    go_meet
    exact⟨by rw[←hsq];rfl,rfl⟩
  case rest=>
   obtain⟨rfl,hwc⟩:=hcut
   rw[hwc]
   clear hwc
   have hsq0:0≤sq∧sq≤1:=by rw[←hsq];cases st <;> decide
   obtain⟨hs0,hs1⟩:=hsq0
   have HSV:Hid (sq+(if lo=true then 2 else 0)=sv):=by show _=_;rw[←hsv,←hsq];rfl
   clear hsv hsq
   go_upto_if 164 with fail
   go_cut [15,164,165,166] from 164 to 166 (fun s _ _ _ wx=>s=J sv∧wx=V)
   case first=>
    cases lo
    all_goals
     go_wp2_with fail
     go_meet
     exact⟨by rw[←HSV.out];simp,rfl⟩
   case rest=>
    obtain⟨rfl,hwc⟩:=hcut
    rw[hwc]
    clear hwc
    have A1:=A.past (.cells #[J mo,J ba,J op,J ot,J oh,J fp,J fh,J ft,J fe,J sv] 3)
    have BV1:Hid (Below w.heap.size w (V.alloc (.cells #[J mo,J ba,J op,J ot,J oh,J fp,J fh,J ft,J fe,J sv] 3))):=aA BV.out _
    by_cases hq:i≤9
    rotate_left
    ·have hq1:9<i:=by omega
     go_upto_region 39 with fail
     clear c0 c1 c2 c3 zI2 d0 d1 d2 d3 d4 d5 d6 d7 d8 d9 d10 d11 s2
     have HT1:Hid (goS zs ⟨p,r,false⟩ ⟨mo,ba,l,op,oh,ot,st,fe,fp,fh,ft,lo⟩=(zs,⟨p,r,true⟩,⟨mo,ba,l,op,oh,ot,st,fe,fp,fh,ft,lo⟩)):=by
      show _=_
      rw[HT.out,exeI,if_neg (by decide),if_neg (by decide),if_neg (by decide),if_neg (by decide),if_neg (by decide),if_neg (by decide),if_neg (by decide),if_pos rfl,if_neg hq];rfl
     generalize (V.alloc (.cells #[J mo,J ba,J op,J ot,J oh,J fp,J fh,J ft,J fe,J sv] 3))=V1 at *
     go_wp2_with fail
     refine (dY A1 HRB.out HF.out.hc ⟨_,_,_,rfl⟩ ⟨_,_,_,rfl⟩).mono ?_
     rintro _ w2 ⟨c3,c4,rfl,h3,h4,g3,g4,K⟩
     have R3:=K.box _ _ _ (by omega) A1.x3
     have R4:=K.box _ _ _ (by omega) A1.x4
     have R5:=K.box _ _ _ (by omega) A1.x5
     have hb:=K.bel w (by omega) BV1.out
     clear K A1
     go_wp2_with (first
      | fail
      | (refine wpList_store_row rfl 24 _ _ rfl _ _ rfl rfl _ _ R3 (by rw[info1,g3.out.1]) g3.out.1.symm g3.out.2 ?_)
      | (refine wpList_store_row rfl 26 _ _ rfl _ _ rfl rfl _ _ (R4.otherRow (by omega) _) (by rw[info3,g4.out.1]) g4.out.1.symm g4.out.2 ?_)
      | (refine wpList_store_row rfl 31 _ _ rfl _ _ rfl rfl _ _ ((R5.otherRow (by omega) _).otherRow (by omega) _) (by rw[info12,HRS.out.1]) HRS.out.1.symm HRS.out.2 ?_))
     obtain rfl:=h3.out
     obtain rfl:=h4.out
     exact cY (by rfl) (by rfl) (by rfl) R3 R4 R5 hb HRB.out HT1.out (fun _ hb _ _=>⟨HF.out.hm.keep hb,HF.out.hr.keep hb⟩) (.inl rfl) (.inl rfl)
    have hq1:¬9<i:=by omega
    have hi10:i<10:=by omega
    obtain⟨v2,hv2⟩:∃v2,regB ⟨mo,ba,l,op,oh,ot,st,fe,fp,fh,ft,lo⟩ i=v2:=⟨_,rfl⟩
    have HT1:Hid (goS zs ⟨p,r,false⟩ ⟨mo,ba,l,op,oh,ot,st,fe,fp,fh,ft,lo⟩=(zs,⟨nextP p,r.set x.toNat v2,false⟩,⟨mo,ba,l,op,oh,ot,st,fe,fp,fh,ft,lo⟩)):=by
     show _=_
     rw[HT.out,exeI,if_neg (by decide),if_neg (by decide),if_neg (by decide),if_neg (by decide),if_neg (by decide),if_neg (by decide),if_neg (by decide),if_pos rfl,if_pos hq,hv2]
    have cT:(V.alloc (.cells #[J mo,J ba,J op,J ot,J oh,J fp,J fh,J ft,J fe,J sv] 3)).cell? ⟨V.heap.size,i.toNat,none⟩=some (J v2):=by
     have e:i=0∨i=1∨i=2∨i=3∨i=4∨i=5∨i=6∨i=7∨i=8∨i=9:=by omega
     have X:=Box.newAt (w:=V) rfl 3 #[J mo,J ba,J op,J ot,J oh,J fp,J fh,J ft,J fe,J sv]
     rw[←hv2]
     rcases e with rfl|rfl|rfl|rfl|rfl|rfl|rfl|rfl|rfl|rfl
     case inr.inr.inr.inr.inr.inr.inr.inr.inr=>rw[show regB ⟨mo,ba,l,op,oh,ot,st,fe,fp,fh,ft,lo⟩ 9=sv from HSV0.out];exact X.cell 9
     all_goals exact X.cell _
    have lT:V.heap.size<(V.alloc (.cells #[J mo,J ba,J op,J ot,J oh,J fp,J fh,J ft,J fe,J sv] 3)).heap.size:=by simp
    have XN1:=XN.past (.cells #[J mo,J ba,J op,J ot,J oh,J fp,J fh,J ft,J fe,J sv] 3)
    have XI1:=XI.past (.cells #[J mo,J ba,J op,J ot,J oh,J fp,J fh,J ft,J fe,J sv] 3)
    have HOV1:Hid (OwnI (V.alloc (.cells #[J mo,J ba,J op,J ot,J oh,J fp,J fh,J ft,J fe,J sv] 3)) W.heap.size (.slice (some ⟨g,0,none⟩) 8 cg) r):=OwnI.alloc HOV.out _
    clear hq hv2
    go_upto_region 40 with fail
    clear c0 c1 c2 c3 zI2 d0 d1 d2 d3 d4 d5 d6 d7 d8 d9 d10 d11 s2 A XN XI HOV BV lg
    generalize (V.alloc (.cells #[J mo,J ba,J op,J ot,J oh,J fp,J fh,J ft,J fe,J sv] 3))=V1 at *
    generalize V.heap.size=TT at *
    have A:=A1
    have XN:=XN1
    have XI:=XI1
    have HOV:=HOV1
    have BV:=BV1
    clear A1 XN1 XI1 HOV1 BV1
    refine cA (by kernel_rfl) 10 (fun w'=>Below V1.heap.size V1 w') (Below.drew (Below.refl _ _)) (fun hHeld=>?_)
    have CF:Cl (fun w'=>Below V1.heap.size V1 w') _:=⟨fun wz hSz=>And.intro ((A.x0.keep hSz).one) (And.intro ((XN.keep hSz).three) (And.intro ((XI.keep hSz).four) ((hSz.cell (p:=⟨TT,i.toNat,none⟩) lT).trans cT)))⟩
    refine tkL 0 rfl ?_
    refine tkL 1 rfl ?_
    refine tkL 2 rfl ?_
    refine tkL 3 rfl ?_
    refine tkL 4 rfl ?_
    refine tkL 5 rfl ?_
    refine tkL 6 rfl ?_
    refine tkL 7 rfl ?_
    refine tkL 8 rfl ?_
    refine tkL 9 rfl ?_
    have q1:=OwnI.cellAt HOV.out (i:=x.toNat) (by rw[H8.out];omega)
    have q2:=OwnI.frozenAt HOV.out x.toNat
    refine bP (i:=10) (by kernel_rfl) (by rfl) (fun K hK=>?_)
    go_simp
    refine hK.out _ _ (fun h=>absurd h (by decide)) ?_
    clear hK K
    refine cZ (by kernel_rfl) ?_ _
    clear hHeld q1 q2
    have A:=A.other (n:=g) (i:=x.toNat) (by omega) (J v2)
    have XN:=XN.other (p:=⟨g,x.toNat,none⟩) (by show n≠g;omega) (J v2)
    have HOV:Hid (OwnI (V1.setCell ⟨g,x.toNat,none⟩ (J v2)) W.heap.size (.slice (some ⟨g,0,none⟩) 8 cg) (r.set x.toNat v2)):=OwnI.setAt HOV.out x.toNat v2
    have BV:Hid (Below w.heap.size w (V1.setCell ⟨g,x.toNat,none⟩ (J v2))):=BV.out.setCell (p:=⟨g,x.toNat,none⟩) (by show w.heap.size≤g;omega) (J v2)
    have HS8:Hid ((r.set x.toNat v2).length≤maxLen):=by show _≤_;rw[List.length_set,H8.out];decide
    have A:=A.drew
    have XN:=XN.drew
    have HOV:Hid (OwnI (V1.setCell ⟨g,x.toNat,none⟩ (J v2)).drew W.heap.size (.slice (some ⟨g,0,none⟩) 8 cg) (r.set x.toNat v2)):=HOV.out
    have BV:Hid (Below w.heap.size w (V1.setCell ⟨g,x.toNat,none⟩ (J v2)).drew):=Below.drew BV.out
    generalize (V1.setCell ⟨g,x.toNat,none⟩ (J v2)).drew=V2 at *
    go_upto_region 63 with fail
    have hA6:=A.lt
    refine wp_region_held_drew (S:=Src w.heap.size n (w.heap.size+1+1) _ _ _) (by kernel_rfl) ⟨A.x0.drew,XN.drew,A.x2.drew⟩ (fun hHeld=>?_)
    refine aO (i:=0) (v:=.agg _) rfl (by kernel_rfl) (by kernel_rfl) (by kernel_rfl) (fun _ _ _ h=>h) (aS (by kernel_rfl) 24 _ rfl rfl (fun _ h=>h.a.load1 rfl)) (by assumption) ?_
    simp only[nmz]
    refine aO (i:=1) (v:=.agg _) rfl (by kernel_rfl) (by kernel_rfl) (by kernel_rfl) (fun _ _ _ h=>h) (aS (by kernel_rfl) 26 _ rfl rfl (fun _ h=>h.b.load3 rfl)) (by assumption) ?_
    simp only[nmz]
    refine aO (i:=2) (v:=.agg _) rfl (by kernel_rfl) (by kernel_rfl) (by kernel_rfl) (fun _ _ _ h=>h) (aS (by kernel_rfl) 31 _ rfl rfl (fun _ h=>h.c.load12 HRS.out.1)) (by assumption) ?_
    simp only[nmz]
    refine aE (i:=3) (by kernel_rfl) (by rfl) (fun K hK=>?_)
    refine aF rfl 24 _ _ rfl _ _ rfl rfl _ _ (A.x3.drew) info1 rfl (by simp[Value.oneCell']) ?_
    refine hK.out _ _ (hHeld.put (by omega) _) (fun hHeld2=>?_)
    clear hK K hHeld
    have hHeld:=hHeld2
    clear hHeld2
    simp only[Act.put]
    refine aE (i:=4) (by kernel_rfl) (by rfl) (fun K hK=>?_)
    refine aF rfl 26 _ _ rfl _ _ rfl rfl _ _ (A.x4.drew.otherRow (by omega) _) info3 rfl (by simp[Value.oneCell']) ?_
    refine hK.out _ _ (hHeld.put (by omega) _) (fun hHeld2=>?_)
    clear hK K hHeld
    have hHeld:=hHeld2
    clear hHeld2
    simp only[Act.put]
    refine aE (i:=5) (by kernel_rfl) (by rfl) (fun K hK=>?_)
    refine aF rfl 31 _ _ rfl _ _ rfl rfl _ _ ((A.x5.drew.otherRow (by omega) _).otherRow (by omega) _) (by rw[info12,HRS.out.1]) HRS.out.1.symm HRS.out.2 ?_
    refine hK.out _ _ (hHeld.put (by omega) _) (fun hHeld2=>?_)
    clear hK K hHeld
    have hHeld:=hHeld2
    clear hHeld2
    simp only[Act.put]
    refine wpAnyH_done (by kernel_rfl) ?_ _
    go_wp2_with fail
    exact cY (by rfl) (by rfl) (by rfl) A.x3.drew A.x4.drew A.x5.drew (Below.drew BV.out) HRB.out HT1.out (fun _ hb ho _=>⟨HF.out.hm.keep hb,(ho (by omega) HOV.out.drew).sl HS8.out⟩) (.inl rfl) (.inr (bJ (by omega) _ _ _))
end Go.Proofs.YthlhocneggcekaaGreat
