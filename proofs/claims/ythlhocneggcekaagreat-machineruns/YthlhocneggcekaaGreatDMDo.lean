/-
  Laid together: MDo.
-/
import Derived.Test.YthlhocneggcekaaGreatD42
namespace Go.Proofs.YthlhocneggcekaaGreat
open Go.RowKit
set_option maxRecDepth 10000 in
set_option maxHeartbeats 4000000 in
theorem aCh {m:Mc}{x:Hp}{cs ch:Array Value}{w:World}(hm:IsM w m cs)(hx:IsH w x ch)(hE:¬chkM m=0):
  Calls Tryz.prog 11 #[.agg cs,.agg ch] w fun e w'=>DoC m x w e w':=by
 have HZ:Hid (hpE m x=chkM m):=aCg x hE
 have HE:Hid (¬hpE m x=0):=by show ¬_;rw[HZ.out];exact hE
 have HM:Hid (IsM w m cs):=hm
 have HX:Hid (IsH w x ch):=hx
 have hc16:cs.size=16:=hm.size.1
 have hh7:ch.size=7:=hx.size.1
 have HC16:Hid (cs.size=16):=hc16
 have HH7:Hid (ch.size=7):=hh7
 have X0:=(((Box.newAt (w:=w) (n:=w.heap.size) rfl 33 cs).past (.cells ch 37)).past (.cells zeroM 33)).past (.cells zeroT 40)
 have X1:=((Box.newAt (w:=w.alloc (.cells cs 33)) (n:=w.heap.size+1) (by simp) 37 ch).past (.cells zeroM 33)).past (.cells zeroT 40)
 have X2:=(Box.newAt (w:=(w.alloc (.cells cs 33)).alloc (.cells ch 37)) (n:=w.heap.size+1+1) (by simp) 33 zeroM).past (.cells zeroT 40)
 have X3:=Box.newAt (w:=((w.alloc (.cells cs 33)).alloc (.cells ch 37)).alloc (.cells zeroM 33)) (n:=w.heap.size+1+1+1) (by simp) 40 zeroT
 have BW:Hid (Below w.heap.size w ((((w.alloc (.cells cs 33)).alloc (.cells ch 37)).alloc (.cells zeroM 33)).alloc (.cells zeroT 40))):=aA (aA (aA (aA (Below.refl w.heap.size w) _) _) _) _
 have hsz:((((w.alloc (.cells cs 33)).alloc (.cells ch 37)).alloc (.cells zeroM 33)).alloc (.cells zeroT 40)).heap.size=w.heap.size+1+1+1+1:=by simp
 clear hm hx
 unfold zeroM zeroT at hsz X0 X1 X2 X3 BW
 go_enter Tryz.func11,Tryz.ntmps11
 go_upto_region 1 with fail
 (try simp only[Value.cells])
 generalize ((((w.alloc (.cells cs 33)).alloc (.cells ch 37)).alloc (.cells zM 33)).alloc (.cells zT 40))=W at *
 have X2:Box W (w.heap.size+1+1) 33 zeroM:=X2
 have X3:Box W (w.heap.size+1+1+1) 40 zeroT:=X3
 have HI:(Tryz.prog.info? 33).map (·.size)=some cs.size:=by rw[infoM,hc16]
 go_wp2_with (first
  | fail
  | (refine wpList_load_row rfl 33 (.tmp 2) rfl w.heap.size rfl _ _ _ _ X0 Tryz.underlying33 rfl HI ?_))
 refine (eY (HM.out.keep BW.out)).mono ?_
 rintro e w1 ⟨rfl,b1⟩
 have X0:=X0.keep b1
 have X1:=X1.keep b1
 have X2:=X2.keep b1
 have X3:=X3.keep b1
 have B1:Hid (Below w.heap.size w w1):=aB BW.out b1
 have z1:w.heap.size+1+1+1+1≤w1.heap.size:=by rw[←hsz];exact b1.size
 clear b1 BW hsz HI
 obtain⟨z,hz⟩:∃z,chkM m=z:=⟨_,rfl⟩
 rw[hz] at HZ hE ⊢
 clear hz
 have q:(z !=0)=true:=by simpa using hE
 clear hE
 have B9:Hid (Below w.heap.size w _):=B1.out
 go_wp2_with (first
  | fail
  | (refine wpList_store_row rfl 33 (.tmp 4) (.tmp 15) rfl (w.heap.size+1+1) zeroM rfl rfl _ _ X2 (by rw[infoM];rfl) rfl (by simp[zeroM,Value.oneCell']) ?_)
  | (refine wpList_store_row rfl 40 (.tmp 5) (.tmp 16) rfl (w.heap.size+1+1+1) zeroT rfl rfl _ _ (X3.otherRow (by omega) _) (by rw[infoTo];rfl) rfl (by simp[zeroT,Value.oneCell']) ?_))
 have l2:=Box.loadM ((X2.setRow zeroM).otherRow (show w.heap.size+1+1≠w.heap.size+1+1+1 by omega) zeroT) rfl
 have l3:=Box.loadT ((X3.otherRow (show w.heap.size+1+1+1≠w.heap.size+1+1 by omega) zeroM).setRow zeroT) rfl
 refine bodyPost_ret (v:=.tuple #[.agg zeroM,.agg zeroT,J z]) (by simp[results,Tryz.results11,asAddr,l2,l3]) rfl ⟨zeroM,zeroT,cK HZ.out.symm,by rw[kY HE.out];exact jK _,by rw[kY HE.out];exact sC _,gV _,oG _,?_⟩
 (repeat (first|with_reducible exact B9.out|with_reducible refine Below.drew ?_|(with_reducible refine aG ?_ ?_ _;(focus omega))))
set_option maxRecDepth 10000 in
set_option maxHeartbeats 4000000 in
theorem mDo_ok {m:Mc}{x:Hp}{cs ch:Array Value}{w:World}(hm:IsM w m cs)(hx:IsH w x ch)(hE:chkM m=0):
  Calls Tryz.prog 11 #[.agg cs,.agg ch] w fun e w'=>DoC m x w e w':=by
 have HE:Hid (chkM m=0):=hE
 have HM:Hid (IsM w m cs):=hm
 have HX:Hid (IsH w x ch):=hx
 have hc16:cs.size=16:=hm.size.1
 have hh7:ch.size=7:=hx.size.1
 have HC16:Hid (cs.size=16):=hc16
 have HH7:Hid (ch.size=7):=hh7
 have X0:=(((Box.newAt (w:=w) (n:=w.heap.size) rfl 33 cs).past (.cells ch 37)).past (.cells zeroM 33)).past (.cells zeroT 40)
 have X1:=((Box.newAt (w:=w.alloc (.cells cs 33)) (n:=w.heap.size+1) (by simp) 37 ch).past (.cells zeroM 33)).past (.cells zeroT 40)
 have X2:=(Box.newAt (w:=(w.alloc (.cells cs 33)).alloc (.cells ch 37)) (n:=w.heap.size+1+1) (by simp) 33 zeroM).past (.cells zeroT 40)
 have X3:=Box.newAt (w:=((w.alloc (.cells cs 33)).alloc (.cells ch 37)).alloc (.cells zeroM 33)) (n:=w.heap.size+1+1+1) (by simp) 40 zeroT
 have BW:Hid (Below w.heap.size w ((((w.alloc (.cells cs 33)).alloc (.cells ch 37)).alloc (.cells zeroM 33)).alloc (.cells zeroT 40))):=aA (aA (aA (aA (Below.refl w.heap.size w) _) _) _) _
 have hsz:((((w.alloc (.cells cs 33)).alloc (.cells ch 37)).alloc (.cells zeroM 33)).alloc (.cells zeroT 40)).heap.size=w.heap.size+1+1+1+1:=by simp
 clear hm hx
 unfold zeroM zeroT at hsz X0 X1 X2 X3 BW
 go_enter Tryz.func11,Tryz.ntmps11
 go_upto_region 1 with fail
 (try simp only[Value.cells])
 generalize ((((w.alloc (.cells cs 33)).alloc (.cells ch 37)).alloc (.cells zM 33)).alloc (.cells zT 40))=W at *
 have X2:Box W (w.heap.size+1+1) 33 zeroM:=X2
 have X3:Box W (w.heap.size+1+1+1) 40 zeroT:=X3
 have HI:(Tryz.prog.info? 33).map (·.size)=some cs.size:=by rw[infoM,hc16]
 go_wp2_with (first
  | fail
  | (refine wpList_load_row rfl 33 (.tmp 2) rfl w.heap.size rfl _ _ _ _ X0 Tryz.underlying33 rfl HI ?_))
 refine (eY (HM.out.keep BW.out)).mono ?_
 rintro e w1 ⟨rfl,b1⟩
 have X0:=X0.keep b1
 have X1:=X1.keep b1
 have X2:=X2.keep b1
 have X3:=X3.keep b1
 have B1:Hid (Below w.heap.size w w1):=aB BW.out b1
 have z1:w.heap.size+1+1+1+1≤w1.heap.size:=by rw[←hsz];exact b1.size
 clear b1 BW hsz HI
 rw[hE]
 clear hE
 have q:((0:Int) !=0)=false:=rfl
 go_upto_region 4 with fail
 clear q
 go_cut [8,9,10] from 18 to 25 (fun s8 s9 s10 wx=>DoA m x w1 s8 s9 s10 wx)
 case first=>
  refine wp_region_held_drew (S:=fun w'=>Below w1.heap.size w1 w') (by kernel_rfl) (Below.drew (Below.refl _ _)) (fun hHeld=>?_)
  refine aO (i:=0) (v:=.agg cs) rfl (by kernel_rfl) (by kernel_rfl) (by kernel_rfl) (fun _ _ _ h=>h) (aS (by kernel_rfl) 33 (.tmp 2) rfl rfl (fun _ hSz=>(X0.keep hSz).loadM HC16.out)) (by assumption) ?_
  simp only[nmz]
  refine aO (i:=2) (v:=.agg ch) rfl (by kernel_rfl) (by kernel_rfl) (by kernel_rfl) (fun _ _ _ h=>h) (aS (by kernel_rfl) 37 (.tmp 3) rfl rfl (fun _ hSz=>(X1.keep hSz).loadH HH7.out)) (by assumption) ?_
  simp only[nmz]
  have hX:Hid (w1.heap.size≤w1.heap.size):=Nat.le_refl _
  clear hX X0 X1 X2 X3 hc16 hh7 z1
  generalize w1.drew=v0 at *
  refine iD (i:=1) (j:=8) (k:=9) (by kernel_rfl) (by rfl) (by rfl) (by rfl) (fun K hK=>?t1) (fun K hK=>?t2) (fun K hK=>?t3)
  case' t1=>
   go_simp
   refine (eO (HM.out.keep (aB B1.out hHeld)) HE.out).mono ?_
   rintro e v1 ⟨cc,rfl,CS,OC,bc⟩
   obtain⟨zc,hzc⟩:∃z,z=v1.heap.size:=⟨_,rfl⟩
   have OC:OffRow (fun q=>q<w1.heap.size∨zc≤q) cc:=OC.less (fun q hq=>by have:=hHeld.size;omega)
   have zc0:zc≤v1.heap.size:=by omega
   clear hzc
   go_wp2_with fail
   refine hK.out _ _ (aB hHeld bc) (fun hHeld2=>?_)
   clear hK K hHeld bc
   have hHeld:=hHeld2
   clear hHeld2
   refine iD (i:=3) (j:=8) (k:=9) (by kernel_rfl) (by rfl) (by rfl) (by rfl) (fun K hK=>?t4) (fun K hK=>?t5) (fun K hK=>?t6)
   case' t4=>
    go_simp
    have hlt:∀q,(fun q=>q<w1.heap.size) q→q<v1.heap.size:=fun q hq=>by
     have:=hHeld.size
     dsimp only at hq
     omega
    refine (dG CS (HX.out.keep (aB B1.out hHeld)) HE.out hlt (OC.less (fun q hq=>by omega))).mono ?_
    rintro e w5 ⟨cs1,cs2,rfl,HP,bc⟩
    obtain⟨bad,hbad⟩:∃b:Nat→Prop,b=(fun q=>q<w1.heap.size):=⟨_,rfl⟩
    rw[←hbad] at HP
    have hbl:∀q,q<w1.heap.size→bad q:=fun q hq=>by rw[hbad];exact hq
    have K5:KeptB bad w5 w5:=KeptB.refl _ _
    have hb5:Below w1.heap.size w1 w5:=aB hHeld bc
    obtain⟨hs1,ha1⟩:=HP.1
    obtain⟨hs2,ha2⟩:=HP.2.1
    go_wp2_with fail
    refine hK.out _ _ hb5 (fun hHeld2=>?_)
    clear hK K hHeld bc hbad hb5 CS OC hlt
    have hHeld:=hHeld2
    clear hHeld2
    refine tkH 4 rfl ?_
    refine tkH 5 rfl ?_
    refine tkH 6 rfl ?_
    refine tkH 7 rfl ?_
    refine bZ (i:=8) (j:=9) (by kernel_rfl) (by rfl) (by rfl) (fun K hK=>?t7) (fun K hK=>?t8)
    case' t7=>
     go_simp
     have hb':Below w1.heap.size w1 (w5.alloc (.cells zM 33)):=aA hHeld _
     refine hK.out _ _ hb' (fun _=>?_)
     clear hK K
     obtain⟨n8,hn⟩:∃n,n=w5.heap.size:=⟨_,rfl⟩
     rw[←hn]
     have l8:w1.heap.size≤n8:=by rw[hn];exact hHeld.size
     have X8:Box (w5.alloc (.cells zM 33)) n8 33 zeroM:=Box.newAt hn _ _
     have b8:bad n8∨w5.heap.size≤n8:=.inr (by rw[hn];exact K5.size)
     have K5:=K5.alloc (.cells zM 33)
     clear hHeld hn
     have hHeld:=hb'
     clear hb'
     generalize (w5.alloc (.cells zM 33))=v3 at *
     refine aE (i:=9) (by kernel_rfl) (by rfl) (fun K hK=>?_)
     go_simp
     have hb':Below w1.heap.size w1 (v3.alloc (.cells zT 40)):=aA hHeld _
     refine hK.out _ _ hb' (fun _=>?_)
     clear hK K
     obtain⟨n9,hn⟩:∃n,n=v3.heap.size:=⟨_,rfl⟩
     rw[←hn]
     have l9:w1.heap.size≤n9:=by rw[hn];exact hHeld.size
     have X9:Box (v3.alloc (.cells zT 40)) n9 40 zeroT:=Box.newAt hn _ _
     have hne:¬n9=n8:=by have:=X8.lt;omega
     have X8:=X8.past (.cells zT 40)
     have b9:bad n9∨w5.heap.size≤n9:=.inr (by rw[hn];exact K5.size)
     have K5:=K5.alloc (.cells zT 40)
     clear hHeld hn
     have hHeld:=hb'
     clear hb'
     generalize (v3.alloc (.cells zT 40))=v4 at *
    case' t8=>
     go_simp
     have hb':Below w1.heap.size w1 (w5.alloc (.cells zT 40)):=aA hHeld _
     refine hK.out _ _ hb' (fun _=>?_)
     clear hK K
     obtain⟨n9,hn⟩:∃n,n=w5.heap.size:=⟨_,rfl⟩
     rw[←hn]
     have l9:w1.heap.size≤n9:=by rw[hn];exact hHeld.size
     have X9:Box (w5.alloc (.cells zT 40)) n9 40 zeroT:=Box.newAt hn _ _
     have b9:bad n9∨w5.heap.size≤n9:=.inr (by rw[hn];exact K5.size)
     have K5:=K5.alloc (.cells zT 40)
     clear hHeld hn
     have hHeld:=hb'
     clear hb'
     generalize (w5.alloc (.cells zT 40))=v3 at *
     refine aE (i:=8) (by kernel_rfl) (by rfl) (fun K hK=>?_)
     go_simp
     have hb':Below w1.heap.size w1 (v3.alloc (.cells zM 33)):=aA hHeld _
     refine hK.out _ _ hb' (fun _=>?_)
     clear hK K
     obtain⟨n8,hn⟩:∃n,n=v3.heap.size:=⟨_,rfl⟩
     rw[←hn]
     have l8:w1.heap.size≤n8:=by rw[hn];exact hHeld.size
     have X8:Box (v3.alloc (.cells zM 33)) n8 33 zeroM:=Box.newAt hn _ _
     have hne:¬n8=n9:=by have:=X9.lt;omega
     have X9:=X9.past (.cells zM 33)
     have b8:bad n8∨w5.heap.size≤n8:=.inr (by rw[hn];exact K5.size)
     have K5:=K5.alloc (.cells zM 33)
     clear hHeld hn
     have hHeld:=hb'
     clear hb'
     generalize (v3.alloc (.cells zM 33))=v4 at *
   case' t5=>
    go_simp
    have hb':Below w1.heap.size w1 (v1.alloc (.cells zM 33)):=aA hHeld _
    refine hK.out _ _ hb' (fun _=>?_)
    clear hK K
    obtain⟨n8,hn⟩:∃n,n=v1.heap.size:=⟨_,rfl⟩
    rw[←hn]
    have l8:w1.heap.size≤n8:=by rw[hn];exact hHeld.size
    have X8:Box (v1.alloc (.cells zM 33)) n8 33 zeroM:=Box.newAt hn _ _
    have CS:=CS.keep (aA (Below.refl _ _) (.cells zM 33))
    have z8:zc≤n8:=by rw[hn];exact zc0
    have zc0:zc≤(v1.alloc (.cells zM 33)).heap.size:=by simp;omega
    clear hHeld hn
    have hHeld:=hb'
    clear hb'
    generalize (v1.alloc (.cells zM 33))=v2 at *
    refine bZ (i:=3) (j:=9) (by kernel_rfl) (by rfl) (by rfl) (fun K hK=>?t9) (fun K hK=>?t10)
    case' t9=>
     go_simp
     have hlt:∀q,(fun q=>q<w1.heap.size∨q=n8) q→q<v2.heap.size:=fun q hq=>by
      have:=hHeld.size
      have:=X8.lt
      dsimp only at hq
      omega
     refine (dG CS (HX.out.keep (aB B1.out hHeld)) HE.out hlt (OC.less (fun q hq=>by omega))).mono ?_
     rintro e w5 ⟨cs1,cs2,rfl,HP,bc⟩
     obtain⟨bad,hbad⟩:∃b:Nat→Prop,b=(fun q=>q<w1.heap.size∨q=n8):=⟨_,rfl⟩
     rw[←hbad] at HP
     have hbl:∀q,q<w1.heap.size→bad q:=fun q hq=>by rw[hbad];exact .inl hq
     have K5:KeptB bad w5 w5:=KeptB.refl _ _
     have b8:bad n8∨w5.heap.size≤n8:=.inl (by rw[hbad];dsimp only;omega)
     have X8:=X8.keep bc
     have hb5:Below w1.heap.size w1 w5:=aB hHeld bc
     obtain⟨hs1,ha1⟩:=HP.1
     obtain⟨hs2,ha2⟩:=HP.2.1
     go_wp2_with fail
     refine hK.out _ _ hb5 (fun hHeld2=>?_)
     clear hK K hHeld bc hbad hb5 CS OC hlt
     have hHeld:=hHeld2
     clear hHeld2
     refine tkH 4 rfl ?_
     refine tkH 5 rfl ?_
     refine tkH 6 rfl ?_
     refine tkH 7 rfl ?_
     refine aE (i:=9) (by kernel_rfl) (by rfl) (fun K hK=>?_)
     go_simp
     have hb':Below w1.heap.size w1 (w5.alloc (.cells zT 40)):=aA hHeld _
     refine hK.out _ _ hb' (fun _=>?_)
     clear hK K
     obtain⟨n9,hn⟩:∃n,n=w5.heap.size:=⟨_,rfl⟩
     rw[←hn]
     have l9:w1.heap.size≤n9:=by rw[hn];exact hHeld.size
     have X9:Box (w5.alloc (.cells zT 40)) n9 40 zeroT:=Box.newAt hn _ _
     have hne:¬n9=n8:=by have:=X8.lt;omega
     have X8:=X8.past (.cells zT 40)
     have b9:bad n9∨w5.heap.size≤n9:=.inr (by rw[hn];exact K5.size)
     have K5:=K5.alloc (.cells zT 40)
     clear hHeld hn
     have hHeld:=hb'
     clear hb'
     generalize (w5.alloc (.cells zT 40))=v4 at *
    case' t10=>
     go_simp
     have hb':Below w1.heap.size w1 (v2.alloc (.cells zT 40)):=aA hHeld _
     refine hK.out _ _ hb' (fun _=>?_)
     clear hK K
     obtain⟨n9,hn⟩:∃n,n=v2.heap.size:=⟨_,rfl⟩
     rw[←hn]
     have l9:w1.heap.size≤n9:=by rw[hn];exact hHeld.size
     have X9:Box (v2.alloc (.cells zT 40)) n9 40 zeroT:=Box.newAt hn _ _
     have hne:¬n9=n8:=by have:=X8.lt;omega
     have X8:=X8.past (.cells zT 40)
     have CS:=CS.keep (aA (Below.refl _ _) (.cells zT 40))
     have z9:zc≤n9:=by rw[hn];exact zc0
     have zc0:zc≤(v2.alloc (.cells zT 40)).heap.size:=by simp;omega
     clear hHeld hn
     have hHeld:=hb'
     clear hb'
     generalize (v2.alloc (.cells zT 40))=v3 at *
     refine aE (i:=3) (by kernel_rfl) (by rfl) (fun K hK=>?_)
     go_simp
     have hlt:∀q,(fun q=>q<w1.heap.size∨q=n8∨q=n9) q→q<v3.heap.size:=fun q hq=>by
      have:=hHeld.size
      have:=X8.lt
      have:=X9.lt
      dsimp only at hq
      omega
     refine (dG CS (HX.out.keep (aB B1.out hHeld)) HE.out hlt (OC.less (fun q hq=>by omega))).mono ?_
     rintro e w5 ⟨cs1,cs2,rfl,HP,bc⟩
     obtain⟨bad,hbad⟩:∃b:Nat→Prop,b=(fun q=>q<w1.heap.size∨q=n8∨q=n9):=⟨_,rfl⟩
     rw[←hbad] at HP
     have hbl:∀q,q<w1.heap.size→bad q:=fun q hq=>by rw[hbad];exact .inl hq
     have K5:KeptB bad w5 w5:=KeptB.refl _ _
     have b8:bad n8∨w5.heap.size≤n8:=.inl (by rw[hbad];dsimp only;omega)
     have X8:=X8.keep bc
     have b9:bad n9∨w5.heap.size≤n9:=.inl (by rw[hbad];dsimp only;omega)
     have X9:=X9.keep bc
     have hb5:Below w1.heap.size w1 w5:=aB hHeld bc
     obtain⟨hs1,ha1⟩:=HP.1
     obtain⟨hs2,ha2⟩:=HP.2.1
     go_wp2_with fail
     refine hK.out _ _ hb5 (fun hHeld2=>?_)
     clear hK K hHeld bc hbad hb5 CS OC hlt
     have hHeld:=hHeld2
     clear hHeld2
     refine tkH 4 rfl ?_
     refine tkH 5 rfl ?_
     refine tkH 6 rfl ?_
     refine tkH 7 rfl ?_
   case' t6=>
    go_simp
    have hb':Below w1.heap.size w1 (v1.alloc (.cells zT 40)):=aA hHeld _
    refine hK.out _ _ hb' (fun _=>?_)
    clear hK K
    obtain⟨n9,hn⟩:∃n,n=v1.heap.size:=⟨_,rfl⟩
    rw[←hn]
    have l9:w1.heap.size≤n9:=by rw[hn];exact hHeld.size
    have X9:Box (v1.alloc (.cells zT 40)) n9 40 zeroT:=Box.newAt hn _ _
    have CS:=CS.keep (aA (Below.refl _ _) (.cells zT 40))
    have z9:zc≤n9:=by rw[hn];exact zc0
    have zc0:zc≤(v1.alloc (.cells zT 40)).heap.size:=by simp;omega
    clear hHeld hn
    have hHeld:=hb'
    clear hb'
    generalize (v1.alloc (.cells zT 40))=v2 at *
    refine bZ (i:=3) (j:=8) (by kernel_rfl) (by rfl) (by rfl) (fun K hK=>?t11) (fun K hK=>?t12)
    case' t11=>
     go_simp
     have hlt:∀q,(fun q=>q<w1.heap.size∨q=n9) q→q<v2.heap.size:=fun q hq=>by
      have:=hHeld.size
      have:=X9.lt
      dsimp only at hq
      omega
     refine (dG CS (HX.out.keep (aB B1.out hHeld)) HE.out hlt (OC.less (fun q hq=>by omega))).mono ?_
     rintro e w5 ⟨cs1,cs2,rfl,HP,bc⟩
     obtain⟨bad,hbad⟩:∃b:Nat→Prop,b=(fun q=>q<w1.heap.size∨q=n9):=⟨_,rfl⟩
     rw[←hbad] at HP
     have hbl:∀q,q<w1.heap.size→bad q:=fun q hq=>by rw[hbad];exact .inl hq
     have K5:KeptB bad w5 w5:=KeptB.refl _ _
     have b9:bad n9∨w5.heap.size≤n9:=.inl (by rw[hbad];dsimp only;omega)
     have X9:=X9.keep bc
     have hb5:Below w1.heap.size w1 w5:=aB hHeld bc
     obtain⟨hs1,ha1⟩:=HP.1
     obtain⟨hs2,ha2⟩:=HP.2.1
     go_wp2_with fail
     refine hK.out _ _ hb5 (fun hHeld2=>?_)
     clear hK K hHeld bc hbad hb5 CS OC hlt
     have hHeld:=hHeld2
     clear hHeld2
     refine tkH 4 rfl ?_
     refine tkH 5 rfl ?_
     refine tkH 6 rfl ?_
     refine tkH 7 rfl ?_
     refine aE (i:=8) (by kernel_rfl) (by rfl) (fun K hK=>?_)
     go_simp
     have hb':Below w1.heap.size w1 (w5.alloc (.cells zM 33)):=aA hHeld _
     refine hK.out _ _ hb' (fun _=>?_)
     clear hK K
     obtain⟨n8,hn⟩:∃n,n=w5.heap.size:=⟨_,rfl⟩
     rw[←hn]
     have l8:w1.heap.size≤n8:=by rw[hn];exact hHeld.size
     have X8:Box (w5.alloc (.cells zM 33)) n8 33 zeroM:=Box.newAt hn _ _
     have hne:¬n8=n9:=by have:=X9.lt;omega
     have X9:=X9.past (.cells zM 33)
     have b8:bad n8∨w5.heap.size≤n8:=.inr (by rw[hn];exact K5.size)
     have K5:=K5.alloc (.cells zM 33)
     clear hHeld hn
     have hHeld:=hb'
     clear hb'
     generalize (w5.alloc (.cells zM 33))=v4 at *
    case' t12=>
     go_simp
     have hb':Below w1.heap.size w1 (v2.alloc (.cells zM 33)):=aA hHeld _
     refine hK.out _ _ hb' (fun _=>?_)
     clear hK K
     obtain⟨n8,hn⟩:∃n,n=v2.heap.size:=⟨_,rfl⟩
     rw[←hn]
     have l8:w1.heap.size≤n8:=by rw[hn];exact hHeld.size
     have X8:Box (v2.alloc (.cells zM 33)) n8 33 zeroM:=Box.newAt hn _ _
     have hne:¬n8=n9:=by have:=X9.lt;omega
     have X9:=X9.past (.cells zM 33)
     have CS:=CS.keep (aA (Below.refl _ _) (.cells zM 33))
     have z8:zc≤n8:=by rw[hn];exact zc0
     have zc0:zc≤(v2.alloc (.cells zM 33)).heap.size:=by simp;omega
     clear hHeld hn
     have hHeld:=hb'
     clear hb'
     generalize (v2.alloc (.cells zM 33))=v3 at *
     refine aE (i:=3) (by kernel_rfl) (by rfl) (fun K hK=>?_)
     go_simp
     have hlt:∀q,(fun q=>q<w1.heap.size∨q=n8∨q=n9) q→q<v3.heap.size:=fun q hq=>by
      have:=hHeld.size
      have:=X8.lt
      have:=X9.lt
      dsimp only at hq
      omega
     refine (dG CS (HX.out.keep (aB B1.out hHeld)) HE.out hlt (OC.less (fun q hq=>by omega))).mono ?_
     rintro e w5 ⟨cs1,cs2,rfl,HP,bc⟩
     obtain⟨bad,hbad⟩:∃b:Nat→Prop,b=(fun q=>q<w1.heap.size∨q=n8∨q=n9):=⟨_,rfl⟩
     rw[←hbad] at HP
     have hbl:∀q,q<w1.heap.size→bad q:=fun q hq=>by rw[hbad];exact .inl hq
     have K5:KeptB bad w5 w5:=KeptB.refl _ _
     have b8:bad n8∨w5.heap.size≤n8:=.inl (by rw[hbad];dsimp only;omega)
     have X8:=X8.keep bc
     have b9:bad n9∨w5.heap.size≤n9:=.inl (by rw[hbad];dsimp only;omega)
     have X9:=X9.keep bc
     have hb5:Below w1.heap.size w1 w5:=aB hHeld bc
     obtain⟨hs1,ha1⟩:=HP.1
     obtain⟨hs2,ha2⟩:=HP.2.1
     go_wp2_with fail
     refine hK.out _ _ hb5 (fun hHeld2=>?_)
     clear hK K hHeld bc hbad hb5 CS OC hlt
     have hHeld:=hHeld2
     clear hHeld2
     refine tkH 4 rfl ?_
     refine tkH 5 rfl ?_
     refine tkH 6 rfl ?_
     refine tkH 7 rfl ?_
  case' t2=>
   go_simp
   have hb':Below w1.heap.size w1 (v0.alloc (.cells zM 33)):=aA hHeld _
   refine hK.out _ _ hb' (fun _=>?_)
   clear hK K
   obtain⟨n8,hn⟩:∃n,n=v0.heap.size:=⟨_,rfl⟩
   rw[←hn]
   have l8:w1.heap.size≤n8:=by rw[hn];exact hHeld.size
   have X8:Box (v0.alloc (.cells zM 33)) n8 33 zeroM:=Box.newAt hn _ _
   clear hHeld hn
   have hHeld:=hb'
   clear hb'
   generalize (v0.alloc (.cells zM 33))=v1 at *
   refine bZ (i:=1) (j:=9) (by kernel_rfl) (by rfl) (by rfl) (fun K hK=>?t13) (fun K hK=>?t14)
   case' t13=>
    go_simp
    refine (eO (HM.out.keep (aB B1.out hHeld)) HE.out).mono ?_
    rintro e v2 ⟨cc,rfl,CS,OC,bc⟩
    have t8:=X8.lt
    have X8:=X8.keep bc
    obtain⟨zc,hzc⟩:∃z,z=v2.heap.size:=⟨_,rfl⟩
    have OC:OffRow (fun q=>q<w1.heap.size∨q=n8∨zc≤q) cc:=OC.less (fun q hq=>by have:=hHeld.size;omega)
    have zc0:zc≤v2.heap.size:=by omega
    clear hzc
    go_wp2_with fail
    refine hK.out _ _ (aB hHeld bc) (fun hHeld2=>?_)
    clear hK K hHeld bc
    have hHeld:=hHeld2
    clear hHeld2
    refine bZ (i:=3) (j:=9) (by kernel_rfl) (by rfl) (by rfl) (fun K hK=>?t15) (fun K hK=>?t16)
    case' t15=>
     go_simp
     have hlt:∀q,(fun q=>q<w1.heap.size∨q=n8) q→q<v2.heap.size:=fun q hq=>by
      have:=hHeld.size
      have:=X8.lt
      dsimp only at hq
      omega
     refine (dG CS (HX.out.keep (aB B1.out hHeld)) HE.out hlt (OC.less (fun q hq=>by omega))).mono ?_
     rintro e w5 ⟨cs1,cs2,rfl,HP,bc⟩
     obtain⟨bad,hbad⟩:∃b:Nat→Prop,b=(fun q=>q<w1.heap.size∨q=n8):=⟨_,rfl⟩
     rw[←hbad] at HP
     have hbl:∀q,q<w1.heap.size→bad q:=fun q hq=>by rw[hbad];exact .inl hq
     have K5:KeptB bad w5 w5:=KeptB.refl _ _
     have b8:bad n8∨w5.heap.size≤n8:=.inl (by rw[hbad];dsimp only;omega)
     have X8:=X8.keep bc
     have hb5:Below w1.heap.size w1 w5:=aB hHeld bc
     obtain⟨hs1,ha1⟩:=HP.1
     obtain⟨hs2,ha2⟩:=HP.2.1
     go_wp2_with fail
     refine hK.out _ _ hb5 (fun hHeld2=>?_)
     clear hK K hHeld bc hbad hb5 CS OC hlt
     have hHeld:=hHeld2
     clear hHeld2
     refine tkH 4 rfl ?_
     refine tkH 5 rfl ?_
     refine tkH 6 rfl ?_
     refine tkH 7 rfl ?_
     refine aE (i:=9) (by kernel_rfl) (by rfl) (fun K hK=>?_)
     go_simp
     have hb':Below w1.heap.size w1 (w5.alloc (.cells zT 40)):=aA hHeld _
     refine hK.out _ _ hb' (fun _=>?_)
     clear hK K
     obtain⟨n9,hn⟩:∃n,n=w5.heap.size:=⟨_,rfl⟩
     rw[←hn]
     have l9:w1.heap.size≤n9:=by rw[hn];exact hHeld.size
     have X9:Box (w5.alloc (.cells zT 40)) n9 40 zeroT:=Box.newAt hn _ _
     have hne:¬n9=n8:=by have:=X8.lt;omega
     have X8:=X8.past (.cells zT 40)
     have b9:bad n9∨w5.heap.size≤n9:=.inr (by rw[hn];exact K5.size)
     have K5:=K5.alloc (.cells zT 40)
     clear hHeld hn
     have hHeld:=hb'
     clear hb'
     generalize (w5.alloc (.cells zT 40))=v4 at *
    case' t16=>
     go_simp
     have hb':Below w1.heap.size w1 (v2.alloc (.cells zT 40)):=aA hHeld _
     refine hK.out _ _ hb' (fun _=>?_)
     clear hK K
     obtain⟨n9,hn⟩:∃n,n=v2.heap.size:=⟨_,rfl⟩
     rw[←hn]
     have l9:w1.heap.size≤n9:=by rw[hn];exact hHeld.size
     have X9:Box (v2.alloc (.cells zT 40)) n9 40 zeroT:=Box.newAt hn _ _
     have hne:¬n9=n8:=by have:=X8.lt;omega
     have X8:=X8.past (.cells zT 40)
     have CS:=CS.keep (aA (Below.refl _ _) (.cells zT 40))
     have z9:zc≤n9:=by rw[hn];exact zc0
     have zc0:zc≤(v2.alloc (.cells zT 40)).heap.size:=by simp;omega
     clear hHeld hn
     have hHeld:=hb'
     clear hb'
     generalize (v2.alloc (.cells zT 40))=v3 at *
     refine aE (i:=3) (by kernel_rfl) (by rfl) (fun K hK=>?_)
     go_simp
     have hlt:∀q,(fun q=>q<w1.heap.size∨q=n8∨q=n9) q→q<v3.heap.size:=fun q hq=>by
      have:=hHeld.size
      have:=X8.lt
      have:=X9.lt
      dsimp only at hq
      omega
     refine (dG CS (HX.out.keep (aB B1.out hHeld)) HE.out hlt (OC.less (fun q hq=>by omega))).mono ?_
     rintro e w5 ⟨cs1,cs2,rfl,HP,bc⟩
     obtain⟨bad,hbad⟩:∃b:Nat→Prop,b=(fun q=>q<w1.heap.size∨q=n8∨q=n9):=⟨_,rfl⟩
     rw[←hbad] at HP
     have hbl:∀q,q<w1.heap.size→bad q:=fun q hq=>by rw[hbad];exact .inl hq
     have K5:KeptB bad w5 w5:=KeptB.refl _ _
     have b8:bad n8∨w5.heap.size≤n8:=.inl (by rw[hbad];dsimp only;omega)
     have X8:=X8.keep bc
     have b9:bad n9∨w5.heap.size≤n9:=.inl (by rw[hbad];dsimp only;omega)
     have X9:=X9.keep bc
     have hb5:Below w1.heap.size w1 w5:=aB hHeld bc
     obtain⟨hs1,ha1⟩:=HP.1
     obtain⟨hs2,ha2⟩:=HP.2.1
     go_wp2_with fail
     refine hK.out _ _ hb5 (fun hHeld2=>?_)
     clear hK K hHeld bc hbad hb5 CS OC hlt
     have hHeld:=hHeld2
     clear hHeld2
     refine tkH 4 rfl ?_
     refine tkH 5 rfl ?_
     refine tkH 6 rfl ?_
     refine tkH 7 rfl ?_
   case' t14=>
    go_simp
    have hb':Below w1.heap.size w1 (v1.alloc (.cells zT 40)):=aA hHeld _
    refine hK.out _ _ hb' (fun _=>?_)
    clear hK K
    obtain⟨n9,hn⟩:∃n,n=v1.heap.size:=⟨_,rfl⟩
    rw[←hn]
    have l9:w1.heap.size≤n9:=by rw[hn];exact hHeld.size
    have X9:Box (v1.alloc (.cells zT 40)) n9 40 zeroT:=Box.newAt hn _ _
    have hne:¬n9=n8:=by have:=X8.lt;omega
    have X8:=X8.past (.cells zT 40)
    clear hHeld hn
    have hHeld:=hb'
    clear hb'
    generalize (v1.alloc (.cells zT 40))=v2 at *
    refine aE (i:=1) (by kernel_rfl) (by rfl) (fun K hK=>?_)
    go_simp
    refine (eO (HM.out.keep (aB B1.out hHeld)) HE.out).mono ?_
    rintro e v3 ⟨cc,rfl,CS,OC,bc⟩
    have t8:=X8.lt
    have X8:=X8.keep bc
    have t9:=X9.lt
    have X9:=X9.keep bc
    obtain⟨zc,hzc⟩:∃z,z=v3.heap.size:=⟨_,rfl⟩
    have OC:OffRow (fun q=>q<w1.heap.size∨q=n8∨q=n9∨zc≤q) cc:=OC.less (fun q hq=>by have:=hHeld.size;omega)
    have zc0:zc≤v3.heap.size:=by omega
    clear hzc
    go_wp2_with fail
    refine hK.out _ _ (aB hHeld bc) (fun hHeld2=>?_)
    clear hK K hHeld bc
    have hHeld:=hHeld2
    clear hHeld2
    refine aE (i:=3) (by kernel_rfl) (by rfl) (fun K hK=>?_)
    go_simp
    have hlt:∀q,(fun q=>q<w1.heap.size∨q=n8∨q=n9) q→q<v3.heap.size:=fun q hq=>by
     have:=hHeld.size
     have:=X8.lt
     have:=X9.lt
     dsimp only at hq
     omega
    refine (dG CS (HX.out.keep (aB B1.out hHeld)) HE.out hlt (OC.less (fun q hq=>by omega))).mono ?_
    rintro e w5 ⟨cs1,cs2,rfl,HP,bc⟩
    obtain⟨bad,hbad⟩:∃b:Nat→Prop,b=(fun q=>q<w1.heap.size∨q=n8∨q=n9):=⟨_,rfl⟩
    rw[←hbad] at HP
    have hbl:∀q,q<w1.heap.size→bad q:=fun q hq=>by rw[hbad];exact .inl hq
    have K5:KeptB bad w5 w5:=KeptB.refl _ _
    have b8:bad n8∨w5.heap.size≤n8:=.inl (by rw[hbad];dsimp only;omega)
    have X8:=X8.keep bc
    have b9:bad n9∨w5.heap.size≤n9:=.inl (by rw[hbad];dsimp only;omega)
    have X9:=X9.keep bc
    have hb5:Below w1.heap.size w1 w5:=aB hHeld bc
    obtain⟨hs1,ha1⟩:=HP.1
    obtain⟨hs2,ha2⟩:=HP.2.1
    go_wp2_with fail
    refine hK.out _ _ hb5 (fun hHeld2=>?_)
    clear hK K hHeld bc hbad hb5 CS OC hlt
    have hHeld:=hHeld2
    clear hHeld2
    refine tkH 4 rfl ?_
    refine tkH 5 rfl ?_
    refine tkH 6 rfl ?_
    refine tkH 7 rfl ?_
  case' t3=>
   go_simp
   have hb':Below w1.heap.size w1 (v0.alloc (.cells zT 40)):=aA hHeld _
   refine hK.out _ _ hb' (fun _=>?_)
   clear hK K
   obtain⟨n9,hn⟩:∃n,n=v0.heap.size:=⟨_,rfl⟩
   rw[←hn]
   have l9:w1.heap.size≤n9:=by rw[hn];exact hHeld.size
   have X9:Box (v0.alloc (.cells zT 40)) n9 40 zeroT:=Box.newAt hn _ _
   clear hHeld hn
   have hHeld:=hb'
   clear hb'
   generalize (v0.alloc (.cells zT 40))=v1 at *
   refine bZ (i:=1) (j:=8) (by kernel_rfl) (by rfl) (by rfl) (fun K hK=>?t17) (fun K hK=>?t18)
   case' t17=>
    go_simp
    refine (eO (HM.out.keep (aB B1.out hHeld)) HE.out).mono ?_
    rintro e v2 ⟨cc,rfl,CS,OC,bc⟩
    have t9:=X9.lt
    have X9:=X9.keep bc
    obtain⟨zc,hzc⟩:∃z,z=v2.heap.size:=⟨_,rfl⟩
    have OC:OffRow (fun q=>q<w1.heap.size∨q=n9∨zc≤q) cc:=OC.less (fun q hq=>by have:=hHeld.size;omega)
    have zc0:zc≤v2.heap.size:=by omega
    clear hzc
    go_wp2_with fail
    refine hK.out _ _ (aB hHeld bc) (fun hHeld2=>?_)
    clear hK K hHeld bc
    have hHeld:=hHeld2
    clear hHeld2
    refine bZ (i:=3) (j:=8) (by kernel_rfl) (by rfl) (by rfl) (fun K hK=>?t19) (fun K hK=>?t20)
    case' t19=>
     go_simp
     have hlt:∀q,(fun q=>q<w1.heap.size∨q=n9) q→q<v2.heap.size:=fun q hq=>by
      have:=hHeld.size
      have:=X9.lt
      dsimp only at hq
      omega
     refine (dG CS (HX.out.keep (aB B1.out hHeld)) HE.out hlt (OC.less (fun q hq=>by omega))).mono ?_
     rintro e w5 ⟨cs1,cs2,rfl,HP,bc⟩
     obtain⟨bad,hbad⟩:∃b:Nat→Prop,b=(fun q=>q<w1.heap.size∨q=n9):=⟨_,rfl⟩
     rw[←hbad] at HP
     have hbl:∀q,q<w1.heap.size→bad q:=fun q hq=>by rw[hbad];exact .inl hq
     have K5:KeptB bad w5 w5:=KeptB.refl _ _
     have b9:bad n9∨w5.heap.size≤n9:=.inl (by rw[hbad];dsimp only;omega)
     have X9:=X9.keep bc
     have hb5:Below w1.heap.size w1 w5:=aB hHeld bc
     obtain⟨hs1,ha1⟩:=HP.1
     obtain⟨hs2,ha2⟩:=HP.2.1
     go_wp2_with fail
     refine hK.out _ _ hb5 (fun hHeld2=>?_)
     clear hK K hHeld bc hbad hb5 CS OC hlt
     have hHeld:=hHeld2
     clear hHeld2
     refine tkH 4 rfl ?_
     refine tkH 5 rfl ?_
     refine tkH 6 rfl ?_
     refine tkH 7 rfl ?_
     refine aE (i:=8) (by kernel_rfl) (by rfl) (fun K hK=>?_)
     go_simp
     have hb':Below w1.heap.size w1 (w5.alloc (.cells zM 33)):=aA hHeld _
     refine hK.out _ _ hb' (fun _=>?_)
     clear hK K
     obtain⟨n8,hn⟩:∃n,n=w5.heap.size:=⟨_,rfl⟩
     rw[←hn]
     have l8:w1.heap.size≤n8:=by rw[hn];exact hHeld.size
     have X8:Box (w5.alloc (.cells zM 33)) n8 33 zeroM:=Box.newAt hn _ _
     have hne:¬n8=n9:=by have:=X9.lt;omega
     have X9:=X9.past (.cells zM 33)
     have b8:bad n8∨w5.heap.size≤n8:=.inr (by rw[hn];exact K5.size)
     have K5:=K5.alloc (.cells zM 33)
     clear hHeld hn
     have hHeld:=hb'
     clear hb'
     generalize (w5.alloc (.cells zM 33))=v4 at *
    case' t20=>
     go_simp
     have hb':Below w1.heap.size w1 (v2.alloc (.cells zM 33)):=aA hHeld _
     refine hK.out _ _ hb' (fun _=>?_)
     clear hK K
     obtain⟨n8,hn⟩:∃n,n=v2.heap.size:=⟨_,rfl⟩
     rw[←hn]
     have l8:w1.heap.size≤n8:=by rw[hn];exact hHeld.size
     have X8:Box (v2.alloc (.cells zM 33)) n8 33 zeroM:=Box.newAt hn _ _
     have hne:¬n8=n9:=by have:=X9.lt;omega
     have X9:=X9.past (.cells zM 33)
     have CS:=CS.keep (aA (Below.refl _ _) (.cells zM 33))
     have z8:zc≤n8:=by rw[hn];exact zc0
     have zc0:zc≤(v2.alloc (.cells zM 33)).heap.size:=by simp;omega
     clear hHeld hn
     have hHeld:=hb'
     clear hb'
     generalize (v2.alloc (.cells zM 33))=v3 at *
     refine aE (i:=3) (by kernel_rfl) (by rfl) (fun K hK=>?_)
     go_simp
     have hlt:∀q,(fun q=>q<w1.heap.size∨q=n8∨q=n9) q→q<v3.heap.size:=fun q hq=>by
      have:=hHeld.size
      have:=X8.lt
      have:=X9.lt
      dsimp only at hq
      omega
     refine (dG CS (HX.out.keep (aB B1.out hHeld)) HE.out hlt (OC.less (fun q hq=>by omega))).mono ?_
     rintro e w5 ⟨cs1,cs2,rfl,HP,bc⟩
     obtain⟨bad,hbad⟩:∃b:Nat→Prop,b=(fun q=>q<w1.heap.size∨q=n8∨q=n9):=⟨_,rfl⟩
     rw[←hbad] at HP
     have hbl:∀q,q<w1.heap.size→bad q:=fun q hq=>by rw[hbad];exact .inl hq
     have K5:KeptB bad w5 w5:=KeptB.refl _ _
     have b8:bad n8∨w5.heap.size≤n8:=.inl (by rw[hbad];dsimp only;omega)
     have X8:=X8.keep bc
     have b9:bad n9∨w5.heap.size≤n9:=.inl (by rw[hbad];dsimp only;omega)
     have X9:=X9.keep bc
     have hb5:Below w1.heap.size w1 w5:=aB hHeld bc
     obtain⟨hs1,ha1⟩:=HP.1
     obtain⟨hs2,ha2⟩:=HP.2.1
     go_wp2_with fail
     refine hK.out _ _ hb5 (fun hHeld2=>?_)
     clear hK K hHeld bc hbad hb5 CS OC hlt
     have hHeld:=hHeld2
     clear hHeld2
     refine tkH 4 rfl ?_
     refine tkH 5 rfl ?_
     refine tkH 6 rfl ?_
     refine tkH 7 rfl ?_
   case' t18=>
    go_simp
    have hb':Below w1.heap.size w1 (v1.alloc (.cells zM 33)):=aA hHeld _
    refine hK.out _ _ hb' (fun _=>?_)
    clear hK K
    obtain⟨n8,hn⟩:∃n,n=v1.heap.size:=⟨_,rfl⟩
    rw[←hn]
    have l8:w1.heap.size≤n8:=by rw[hn];exact hHeld.size
    have X8:Box (v1.alloc (.cells zM 33)) n8 33 zeroM:=Box.newAt hn _ _
    have hne:¬n8=n9:=by have:=X9.lt;omega
    have X9:=X9.past (.cells zM 33)
    clear hHeld hn
    have hHeld:=hb'
    clear hb'
    generalize (v1.alloc (.cells zM 33))=v2 at *
    refine aE (i:=1) (by kernel_rfl) (by rfl) (fun K hK=>?_)
    go_simp
    refine (eO (HM.out.keep (aB B1.out hHeld)) HE.out).mono ?_
    rintro e v3 ⟨cc,rfl,CS,OC,bc⟩
    have t8:=X8.lt
    have X8:=X8.keep bc
    have t9:=X9.lt
    have X9:=X9.keep bc
    obtain⟨zc,hzc⟩:∃z,z=v3.heap.size:=⟨_,rfl⟩
    have OC:OffRow (fun q=>q<w1.heap.size∨q=n8∨q=n9∨zc≤q) cc:=OC.less (fun q hq=>by have:=hHeld.size;omega)
    have zc0:zc≤v3.heap.size:=by omega
    clear hzc
    go_wp2_with fail
    refine hK.out _ _ (aB hHeld bc) (fun hHeld2=>?_)
    clear hK K hHeld bc
    have hHeld:=hHeld2
    clear hHeld2
    refine aE (i:=3) (by kernel_rfl) (by rfl) (fun K hK=>?_)
    go_simp
    have hlt:∀q,(fun q=>q<w1.heap.size∨q=n8∨q=n9) q→q<v3.heap.size:=fun q hq=>by
     have:=hHeld.size
     have:=X8.lt
     have:=X9.lt
     dsimp only at hq
     omega
    refine (dG CS (HX.out.keep (aB B1.out hHeld)) HE.out hlt (OC.less (fun q hq=>by omega))).mono ?_
    rintro e w5 ⟨cs1,cs2,rfl,HP,bc⟩
    obtain⟨bad,hbad⟩:∃b:Nat→Prop,b=(fun q=>q<w1.heap.size∨q=n8∨q=n9):=⟨_,rfl⟩
    rw[←hbad] at HP
    have hbl:∀q,q<w1.heap.size→bad q:=fun q hq=>by rw[hbad];exact .inl hq
    have K5:KeptB bad w5 w5:=KeptB.refl _ _
    have b8:bad n8∨w5.heap.size≤n8:=.inl (by rw[hbad];dsimp only;omega)
    have X8:=X8.keep bc
    have b9:bad n9∨w5.heap.size≤n9:=.inl (by rw[hbad];dsimp only;omega)
    have X9:=X9.keep bc
    have hb5:Below w1.heap.size w1 w5:=aB hHeld bc
    obtain⟨hs1,ha1⟩:=HP.1
    obtain⟨hs2,ha2⟩:=HP.2.1
    go_wp2_with fail
    refine hK.out _ _ hb5 (fun hHeld2=>?_)
    clear hK K hHeld bc hbad hb5 CS OC hlt
    have hHeld:=hHeld2
    clear hHeld2
    refine tkH 4 rfl ?_
    refine tkH 5 rfl ?_
    refine tkH 6 rfl ?_
    refine tkH 7 rfl ?_
  all_goals
   refine aE (i:=10) (by kernel_rfl) (by rfl) (fun K hK=>?_)
   refine aF rfl 33 (.tmp 8) (.tmp 23) rfl n8 cs1 rfl rfl _ _ X8 (by rw[infoM,hs1]) (by rw[hs1];rfl) ha1 ?_
   refine hK.out _ _ (aG l8 hHeld _) (fun hHeld2=>?_)
   clear hK K
   simp only[Act.put]
   refine aE (i:=11) (by kernel_rfl) (by rfl) (fun K hK=>?_)
   refine aF rfl 40 (.tmp 9) (.tmp 24) rfl n9 cs2 rfl rfl _ _ (X9.otherRow (by omega) cs1) (by rw[infoTo,hs2]) (by rw[hs2];rfl) ha2 ?_
   refine hK.out _ _ (aG l9 hHeld2 _) (fun hHeld3=>?_)
   clear hK K
   simp only[Act.put]
   refine tkH 12 rfl ?_
   refine wpAnyH_done (by kernel_rfl) ?_ _
   go_wp2_with fail
   go_meet
   exact⟨n8,n9,cs1,cs2,rfl,rfl,rfl,l8,l9,(X8.setRow cs1).otherRow (by omega) cs2,(X9.otherRow (by omega) cs1).setRow cs2,(HP.kept ((K5.setRow b8 cs1).setRow b9 cs2) (fun _ h=>h)).less hbl,hHeld3⟩
 case rest=>
  obtain⟨n8,n9,cs1,cs2,rfl,rfl,rfl,l8,l9,X8,X9,HP,hb⟩:=hcut
  have X2:=X2.keep hb
  have X3:=X3.keep hb
  have B2:Hid (Below w.heap.size w wc):=aB B1.out hb
  clear hb X0 X1
  by_cases h0:hpE m x=0
  rotate_left
  ·have HE0:Hid (¬hpE m x=0):=h0
   obtain⟨z,hz⟩:∃z,hpE m x=z:=⟨_,rfl⟩
   have HZ:Hid (hpE m x=z):=hz
   rw[hz]
   have q:(z !=0)=true:=by rw[←hz];simpa using h0
   clear hz h0
   have B9:Hid (Below w.heap.size w _):=B2.out
   go_wp2_with (first
    | fail
    | (refine wpList_store_row rfl 33 (.tmp 4) (.tmp 28) rfl (w.heap.size+1+1) zeroM rfl rfl _ _ X2 (by rw[infoM];rfl) rfl (by simp[zeroM,Value.oneCell']) ?_)
    | (refine wpList_store_row rfl 40 (.tmp 5) (.tmp 29) rfl (w.heap.size+1+1+1) zeroT rfl rfl _ _ (X3.otherRow (by omega) _) (by rw[infoTo];rfl) rfl (by simp[zeroT,Value.oneCell']) ?_))
   have l2:=Box.loadM ((X2.setRow zeroM).otherRow (show w.heap.size+1+1≠w.heap.size+1+1+1 by omega) zeroT) rfl
   have l3:=Box.loadT ((X3.otherRow (show w.heap.size+1+1+1≠w.heap.size+1+1 by omega) zeroM).setRow zeroT) rfl
   refine bodyPost_ret (v:=.tuple #[.agg zeroM,.agg zeroT,J z]) (by simp[results,Tryz.results11,asAddr,l2,l3]) rfl ⟨zeroM,zeroT,cK HZ.out.symm,by rw[kY HE0.out];exact jK _,by rw[kY HE0.out];exact sC _,gV _,oG _,?_⟩
   (repeat (first|with_reducible exact B9.out|with_reducible refine Below.drew ?_|(with_reducible refine aG ?_ ?_ _;(focus omega))))
  have H0:Hid (hpE m x=0):=h0
  obtain⟨g1,g2,g3,g4⟩:=HP.of h0
  obtain⟨hs1,ha1⟩:=HP.1
  obtain⟨hs2,ha2⟩:=HP.2.1
  rw[h0]
  clear h0 HP
  have q:((0:Int) !=0)=false:=rfl
  go_upto_region 7 with fail
  clear q
  refine wp_region_held_drew (S:=fun w'=>Box w' n8 33 cs1∧Box w' n9 40 cs2) (by kernel_rfl) ⟨X8,X9⟩ (fun hHeld=>?_)
  refine aO (i:=0) (v:=.agg cs1) rfl (by kernel_rfl) (by kernel_rfl) (by kernel_rfl) (fun _ _ _ h=>h) (aS (by kernel_rfl) 33 (.tmp 8) rfl rfl (fun _ hSz=>hSz.1.loadM hs1)) (by assumption) ?_
  simp only[nmz]
  refine aO (i:=1) (v:=.agg cs2) rfl (by kernel_rfl) (by kernel_rfl) (by kernel_rfl) (fun _ _ _ h=>h) (aS (by kernel_rfl) 40 (.tmp 9) rfl rfl (fun _ hSz=>hSz.2.loadT hs2)) (by assumption) ?_
  simp only[nmz]
  refine aE (i:=2) (by kernel_rfl) (by rfl) (fun K hK=>?_)
  refine aF rfl 33 (.tmp 4) (.tmp 31) rfl (w.heap.size+1+1) cs1 rfl rfl _ _ X2.drew (by rw[infoM,hs1]) (by rw[hs1];rfl) ha1 ?_
  refine hK.out _ _ ⟨hHeld.1.otherRow (by omega) _,hHeld.2.otherRow (by omega) _⟩ (fun hHeld2=>?_)
  clear hK K
  simp only[Act.put]
  refine aE (i:=3) (by kernel_rfl) (by rfl) (fun K hK=>?_)
  refine aF rfl 40 (.tmp 5) (.tmp 32) rfl (w.heap.size+1+1+1) cs2 rfl rfl _ _ (X3.drew.otherRow (by omega) cs1) (by rw[infoTo,hs2]) (by rw[hs2];rfl) ha2 ?_
  refine hK.out _ _ ⟨hHeld2.1.otherRow (by omega) _,hHeld2.2.otherRow (by omega) _⟩ (fun hHeld3=>?_)
  clear hK K
  simp only[Act.put]
  refine tkH 4 rfl ?_
  refine wpAnyH_done (by kernel_rfl) ?_ _
  have l2:=Box.loadM ((X2.drew.setRow cs1).otherRow (show w.heap.size+1+1≠w.heap.size+1+1+1 by omega) cs2) hs1
  have l3:=Box.loadT ((X3.drew.otherRow (show w.heap.size+1+1+1≠w.heap.size+1+1 by omega) cs1).setRow cs2) hs2
  have K9:KeptB (fun q=>q<w1.heap.size) wc ((wc.drew.setRow (w.heap.size+1+1) cs1).setRow (w.heap.size+1+1+1) cs2):=((KeptB.refl _ _).drew.setRow (.inl (by omega)) _).setRow (.inl (by omega)) _
  have B9:Hid (Below w.heap.size w wc):=B2.out
  have l1:w.heap.size≤w1.heap.size:=by omega
  go_wp2
  refine bodyPost_ret (v:=.tuple #[.agg cs1,.agg cs2,J 0]) (by simp[results,Tryz.results11,asAddr,l2,l3]) rfl ⟨cs1,cs2,cK H0.out.symm,g1.kept K9 g3 (fun _ h=>h),g2.kept K9 g4 (fun _ h=>h),g3.less (fun q hq=>by omega),g4.less (fun q hq=>by omega),?_⟩
  (repeat (first|with_reducible exact B9.out|with_reducible refine Below.drew ?_|(with_reducible refine aG ?_ ?_ _;(focus omega))))
theorem aCi {m:Mc}{x:Hp}{cs ch:Array Value}{w:World}(hm:IsM w m cs)(hx:IsH w x ch):Calls Tryz.prog 11 #[.agg cs,.agg ch] w fun e w'=>DoC m x w e w':=by
 by_cases h:chkM m=0
 ·exact mDo_ok hm hx h
 ·exact aCh hm hx h
end Go.Proofs.YthlhocneggcekaaGreat
