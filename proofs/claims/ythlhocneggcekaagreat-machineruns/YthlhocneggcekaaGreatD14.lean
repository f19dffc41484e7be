/-
  Laid together: Touch1, WhileOn.
-/
import Derived.Test.YthlhocneggcekaaGreatD12
import Derived.Test.YthlhocneggcekaaGreatD13
import Derived.Deep.RegionLaw
namespace Go.Proofs.YthlhocneggcekaaGreat
open Go.RowKit
attribute [local go_sem ↓] Go.wp_at_zero Go.wp_at_succ
abbrev MayT (N g:Nat)(vd vt:Value):Nat→Prop:=fun q=>q=g∨q=N+1+1∨vd.ownBlock=some q∨vt.ownBlock=some q
def RelT (W:World)(N g base:Nat)(d:Int)(fw:Bool)(ds:List Int)(o:Nat)(k:Int)(dn:Bool)(fl:Int)(vd vt:Value)(x:Nat)(s:St)(j:Nat)(wx:World):Prop:=
 ∃zj datj tchj vd' vt',wds d fw ds o k j x s=⟨zj,s.b,datj,tchj⟩∧zj.length=512∧datj.length≤100+j∧tchj.length≤100+j∧Box wx g 3 (intCells zj)∧OwnI wx base vd' datj∧OwnT wx base vt' tchj∧Box wx (N+1+1) 40 #[.bool dn,vd',J fl,vt']∧
  (∀q,vd'.ownBlock=some q→vd.ownBlock=some q∨W.heap.size≤q)∧(∀q,vt'.ownBlock=some q→vt.ownBlock=some q∨W.heap.size≤q)∧KeptB (MayT N g vd vt) W wx
def RelM (W:World)(N g base:Nat)(dn:Bool)(fl:Int)(vd vt vt':Value)(zn datn:List Int)(tchj:List Tc)(wx:World):Prop:=
 ∃vd',Box wx g 3 (intCells zn)∧OwnI wx base vd' datn∧OwnT wx base vt' tchj∧Box wx (N+1+1) 40 #[.bool dn,vd',J fl,vt']∧(∀q,vd'.ownBlock=some q→vd.ownBlock=some q∨W.heap.size≤q)∧KeptB (MayT N g vd vt) W wx
theorem wrapT (n:Int)(h0:0≤n)(h1:n<2 ^ 63):IntKind.i64.wrap n=n:=by rw[IntKind.wrap_i64];omega
theorem gJ {x p:Nat}{w:World}(hx:x<1000)(hp:(x/8+1)*8=p):Calls Tryz.prog 106 #[J x] w fun e w'=>e=.returned (J p)∧w'=w:=by
 subst hp;exact pH x w hx
theorem Sl.open {w:World}{a:Option Addr}{n cap:Nat}{zs:List Int}(h:Sl w (.slice a n cap) zs){i:Nat}(hi:i<zs.length):∃b o,a=some ⟨b,o,none⟩∧b<w.heap.size∧w.cell? ⟨b,o+i,none⟩=some (J (nth zs i)):=by
 obtain⟨a',c',e,_,h⟩:=h
 simp only[Value.slice.injEq] at e
 obtain⟨rfl,-,-⟩:=e
 rcases h with rfl|⟨b,o,rfl,hb,hc⟩
 ·exact absurd hi (Nat.not_lt_zero _)
 ·exact⟨b,o,rfl,hb,hc i hi⟩
theorem cG {w:World}{a:Addr}{u:Value}{o:Obj}(h:w.cell? a=some u):(w.alloc o).cell? a=some u:=by
 rw[World.cell?_alloc_some _ _ _ (by rw[h];rfl)];exact h
theorem Box.grownT {w w':World}{n:Nat}{t:TypeId}{cs:Array Value}{row:Option Nat}(h:Box w n t cs)(hg:w.grownBy w' row)(hn:some n≠row):Box w' n t cs:=(hg.block n h.lt hn).trans h
theorem OwnI.setFar {w:World}{base:Nat}{v:Value}{l:List Int}(h:OwnI w base v l){p:Addr}(hp:v.ownBlock≠some p.block)(u:Value):OwnI (w.setCell p u) base v l:=
 h.keep fun k hk=>heap_setCell_other w p k u (fun e=>hp (by rw[hk,e]))
theorem OwnT.setFar {w:World}{base:Nat}{v:Value}{l:List Tc}(h:OwnT w base v l){p:Addr}(hp:v.ownBlock≠some p.block)(u:Value):OwnT (w.setCell p u) base v l:=
 h.keep fun k hk=>heap_setCell_other w p k u (fun e=>hp (by rw[hk,e]))
theorem OwnI.grown {w w':World}{base:Nat}{v:Value}{l:List Int}{row:Option Nat}(h:OwnI w base v l)(hg:w.grownBy w' row)(hn:∀q,v.ownBlock=some q→row≠some q):OwnI w' base v l:=
 h.keep fun k hk=>hg.block k (h.lt k hk) (fun e=>hn k hk e.symm)
theorem OwnT.grown {w w':World}{base:Nat}{v:Value}{l:List Tc}{row:Option Nat}(h:OwnT w base v l)(hg:w.grownBy w' row)(hn:∀q,row=some q→v.ownBlock≠some q):OwnT w' base v l:=
 h.keep fun k hk=>hg.block k (h.lt k hk) (fun e=>hn k e.symm hk)
set_option maxRecDepth 10000 in
set_option maxHeartbeats 2000000 in
theorem mU (g:Nat)(zs:List Int)(d:Int)(o cnt:Nat)(fw:Bool)(u:Value)(ds:List Int)(x:Nat)(k:Int)(dn:Bool)(vd:Value)(dat:List Int)(fl:Int)(vt:Value)(tch:List Tc)(base:Nat)(b:Br)(w:World)
  (hg:Box w g 3 (intCells zs)) (hz:zs.length=512) (hgb:g<base) (hbs:base≤w.heap.size) (hd:Sl w u ds) (hdb:ds=[]∨∀q,u.ownBlock=some q→q<base∧q≠g) (hod:OwnI w base vd dat) (hot:OwnT w base vt tch) (hk:0≤k∧k≤63) (hoc:o+cnt≤512) (hox:o≤x) (hxc:x<o+cnt) (hds:fw=true→ds.length=cnt) (hdl:dat.length≤100) (htl:tch.length≤100):
  Calls Tryz.prog 108 #[.agg #[.slice (some ⟨g,0,none⟩) 512 512],.agg #[J d,J o,J cnt,.bool fw,u],J x,J k,.agg #[.bool dn,vd,J fl,vt]] w fun e w'=>
   ∃zn datn tchn vd' vt',e=.returned (.agg #[.bool dn,vd',J fl,vt'])∧wds d fw ds o k (min (o+cnt-x) (8-x%8)) x ⟨zs,b,dat,tch⟩=⟨zn,b,datn,tchn⟩∧Box w' g 3 (intCells zn)∧OwnI w' base vd' datn∧OwnT w' base vt' tchn∧
    (∀q,vd'.ownBlock=some q→vd.ownBlock=some q∨w.heap.size≤q)∧(∀q,vt'.ownBlock=some q→vt.ownBlock=some q∨w.heap.size≤q)∧KeptB (fun q=>q=g∨vd.ownBlock=some q∨vt.ownBlock=some q) w w':=by
 have HOI:Hid (OwnI w base vd dat):=hod
 have HOT:Hid (OwnT w base vt tch):=hot
 have HD:Hid (Sl w u ds):=hd
 have HDB:Hid (ds=[]∨∀q,u.ownBlock=some q→q<base∧q≠g):=hdb
 have HDS:Hid (fw=true→ds.length=cnt):=hds
 have HZ:Hid (zs.length=512):=hz
 have HXG:Hid (Box w g 3 (intCells zs)):=hg
 have HDL:Hid (dat.length≤100∧tch.length≤100):=⟨hdl,htl⟩
 obtain⟨da,dc,rfl⟩:=hod.shape
 obtain⟨ta,tc,rfl⟩:=hot.shape
 obtain⟨ua,uc,rfl⟩:=hd.shape
 obtain⟨k0,k1⟩:=hk
 clear hod hot hd hdb hds hz hg hdl htl
 go_enter Tryz.func108,Tryz.ntmps108
 go_wp2_with fail
 have X0:=(((Box.newAt (n:=w.heap.size) rfl 24 #[.slice (some ⟨g,0,none⟩) 512 512]).past (.cells #[J d,J o,J cnt,.bool fw,.slice ua ds.length uc] 35)).past (.cells #[.bool dn,.slice da dat.length dc,J fl,.slice ta tch.length tc] 40)).past (.cells zT 40)
 have X1:=((Box.newAt (w:=w.alloc (.cells #[.slice (some ⟨g,0,none⟩) 512 512] 24)) (n:=w.heap.size+1) (by simp) 35 #[J d,J o,J cnt,.bool fw,.slice ua ds.length uc]).past (.cells #[.bool dn,.slice da dat.length dc,J fl,.slice ta tch.length tc] 40)).past (.cells zT 40)
 have X2:=(Box.newAt (w:=(w.alloc (.cells #[.slice (some ⟨g,0,none⟩) 512 512] 24)).alloc (.cells #[J d,J o,J cnt,.bool fw,.slice ua ds.length uc] 35)) (n:=w.heap.size+1+1) (by simp) 40 #[.bool dn,.slice da dat.length dc,J fl,.slice ta tch.length tc]).past (.cells zT 40)
 have X3:=(Box.newAt (w:=((w.alloc (.cells #[.slice (some ⟨g,0,none⟩) 512 512] 24)).alloc (.cells #[J d,J o,J cnt,.bool fw,.slice ua ds.length uc] 35)).alloc (.cells #[.bool dn,.slice da dat.length dc,J fl,.slice ta tch.length tc] 40)) (n:=w.heap.size+1+1+1) (by simp) 40 zT)
 have B0:Hid (Below w.heap.size w ((((w.alloc (.cells #[.slice (some ⟨g,0,none⟩) 512 512] 24)).alloc (.cells #[J d,J o,J cnt,.bool fw,.slice ua ds.length uc] 35)).alloc (.cells #[.bool dn,.slice da dat.length dc,J fl,.slice ta tch.length tc] 40)).alloc (.cells zT 40))):=aA (aA (aA (aA (Below.refl w.heap.size w) _) _) _) _
 generalize ((((w.alloc (.cells #[.slice (some ⟨g,0,none⟩) 512 512] 24)).alloc (.cells #[J d,J o,J cnt,.bool fw,.slice ua ds.length uc] 35)).alloc (.cells #[.bool dn,.slice da dat.length dc,J fl,.slice ta tch.length tc] 40)).alloc (.cells zT 40))=W0 at *
 obtain⟨E,hE⟩:∃E,E=x+min (o+cnt-x) (8-x%8):=⟨_,rfl⟩
 obtain⟨e1,he1⟩:∃e1,e1=o+cnt:=⟨_,rfl⟩
 obtain⟨p1,hp1⟩:∃p1,(x/8+1)*8=p1:=⟨_,rfl⟩
 have HE:Hid (E=x+min (o+cnt-x) (8-x%8)):=hE
 have HP1:Hid ((x/8+1)*8=p1):=hp1
 have hx5:x<512:=by omega
 have hEle:E≤512:=by omega
 have hEx:x<E:=by omega
 have hEc:E≤o+cnt:=by omega
 have hEm:(e1≤p1∧E=e1)∨(¬e1≤p1∧E=p1):=by omega
 have qs:IntKind.i64.wrap ((o:Int)+(cnt:Int))=(e1:Int):=by rw[wrapT _ (by omega) (by omega)];omega
 have he5:e1≤512:=by omega
 have hp5:p1≤520:=by omega
 clear hE hp1 he1
 obtain⟨c0,c1,c2,c3,c4⟩:=X1.blk.five
 have s0:=X1.lt
 go_cut [11] from 13 to 20 (fun s wx=>s=J E∧Below W0.heap.size W0 wx)
 case first=>
  clear X0 X2 X3 HXG HOI HOT HD HDB B0
  have hb:∀r:Int,r=(E:Int)→True:=fun _ _=>trivial
  rcases hEm with ⟨hm,rfl⟩|⟨hm,rfl⟩
  ·have hm1:(E:Int)≤p1:=by omega
   go_region_held3 (fun w'=>w'.cell? ⟨w.heap.size+1,0,none⟩=some (J d)∧w'.cell? ⟨w.heap.size+1,1,none⟩=some (J o)∧w'.cell? ⟨w.heap.size+1,2,none⟩=some (J cnt)∧w'.cell? ⟨w.heap.size+1,3,none⟩=some (.bool fw)∧w'.cell? ⟨w.heap.size+1,4,none⟩=some (.slice ua ds.length uc)∧Below W0.heap.size W0 w')
    (with_reducible refine keep5 (by assumption) (by assumption) (by assumption) (by assumption) (by assumption) (by assumption) ?_;(repeat (first|with_reducible assumption|(with_reducible (refine limb5 (?_:_∧_∧_∧_∧_∧_);assumption))|with_reducible exact Below.refl _ _|with_reducible refine Below.drew ?_|with_reducible refine aH ?_ _|with_reducible refine aA ?_ _|with_reducible refine Below.trans ?_ (by assumption))))
    (first|(go_at_call 106;refine (gJ (x:=x) (by omega) HP1.out).mono ?_;rintro e w2 ⟨rfl,rfl⟩))
   all_goals
    rename_i hH
    have hB:=limb5 hH
    clear hH
    go_wp2_with fail
    go_meet
    exact⟨rfl,hB⟩
  ·have hm1:¬(e1:Int)≤E:=by omega
   have hm2:(E:Int)<e1:=by omega
   go_region_held3 (fun w'=>w'.cell? ⟨w.heap.size+1,0,none⟩=some (J d)∧w'.cell? ⟨w.heap.size+1,1,none⟩=some (J o)∧w'.cell? ⟨w.heap.size+1,2,none⟩=some (J cnt)∧w'.cell? ⟨w.heap.size+1,3,none⟩=some (.bool fw)∧w'.cell? ⟨w.heap.size+1,4,none⟩=some (.slice ua ds.length uc)∧Below W0.heap.size W0 w')
    (with_reducible refine keep5 (by assumption) (by assumption) (by assumption) (by assumption) (by assumption) (by assumption) ?_;(repeat (first|with_reducible assumption|(with_reducible (refine limb5 (?_:_∧_∧_∧_∧_∧_);assumption))|with_reducible exact Below.refl _ _|with_reducible refine Below.drew ?_|with_reducible refine aH ?_ _|with_reducible refine aA ?_ _|with_reducible refine Below.trans ?_ (by assumption))))
    (first|(go_at_call 106;refine (gJ (x:=x) (by omega) HP1.out).mono ?_;rintro e w2 ⟨rfl,rfl⟩))
   all_goals
    rename_i hH
    have hB:=limb5 hH
    clear hH
    go_wp2_with fail
    go_meet
    exact⟨rfl,hB⟩
 case rest=>
  obtain⟨rfl,bc⟩:=hcut
  obtain⟨W,rfl⟩:∃W,W=wc:=⟨wc,rfl⟩
  have BW:Hid (Below w.heap.size w W):=aB B0.out bc
  replace X0:=X0.keep bc
  replace X1:=X1.keep bc
  replace X2:=X2.keep bc
  replace X3:=X3.keep bc
  have hNW:w.heap.size+1+1+1<W.heap.size:=X3.lt
  have HL1:Hid (∀q,(Value.slice da dat.length dc).ownBlock=some q→q<w.heap.size):=HOI.out.lt
  have HL2:Hid (∀q,(Value.slice ta tch.length tc).ownBlock=some q→q<w.heap.size):=HOT.out.lt
  have HM0:Hid (∀n,w.heap.size≤n→n≠w.heap.size+1+1→¬MayT w.heap.size g (.slice da dat.length dc) (.slice ta tch.length tc) n):=by
   rintro n hn hn2 (h|h|h|h)
   ·omega
   ·exact hn2 h
   ·have:=HL1.out n h;omega
   ·have:=HL2.out n h;omega
  have HR0:Hid (RelT W w.heap.size g base d fw ds o k dn fl (.slice da dat.length dc) (.slice ta tch.length tc) x ⟨zs,b,dat,tch⟩ 0 W):=
   ⟨zs,dat,tch,_,_,rfl,HZ.out,by have:=HDL.out;omega,by have:=HDL.out;omega,HXG.out.keep BW.out,HOI.out.keep fun q hq=>BW.out.block q (HOI.out.lt q hq),HOT.out.keep fun q hq=>BW.out.block q (HOT.out.lt q hq),X2,fun q h=>.inl h,fun q h=>.inl h,KeptB.refl _ _⟩
  have HSD:Hid (Sl W (.slice ua ds.length uc) ds):=HD.out.keep BW.out
  have HUB:Hid (ds=[]∨∀q,(Value.slice ua ds.length uc).ownBlock=some q→¬MayT w.heap.size g (.slice da dat.length dc) (.slice ta tch.length tc) q):=by
   rcases HDB.out with h0|hdb
   ·exact .inl h0
   refine .inr ?_
   rintro q hq (h|h|h|h)
   ·exact (hdb q hq).2 h
   ·have:=(hdb q hq).1;omega
   ·have:=(hdb q hq).1;have:=HOI.out.base q h;omega
   ·have:=(hdb q hq).1;have:=HOT.out.base q h;omega
  clear bc B0 c0 c1 c2 c3 c4 s0 HXG HOI HOT HD HDB HZ HDL X2 hEm qs he5 hp5 HP1 e1 p1
  obtain⟨JJ,hJ⟩:∃JJ,x+JJ=E:=⟨E-x,by omega⟩
  have HJ:Hid (x+JJ=E):=hJ
  clear hJ
  go_wp2
  go_loopw [2,12] (fun s2 _ wx=>∃j:Nat,j≤JJ∧s2=J ((x+j:Nat):Int)∧RelT W w.heap.size g base d fw ds o k dn fl (.slice da dat.length dc) (.slice ta tch.length tc) x ⟨zs,b,dat,tch⟩ j wx) (fun s2 _ _=>E-(intOf s2).toNat)
  case atStart=>exact⟨0,Nat.zero_le _,rfl,HR0.out⟩
  case round=>
   clear HR0
   obtain⟨j,hj,rfl,zj,datj,tchj,vd',vt',hWj,hzl,hdl,htl,XG,hOI,hOT,XT,hrd,hrt,hKB⟩:=hrel
   obtain⟨da',dc',rfl⟩:=hOI.shape
   obtain⟨ta',tc',rfl⟩:=hOT.shape
   obtain⟨y,hy⟩:∃y,x+j=y:=⟨_,rfl⟩
   rw[hy]
   have HY:Hid (x+j=y):=hy
   have HWj:Hid (_=_):=hWj
   have HOI:Hid (OwnI wr base _ datj):=hOI
   have HOT:Hid (OwnT wr base _ tchj):=hOT
   have HRD:Hid (∀q,(Value.slice da' datj.length dc').ownBlock=some q→(Value.slice da dat.length dc).ownBlock=some q∨W.heap.size≤q):=hrd
   have HRT:Hid (∀q,(Value.slice ta' tchj.length tc').ownBlock=some q→(Value.slice ta tch.length tc).ownBlock=some q∨W.heap.size≤q):=hrt
   have HKB:Hid (KeptB _ W wr):=hKB
   have HXG:Hid (Box wr g 3 (intCells zj)):=XG
   have hyE:y≤E:=by have:=HJ.out;omega
   have hj8:j≤8:=by have:=HJ.out;have:=HE.out;omega
   clear hy hWj hOI hOT hrd hrt hKB
   have Y0:=X0.kept HKB.out (HM0.out _ (Nat.le_refl _) (by omega))
   have Y1:=X1.kept HKB.out (HM0.out _ (by omega) (by omega))
   by_cases hlt:y<E
   ·have hlt1:(y:Int)<E:=by omega
    obtain⟨p,hp⟩:∃p:Nat,k*8+(y:Int)%8=p:=⟨(k*8+(y:Int)%8).toNat,by omega⟩
    have hp5:p<512:=by omega
    have HP:Hid (plc k y=(p:Int)):=by show _=_;unfold plc;omega
    obtain⟨c0,c1,c2,c3,c4⟩:=Y1.blk.five
    have s0:=Y1.lt
    obtain⟨i,hi⟩:∃i,i=y-o:=⟨_,rfl⟩
    have HI:Hid (y-o=i):=hi.symm
    have hoy:o≤y:=by have:=HY.out;omega
    have hic:i<cnt:=by omega
    have qi:(y:Int)-(o:Int)=(i:Int):=by omega
    have qw:IntKind.i64.wrap ((y:Int)-(o:Int))=(i:Int):=by rw[wrapT _ (by omega) (by omega)];omega
    have qi':IntKind.i64.wrap (i:Int)=(i:Int):=wrapT _ (by omega) (by omega)
    clear hi
    go_upto_if 32 with fail
    go_cut [] from 31 to 54 (fun wx=>RelM W w.heap.size g base dn fl (.slice da dat.length dc) (.slice ta tch.length tc) (.slice ta' tchj.length tc') (wdM fw ds o k y zj) (if fw=true then datj else datj++[nth zj p]) tchj wx)
    case first=>
     obtain⟨t0,t1,t2,t3,f0,f1,f2,f3,st⟩:=XT.four
     obtain⟨q0,-,sq⟩:=Y0.one
     have gp:wr.cell? ⟨g,p,none⟩=some (J (nth zj p)):=by rw[HXG.out.cell,cP (by omega)]
     have HNT:Hid (some (w.heap.size+1+1)≠(Value.slice da' datj.length dc').ownBlock):=fun e=>HOI.out.neBox XT (by decide) e.symm
     have HN0:Hid (some w.heap.size≠(Value.slice da' datj.length dc').ownBlock):=fun e=>HOI.out.neBox Y0 (by decide) e.symm
     have HNG:Hid (some g≠(Value.slice da' datj.length dc').ownBlock):=fun e=>by have:=HOI.out.base g e.symm;omega
     have hsz:base≤wr.heap.size:=by have:=HKB.out.size;omega
     have hpp0:(0:Int)≤(p:Int):=by omega
     have hpp1:(p:Int)<512:=by omega
     cases fw
     ·go_wp2_with fail
      refine gI (by kernel_rfl) 10 (fun w'=>w'.cell? ⟨w.heap.size+1+1,1,none⟩=some (.slice da' datj.length dc')∧w'.cell? ⟨w.heap.size,0,none⟩=some (.slice (some ⟨g,0,none⟩) 512 512)∧w'.cell? ⟨g,p,none⟩=some (J (nth zj p))) ⟨t1,q0,gp⟩ (fun hHeld=>?_)
      refine tkU 0 rfl ?_
      refine tkU 1 rfl ?_
      refine tkU 2 rfl ?_
      refine tkU 3 rfl ?_
      refine tkU 4 rfl ?_
      refine tkU 5 rfl ?_
      refine tkU 6 rfl ?_
      refine dT (i:=7) (by kernel_rfl) (by rfl) (fun K hK=>?_)
      go_simp
      refine hK.out _ _ (fun _=>⟨cG hHeld.1,cG hHeld.2.1,cG hHeld.2.2⟩) ?_
      clear hK K
      refine dT (i:=8) (by kernel_rfl) (by rfl) (fun K hK=>?_)
      refine dB rfl (.tmp 46) (.tmp 52) rfl base (.slice da' datj.length dc') (.slice (some ⟨_,0,none⟩) 1 1) datj [nth zj p] rfl rfl ?_ ?_ ?_ ?_ (by simp) ?_
      ·exact HOI.out.drew.alloc _
      ·exact rF (by simp) _ _
      ·simp;omega
      ·simp;omega
      intro g4 c4 w7 hown hgr hbel hat
      have hl7:(datj++[nth zj p]).length=datj.length+1:=by simp
      rw[hl7] at hown
      clear hl7
      have ZT:=(XT.drew.past (.cells #[J (nth zj p)] 3)).grownT hgr HNT.out
      have Z0:=(Y0.drew.past (.cells #[J (nth zj p)] 3)).grownT hgr HN0.out
      have ZG:Box w7 g 3 (intCells zj):=(HXG.out.drew.past (.cells #[J (nth zj p)] 3)).grownT hgr HNG.out
      have HO7:Hid (OwnI w7 base _ (datj++[nth zj p])):=hown
      have HT7:Hid (OwnT w7 base _ tchj):=(HOT.out.drew.alloc (.cells #[J (nth zj p)] 3)).grown hgr (eU HOI.out HOT.out)
      have HK7:Hid (KeptB _ W w7):=(HKB.out.drew.alloc (.cells #[J (nth zj p)] 3)).grown hgr (fun q hq=>(HRD.out q hq).imp (fun h=>.inr (.inr (.inl h))) id)
      have HAT:Hid (∀q,(Value.slice (some ⟨g4,0,none⟩) (datj.length+1) c4).ownBlock=some q→(Value.slice da dat.length dc).ownBlock=some q∨W.heap.size≤q):=by
       intro q hq
       simp[Value.ownBlock] at hq
       subst hq
       rcases hat with h|h
       ·exact HRD.out _ h
       ·right;have:=HKB.out.size;simp at h;omega
      have hH7:w7.cell? ⟨w.heap.size+1+1,1,none⟩=some (.slice da' datj.length dc')∧w7.cell? ⟨w.heap.size,0,none⟩=some (.slice (some ⟨g,0,none⟩) 512 512)∧w7.cell? ⟨g,p,none⟩=some (J (nth zj p)):=⟨ZT.cell 1,Z0.cell 0,by rw[ZG.cell,cP (by omega)]⟩
      refine hK.out _ _ (fun _=>hH7) ?_
      clear hK K hown hgr hbel hat
      refine tkU 9 rfl ?_
      obtain⟨i0,i1,i2,i3,j0,j1,j2,j3,l3⟩:=ZT.four
      refine dT (i:=10) (by kernel_rfl) (by rfl) (fun K hK=>?_)
      go_simp
      refine hK.out _ _ (fun h=>absurd rfl h) ?_
      clear hK K
      refine kL (by kernel_rfl) ?_ _
      have HREL:Hid (RelM W w.heap.size g base dn fl (.slice da dat.length dc) (.slice ta tch.length tc) (.slice ta' tchj.length tc') (wdM false ds o k y zj) (if false=true then datj else datj++[nth zj p]) tchj (w7.setCell ⟨w.heap.size+1+1,1,none⟩ (.slice (some ⟨g4,0,none⟩) (datj.length+1) c4))):=
       ⟨.slice (some ⟨g4,0,none⟩) (datj.length+1) c4,ZG.other (p:=⟨w.heap.size+1+1,1,none⟩) (by dsimp only;omega) _,HO7.out.setFar (p:=⟨w.heap.size+1+1,1,none⟩) (HO7.out.neBox ZT (by decide)) _,HT7.out.setFar (p:=⟨w.heap.size+1+1,1,none⟩) (HT7.out.neBox ZT (by decide)) _,ZT.set 1 _,HAT.out,HK7.out.setCell (.inl (.inr (.inl rfl))) _⟩
      clear i0 i1 i2 i3 j0 j1 j2 j3 l3
      go_wp2_with fail
      go_meet
      exact HREL.out
     ·have hdl2:ds.length=cnt:=HDS.out rfl
      have hub:=HUB.out.resolve_left (fun e=>by rw[e] at hdl2;simp at hdl2;omega)
      obtain⟨bd,od,rfl,hbd,gd⟩:=(HSD.out.kept HKB.out hub).open (i:=i) (by omega)
      have hi1:(i:Int)<(ds.length:Int):=by omega
      clear hdl2
      have hgN:¬g=w.heap.size:=by omega
      have hgN1:¬g=w.heap.size+1:=by omega
      have hgD:¬g=bd:=fun e=>hub bd (by simp[Value.ownBlock]) (.inl e.symm)
      clear hub
      have hi0:(0:Int)≤(i:Int):=by omega
      have hpp0:(0:Int)≤(p:Int):=by omega
      have hpp1:(p:Int)<512:=by omega
      have gf:wr.frozen? ⟨g,p,none⟩=false:=HXG.out.frozen p
      have HREL:Hid (RelM W w.heap.size g base dn fl (.slice da dat.length dc) (.slice ta tch.length tc) (.slice ta' tchj.length tc') (wdM true ds o k y zj) (if true=true then datj else datj++[nth zj p]) tchj (wr.drew.setCell ⟨g,p,none⟩ (J (nth ds i)))):=by
       have e1:wdM true ds o k y zj=zj.set p (nth ds i):=by rw[wdM,if_pos rfl,HP.out,HI.out];simp
       refine⟨.slice da' datj.length dc',?_,HOI.out.drew.setFar (p:=⟨g,p,none⟩) (fun e=>by have:=HOI.out.base g e;omega) _,HOT.out.drew.setFar (p:=⟨g,p,none⟩) (fun e=>by have:=HOT.out.base g e;omega) _,XT.drew.other (p:=⟨g,p,none⟩) (by dsimp only;omega) _,HRD.out,HKB.out.drew.setCell (.inl (.inl rfl)) _⟩
       rw[e1];exact aAf HXG.out.drew p _
      clear XT t0 t1 t2 t3 f0 f1 f2 f3 st Y0 Y1 HXG XG
      go_wp2_with fail
      go_region_held3 (fun w'=>w'.cell? ⟨w.heap.size,0,none⟩=some (.slice (some ⟨g,0,none⟩) 512 512)∧w'.cell? ⟨w.heap.size+1,1,none⟩=some (J o)∧w'.cell? ⟨w.heap.size+1,4,none⟩=some (.slice (some ⟨bd,od,none⟩) ds.length uc)∧w'.cell? ⟨bd,od+i,none⟩=some (J (nth ds i))) (go_keep) (fail)
      go_wp2_with fail
      go_meet
      exact HREL.out
    case rest=>
     obtain⟨vd6,XG6,hOI6,hOT6,XT6,hrd6,hKB6⟩:=hcut
     obtain⟨wB,rfl⟩:∃wB,wB=wc:=⟨wc,rfl⟩
     obtain⟨zn,hzn⟩:∃zn,wdM fw ds o k y zj=zn:=⟨_,rfl⟩
     obtain⟨datn,hdn⟩:∃datn,(if fw=true then datj else datj++[nth zj p])=datn:=⟨_,rfl⟩
     rw[hzn] at XG6
     rw[hdn] at hOI6
     obtain⟨da6,dc6,rfl⟩:=hOI6.shape
     obtain⟨Z,hZ⟩:∃Z,nth zn p=Z:=⟨_,rfl⟩
     have HZZ:Hid (nth zn p=Z):=hZ
     have HZN:Hid (zn.length=512):=by show _=_;rw[←hzn];unfold wdM;split <;> simp[hzl]
     have HDN:Hid (datn.length≤100+(j+1)):=by show _≤_;rw[←hdn];split <;> (first|omega|(simp;omega))
     have HWN:Hid (wds d fw ds o k (j+1) x ⟨zs,b,dat,tch⟩=⟨zn,b,datn,tchj++[((d,(y:Int),(p:Int),fw,Z):Tc)]⟩):=by
      show _=_
      rw[qP,HWj.out,HY.out,wd]
      simp only[HP.out,Int.toNat_natCast,hzn,hdn,hZ]
     have HXG:Hid (Box wB g 3 (intCells zn)):=XG6
     have HOI:Hid (OwnI wB base _ datn):=hOI6
     have HOT:Hid (OwnT wB base _ tchj):=hOT6
     have HRD6:Hid (∀q,(Value.slice da6 datn.length dc6).ownBlock=some q→(Value.slice da dat.length dc).ownBlock=some q∨W.heap.size≤q):=hrd6
     have HKB6:Hid (KeptB _ W wB):=hKB6
     have XT:=XT6
     have Y0:=X0.kept HKB6.out (HM0.out _ (Nat.le_refl _) (by omega))
     have Y1:=X1.kept HKB6.out (HM0.out _ (by omega) (by omega))
     have hzl2:zn.length=512:=HZN.out
     clear hzn hdn hZ XG6 hOI6 hOT6 XT6 hrd6 hKB6 c0 c1 c2 c3 c4 s0 HKB XG hzl
     obtain⟨t0,t1,t2,t3,f0,f1,f2,f3,st⟩:=XT.four
     obtain⟨q0,-,sq⟩:=Y0.one
     obtain⟨c0,c1,c2,c3,c4⟩:=Y1.blk.five
     have s0:=Y1.lt
     have gp:wB.cell? ⟨g,p,none⟩=some (J Z):=by rw[HXG.out.cell,cP (by omega),HZZ.out]
     have HNT:Hid (some (w.heap.size+1+1)≠(Value.slice ta' tchj.length tc').ownBlock):=fun e=>HOT.out.neBox XT (by decide) e.symm
     have HN0:Hid (some w.heap.size≠(Value.slice ta' tchj.length tc').ownBlock):=fun e=>HOT.out.neBox Y0 (by decide) e.symm
     have HN1:Hid (some (w.heap.size+1)≠(Value.slice ta' tchj.length tc').ownBlock):=fun e=>HOT.out.neBox Y1 (by decide) e.symm
     have HNG:Hid (some g≠(Value.slice ta' tchj.length tc').ownBlock):=fun e=>by have:=HOT.out.base g e.symm;omega
     have hsz:base≤wB.heap.size:=by have:=HKB6.out.size;omega
     have hpp0:(0:Int)≤(p:Int):=by omega
     have hpp1:(p:Int)<512:=by omega
     go_wp2_with fail
     refine gI (by kernel_rfl) 17 (fun w'=>w'.cell? ⟨w.heap.size+1+1,3,none⟩=some (.slice ta' tchj.length tc')∧w'.cell? ⟨w.heap.size+1,0,none⟩=some (J d)∧w'.cell? ⟨w.heap.size+1,3,none⟩=some (.bool fw)∧w'.cell? ⟨w.heap.size,0,none⟩=some (.slice (some ⟨g,0,none⟩) 512 512)∧w'.cell? ⟨g,p,none⟩=some (J Z)) ⟨t3,c0,c3,q0,gp⟩ (fun hHeld=>?_)
     refine tkU 0 rfl ?_
     refine tkU 1 rfl ?_
     refine tkU 2 rfl ?_
     refine tkU 3 rfl ?_
     refine tkU 4 rfl ?_
     refine tkU 5 rfl ?_
     refine tkU 6 rfl ?_
     refine tkU 7 rfl ?_
     refine tkU 8 rfl ?_
     refine tkU 9 rfl ?_
     refine tkU 10 rfl ?_
     refine tkU 11 rfl ?_
     refine tkU 12 rfl ?_
     refine tkU 13 rfl ?_
     refine dT (i:=14) (by kernel_rfl) (by rfl) (fun K hK=>?_)
     go_simp
     refine hK.out _ _ (fun _=>⟨cG hHeld.1,cG hHeld.2.1,cG hHeld.2.2.1,cG hHeld.2.2.2.1,cG hHeld.2.2.2.2⟩) ?_
     clear hK K
     refine dT (i:=15) (by kernel_rfl) (by rfl) (fun K hK=>?_)
     refine mT rfl (.tmp 56) (.tmp 69) rfl base (.slice ta' tchj.length tc') (.slice (some ⟨_,0,none⟩) 1 1) tchj [(d,(y:Int),(p:Int),fw,Z)] rfl rfl ?_ ?_ ?_ ?_ (.inr (by simp)) ?_
     ·exact HOT.out.drew.alloc _
     ·exact mD (by simp) _ _ _ _ _ _
     ·simp;omega
     ·simp;omega
     intro g4 c4 w7 hown hgr hbel hat
     have hl7:(tchj++[((d,(y:Int),(p:Int),fw,Z):Tc)]).length=tchj.length+1:=by simp
     rw[hl7] at hown
     clear hl7
     have ZT:=(XT.drew.past (.cells #[J d,J y,J p,.bool fw,J Z] 72)).grownT hgr HNT.out
     have Z0:=(Y0.drew.past (.cells #[J d,J y,J p,.bool fw,J Z] 72)).grownT hgr HN0.out
     have Z1:=(Y1.drew.past (.cells #[J d,J y,J p,.bool fw,J Z] 72)).grownT hgr HN1.out
     have ZG:Box w7 g 3 (intCells zn):=(HXG.out.drew.past (.cells #[J d,J y,J p,.bool fw,J Z] 72)).grownT hgr HNG.out
     have HO7:Hid (OwnT w7 base _ (tchj++[(d,(y:Int),(p:Int),fw,Z)])):=hown
     have HI7:Hid (OwnI w7 base _ datn):=(HOI.out.drew.alloc (.cells #[J d,J y,J p,.bool fw,J Z] 72)).grown hgr (fun q h e=>eU HOI.out HOT.out q h e)
     have HK7:Hid (KeptB _ W w7):=(HKB6.out.drew.alloc (.cells #[J d,J y,J p,.bool fw,J Z] 72)).grown hgr (fun q hq=>(HRT.out q hq).imp (fun h=>.inr (.inr (.inr h))) id)
     have HAT:Hid (∀q,(Value.slice (some ⟨g4,0,none⟩) (tchj.length+1) c4).ownBlock=some q→(Value.slice ta tch.length tc).ownBlock=some q∨W.heap.size≤q):=by
      intro q hq
      simp[Value.ownBlock] at hq
      subst hq
      rcases hat with h|h
      ·exact HRT.out _ h
      ·right;have:=HKB6.out.size;simp at h;omega
     have hH7:w7.cell? ⟨w.heap.size+1+1,3,none⟩=some (.slice ta' tchj.length tc')∧w7.cell? ⟨w.heap.size+1,0,none⟩=some (J d)∧w7.cell? ⟨w.heap.size+1,3,none⟩=some (.bool fw)∧w7.cell? ⟨w.heap.size,0,none⟩=some (.slice (some ⟨g,0,none⟩) 512 512)∧w7.cell? ⟨g,p,none⟩=some (J Z):=⟨ZT.cell 3,Z1.cell 0,Z1.cell 3,Z0.cell 0,by rw[ZG.cell,cP (by omega),HZZ.out]⟩
     refine hK.out _ _ (fun _=>hH7) ?_
     clear hK K hown hgr hbel hat
     refine tkU 16 rfl ?_
     obtain⟨i0,i1,i2,i3,j0,j1,j2,j3,l3⟩:=ZT.four
     refine dT (i:=17) (by kernel_rfl) (by rfl) (fun K hK=>?_)
     go_simp
     refine hK.out _ _ (fun h=>absurd rfl h) ?_
     clear hK K
     refine kL (by kernel_rfl) ?_ _
     have HREL:Hid (RelT W w.heap.size g base d fw ds o k dn fl (.slice da dat.length dc) (.slice ta tch.length tc) x ⟨zs,b,dat,tch⟩ (j+1) (w7.setCell ⟨w.heap.size+1+1,3,none⟩ (.slice (some ⟨g4,0,none⟩) (tchj.length+1) c4))):=
      ⟨zn,datn,tchj++[((d,(y:Int),(p:Int),fw,Z):Tc)],.slice da6 datn.length dc6,.slice (some ⟨g4,0,none⟩) (tchj.length+1) c4,HWN.out,HZN.out,HDN.out,by simp;omega,ZG.other (p:=⟨w.heap.size+1+1,3,none⟩) (by dsimp only;omega) _,HI7.out.setFar (p:=⟨w.heap.size+1+1,3,none⟩) (HI7.out.neBox ZT (by decide)) _,HO7.out.setFar (p:=⟨w.heap.size+1+1,3,none⟩) (HO7.out.neBox ZT (by decide)) _,ZT.set 3 _,HRD6.out,HAT.out,HK7.out.setCell (.inl (.inr (.inl rfl))) _⟩
     clear i0 i1 i2 i3 j0 j1 j2 j3 l3
     go_wp2_with fail
     exact⟨⟨j+1,by have:=HJ.out;have:=HY.out;omega,by have:=HY.out;go_num,HREL.out⟩,by simp[intOf];omega⟩
   ·obtain rfl:y=E:=by omega
    have nlt:¬(y:Int)<y:=by omega
    obtain⟨t0,t1,t2,t3,f0,f1,f2,f3,st⟩:=XT.four
    have Y3:=X3.kept HKB.out (HM0.out _ (by omega) (by omega))
    obtain⟨u0,u1,u2,u3,v0,v1,v2,v3,su⟩:=Y3.four
    have hJj:j=JJ:=by have:=HJ.out;have:=HY.out;omega
    have HF:Hid (min (o+cnt-x) (8-x%8)=j):=by show _=_;have:=HE.out;have:=HY.out;omega
    go_wp2
    refine bodyPost_ret (v:=.agg #[.bool dn,.slice da' datj.length dc',J fl,.slice ta' tchj.length tc']) (by simp[results,Tryz.results108,go_sem, *]) rfl ⟨zj,datj,tchj,_,_,rfl,by rw[HF.out];exact HWj.out,?_,?_,?_,?_,?_,?_⟩
    ·exact (((HXG.out.other (p:=⟨w.heap.size+1+1+1,0,none⟩) (by dsimp only;omega) _).other (p:=⟨w.heap.size+1+1+1,1,none⟩) (by dsimp only;omega) _).other (p:=⟨w.heap.size+1+1+1,2,none⟩) (by dsimp only;omega) _).other (p:=⟨w.heap.size+1+1+1,3,none⟩) (by dsimp only;omega) _
    ·exact (((HOI.out.setFar (p:=⟨w.heap.size+1+1+1,0,none⟩) (HOI.out.neBox Y3 (by decide)) _).setFar (p:=⟨w.heap.size+1+1+1,1,none⟩) (HOI.out.neBox Y3 (by decide)) _).setFar (p:=⟨w.heap.size+1+1+1,2,none⟩) (HOI.out.neBox Y3 (by decide)) _).setFar (p:=⟨w.heap.size+1+1+1,3,none⟩) (HOI.out.neBox Y3 (by decide)) _
    ·exact (((HOT.out.setFar (p:=⟨w.heap.size+1+1+1,0,none⟩) (HOT.out.neBox Y3 (by decide)) _).setFar (p:=⟨w.heap.size+1+1+1,1,none⟩) (HOT.out.neBox Y3 (by decide)) _).setFar (p:=⟨w.heap.size+1+1+1,2,none⟩) (HOT.out.neBox Y3 (by decide)) _).setFar (p:=⟨w.heap.size+1+1+1,3,none⟩) (HOT.out.neBox Y3 (by decide)) _
    ·exact fun q hq=>(HRD.out q hq).imp id fun h=>by omega
    ·exact fun q hq=>(HRT.out q hq).imp id fun h=>by omega
    ·have h1:KeptB (fun q=>q=g∨(Value.slice da dat.length dc).ownBlock=some q∨(Value.slice ta tch.length tc).ownBlock=some q) w wr:=(KeptB.of_below BW.out).trans HKB.out (fun q hq h=>by
      rcases h with h|h|h|h
      ·exact .inl h
      ·omega
      ·exact .inr (.inl h)
      ·exact .inr (.inr h))
     exact (((h1.setCell (p:=⟨w.heap.size+1+1+1,0,none⟩) (.inr (by dsimp only;omega)) _).setCell (p:=⟨w.heap.size+1+1+1,1,none⟩) (.inr (by dsimp only;omega)) _).setCell (p:=⟨w.heap.size+1+1+1,2,none⟩) (.inr (by dsimp only;omega)) _).setCell (p:=⟨w.heap.size+1+1+1,3,none⟩) (.inr (by dsimp only;omega)) _
theorem aB0 {l:List Ln}{d p:Int}(h:0≤fndC l d p):∃k:Nat,fndC l d p=k∧k<l.length∧lineC l d p=lth l k:=by
 refine⟨(fndC l d p).toNat,by omega,(qN h).1,rfl⟩
theorem Ls.at {w:World}{v:Value}{l:List Ln}(h:Ls w v l){k:Nat}(hk:k<l.length):∃b o cap,v=.slice (some ⟨b,o,none⟩) l.length cap∧b<w.heap.size∧AtL w b (o+k*5) (lth l k):=by
 obtain⟨a,cap,rfl,_,_,h⟩:=h
 rcases h with rfl|⟨b,o,rfl,hb,hc⟩
 ·exact absurd hk (Nat.not_lt_zero _)
 ·exact⟨b,o,cap,rfl,hb,hc k hk⟩
set_option maxHeartbeats 4000000 in
theorem mV (v:Value)(zs:List Int)(mo ba op oh ot fe fp fh ft:Int)(st lo:Bool)(vc:Value)(l:List Ln)(d p:Int)(wr:Bool)(w:World)(hs:Sl w v zs)(h:Ls w vc l)(hf:0≤fndC l d p):
  Calls Tryz.prog 88 #[.agg #[v],.agg (rB mo ba vc op oh ot st fe fp fh ft lo),J d,J p,.bool wr] w fun e w'=>
   e=.returned (.tuple #[.agg (rB mo ba vc op oh ot st fe fp fh ft lo),J (if (wr&&!(lineC l d p).2.2.2.2)=true then 0 else (lineC l d p).2.2.1),J (if (wr&&!(lineC l d p).2.2.2.2)=true then 5 else 0)])∧Ls w' vc l∧Below w.heap.size w w':=by
 have HS:Hid (Ls w vc l):=h
 obtain⟨va,vk,rfl,-⟩:=h.shape
 obtain⟨k,hk,hkl,hli⟩:=aB0 hf
 obtain⟨b,o,cap,he,hb,hat⟩:=h.at hkl
 simp only[Value.slice.injEq,true_and] at he
 obtain⟨rfl,rfl⟩:=he
 rw[hli]
 clear h hf hli
 generalize lth l k=y at *
 obtain⟨dy,py,ay,ry,xy⟩:=y
 dsimp only
 generalize hr1:(if (wr&&!xy)=true then 0 else ay)=r1
 generalize hr2:(if (wr&&!xy)=true then (5:Int) else 0)=r2
 have HR1:Hid (_=_):=hr1
 have HR2:Hid (_=_):=hr2
 clear hr1 hr2
 obtain⟨ma,mc,rfl⟩:=hs.shape
 go_enter Tryz.func88,Tryz.ntmps88
 go_wp2_with fail
 refine (gN _ l d p _ (HS.out.keep (aA (aA (aA (Below.refl _ _) _) _) _))).mono ?_
 rintro e w1 ⟨rfl,b1⟩
 rw[hk]
 have X1:=((Box.newAt (n:=w.heap.size+1) (by simp) 31 (rB mo ba (.slice (some ⟨b,o,none⟩) l.length vk) op oh ot st fe fp fh ft lo)).past _).keep b1
 have X2:=(Box.newAt (n:=w.heap.size+1+1) (by simp) 31 zB).keep b1
 have B1:Hid (Below w.heap.size w w1):=aB (aA (aA (aA (Below.refl _ _) _) _) _) b1
 clear b1
 obtain⟨⟨q0,q1,q2,q3,q4,q5,q6,q7,q8,q9,q10,q11⟩,s1⟩:=X1.twelve
 obtain⟨⟨u0,u1,u2,u3,u4,u5,u6,u7,u8,u9,u10,u11⟩,s2⟩:=X2.twelve
 obtain⟨y0,y1,y2,y3,y4,y5,y6,y7,y8,y9,y10,y11⟩:=X2.marks
 obtain⟨g0,g1,g2,g3,g4⟩:=hat.keep B1.out hb
 have hb1:b<w1.heap.size:=Nat.lt_of_lt_of_le hb B1.out.size
 simp only at g0 g1 g2 g3 g4
 have hk0:(0:Int)≤k:=by omega
 have hk1:(k:Int)<l.length:=by omega
 clear hk hat
 go_wp2_with fail
 refine (tH dy py ay ry xy wr _).mono ?_
 rintro e w2 ⟨rfl,b2⟩
 rw[HR1.out,HR2.out]
 clear q0 q1 q2 q3 q4 q5 q6 q7 q8 q9 q10 q11 u0 u1 u2 u3 u4 u5 u6 u7 u8 u9 u10 u11 y0 y1 y2 y3 y4 y5 y6 y7 y8 y9 y10 y11 g0 g1 g2 g3 g4 s1 s2
 have X1:=X1.keep b2
 have X2:=X2.keep b2
 have B2:Hid (Below w.heap.size w w2):=aB B1.out b2
 clear b2 B1
 obtain⟨⟨q0,q1,q2,q3,q4,q5,q6,q7,q8,q9,q10,q11⟩,s1⟩:=X1.twelve
 obtain⟨⟨u0,u1,u2,u3,u4,u5,u6,u7,u8,u9,u10,u11⟩,s2⟩:=X2.twelve
 obtain⟨y0,y1,y2,y3,y4,y5,y6,y7,y8,y9,y10,y11⟩:=X2.marks
 go_wp2
 have BE:Hid (Below w.heap.size w _):=aJ (a:=w) (w:=w2) (m:=w.heap.size+1+1) (by omega) B2.out (J mo) (J ba) (.slice (some ⟨b,o,none⟩) l.length vk) (J op) (J oh) (J ot) (.bool st) (J fe) (J fp) (J fh) (J ft) (.bool lo)
 refine bodyPost_ret (v:=.tuple #[.agg (rB mo ba (.slice (some ⟨b,o,none⟩) l.length vk) op oh ot st fe fp fh ft lo),J r1,J r2]) (by simp[results,Tryz.results88,go_sem, *]) rfl ⟨rfl,HS.out.keep BE.out,BE.out⟩
end Go.Proofs.YthlhocneggcekaaGreat
