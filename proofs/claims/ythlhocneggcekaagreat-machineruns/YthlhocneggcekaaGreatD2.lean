/-
  Laid together: Mem2, Walk1, Find, Write, Put.
-/
import Derived.Test.YthlhocneggcekaaGreatD1
import Derived.Deep.RegionWith
import Derived.LoopN
import Derived.Deep.CutRange
import Derived.Deep.RegionHeld3
import Derived.Laws.CopyOwn
import Derived.Deep.AppendLies
namespace Go.Proofs.YthlhocneggcekaaGreat
open Go.RowKit
def rdV (zs:List Int)(k:Int):Int:=if chk zs=0∧placeB k=true then nth zs k.toNat else 0
def rdE (zs:List Int)(k:Int):Int:=if chk zs=0 then (if placeB k=true then 0 else 4) else chk zs
theorem Sl.open512 {w:World}{v:Value}{zs:List Int}(h:Sl w v zs)(hn:zs.length=512):∃b o cap,v=.slice (some ⟨b,o,none⟩) 512 cap∧b<w.heap.size∧∀i,i<512→w.cell? ⟨b,o+i,none⟩=some (J (nth zs i)):=by
 obtain⟨a,cap,rfl,hl,h⟩:=h
 rcases h with rfl|⟨b,o,rfl,hb,hc⟩
 ·simp at hn
 ·exact⟨b,o,cap,by rw[hn],hb,fun i hi=>hc i (by omega)⟩
theorem lF {a b c d:Int}(h:a=c)(k:b=d):Ending.returned (.tuple #[J a,J b])=.returned (.tuple #[J c,J d]):=by rw[h,k]
set_option maxHeartbeats 1000000 in
theorem yH (v:Value)(zs:List Int)(k:Int)(w:World)(h:Sl w v zs):
  Calls Tryz.prog 169 #[.agg #[v],J k] w fun e w'=>e=.returned (.tuple #[J (rdV zs k),J (rdE zs k)])∧Below w.heap.size w w':=by
 by_cases hk:chk zs=0
 ·by_cases hp:placeB k=true
  ·have HR:Hid (rdV zs k=nth zs k.toNat∧rdE zs k=0):=⟨by simp[rdV,hk,hp],by simp[rdE,hk,hp]⟩
   obtain⟨hn,_⟩:=bF hk
   have hp':=hp
   simp only[placeB,decide_eq_true_eq] at hp'
   obtain⟨p0,p1⟩:=hp'
   obtain⟨b,o,cap,rfl,hb,hc⟩:=h.open512 hn
   have g:=hc k.toNat (by omega)
   clear hc hn
   go_enter Tryz.func169,Tryz.ntmps169
   go_wp2_with fail
   refine (cE _ zs _ ?_).mono ?_
   ·exact h.keep (aA (Below.refl _ _) _)
   rintro e w1 ⟨rfl,hb1⟩
   obtain⟨hc1,hf1⟩:=bcell hb1
   go_wp2_with (go_at_call 172;refine (eE _ _).mono ?_;rintro e w' ⟨rfl,rfl⟩)
   go_ret2
   exact⟨lF HR.out.1.symm HR.out.2.symm,aB (aA (Below.refl _ _) _) hb1⟩
  ·have hp':placeB k=false:=by simpa using hp
   have HR:Hid (rdV zs k=0∧rdE zs k=4):=⟨by simp[rdV,hk,hp],by simp[rdE,hk,hp]⟩
   clear hp
   go_enter Tryz.func169,Tryz.ntmps169
   go_wp2_with fail
   refine (cE _ zs _ ?_).mono ?_
   ·exact h.keep (aA (Below.refl _ _) _)
   rintro e w1 ⟨rfl,hb1⟩
   obtain⟨hc1,hf1⟩:=bcell hb1
   go_wp2_with (go_at_call 172;refine (eE _ _).mono ?_;rintro e w' ⟨rfl,rfl⟩)
   go_ret2
   exact⟨lF HR.out.1.symm HR.out.2.symm,aB (aA (Below.refl _ _) _) hb1⟩
 ·have HR:Hid (rdV zs k=0∧rdE zs k=chk zs):=⟨by simp[rdV,hk],by simp[rdE,hk]⟩
  have hk':(chk zs !=0)=true:=by simpa using hk
  clear hk
  go_enter Tryz.func169,Tryz.ntmps169
  go_wp2_with fail
  refine (cE _ zs _ ?_).mono ?_
  ·exact h.keep (aA (Below.refl _ _) _)
  rintro e w1 ⟨rfl,hb1⟩
  obtain⟨hc1,hf1⟩:=bcell hb1
  go_wp2
  go_ret2
  exact⟨lF HR.out.1.symm HR.out.2.symm,aB (aA (Below.refl _ _) _) hb1⟩
def zeroCells:Array Value:=madeCells #[J 0] 512
def zeros:List Int:=List.replicate 512 0
theorem lG:zeroCells.toList=zeros.map (fun z=>J z):=by
 unfold zeroCells zeros
 rw[toList_madeCells_one,List.map_replicate]
theorem oN:zeros.length=512:=List.length_replicate
theorem infoInt:∃i,Tryz.prog.info? 3=some i∧i.zero=some (J 0)∧i.size=1∧i.bytes=8:=by
 have h:(Tryz.prog.info? 3).map (fun i=>(i.zero,i.size,i.bytes))=some (some (J 0),1,8):=by kernel_rfl
 cases hi:Tryz.prog.info? 3 with
 | none=>rw[hi] at h;simp at h
 | some i=>rw[hi] at h;simp at h;exact⟨i,rfl,h.1,h.2.1,h.2.2⟩
theorem make512 (w:World):(Instr.makeSlice 22 (J 512) (J 512)).run Tryz.prog w=.ok (.slice (some ⟨w.heap.size,0,none⟩) 512 512) (w.alloc (.cells zeroCells 3)):=by
 obtain⟨i,hi,hz,hs,hb⟩:=infoInt
 have h:=run_make (P:=Tryz.prog) w 22 3 i _ Tryz.underlying22 hi hz .i64 .i64 512 512 (by decide) (by decide) (by rw[hb];decide) (by decide)
 rw[hs] at h
 exact h
set_option maxHeartbeats 1000000 in
theorem iR (w:World):
  Calls Tryz.prog 130 #[] w fun e w'=>∃g,e=.returned (.agg #[.slice (some ⟨g,0,none⟩) 512 512])∧w'.heap[g]?=some (.cells zeroCells 3 (0,0))∧w.heap.size≤g∧Below w.heap.size w w':=by
 have hm:=make512
 go_enter Tryz.func130,Tryz.ntmps130
 go_wp2
 exact bodyPost_ret (v:=.agg #[.slice (some ⟨w.heap.size+1,0,none⟩) 512 512]) (by simp[results,Tryz.results130,go_sem]) rfl ⟨_,rfl,aY (by simp),by omega,aA (aA (Below.refl _ _) _) _⟩
theorem fI (z:Int)(w:World):Calls Tryz.prog 149 #[J z] w fun e w'=>e=.returned (.bool (pageB z))∧w'=w:=by
 by_cases h1:0≤z
 ·by_cases h2:z<64
  ·have:pageB z=true:=by simp[pageB,h1,h2]
   rw[this]
   go_enter Tryz.func149,Tryz.ntmps149
   go_wp2
   go_ret
   exact⟨rfl,rfl⟩
  ·have:pageB z=false:=by simp[pageB,h2]
   rw[this]
   go_enter Tryz.func149,Tryz.ntmps149
   go_wp2
   go_ret
   exact⟨rfl,rfl⟩
 ·have:pageB z=false:=by simp[pageB,h1]
  rw[this]
  go_enter Tryz.func149,Tryz.ntmps149
  go_wp2
  go_ret
  exact⟨rfl,rfl⟩
theorem aBo (v r x l:Bool)(p:Int)(wr:Bool)(w:World):
  Calls Tryz.prog 151 #[.agg #[.bool v,.bool r,.bool x,.bool l,J p],.bool wr] w fun e w'=>e=.returned (.bool (r&&(x || !wr)))∧∃o,w'=w.alloc o:=by
 cases r <;> cases x <;> cases wr
 all_goals
  go_enter Tryz.func151,Tryz.ntmps151
  go_wp2
  go_ret
  exact⟨rfl,_,rfl⟩
def fltR (z:Int):Int:=if okE z=true then (if vE z=true then 0 else 3) else 4
theorem kD {z:Int}(h:vE z=false):rE z=false∧xE z=false∧lE z=false∧pE z=0:=by simp[rE,xE,lE,pE,h]
set_option maxHeartbeats 2000000 in
theorem nP (v:Value)(zs:List Int)(t k:Int)(w:World)(h:Sl w v zs)(hn:zs.length=512)(t0:0≤t)(t1:t<64)(k0:0≤k)(k1:k<8):
  Calls Tryz.prog 164 #[.agg #[v],J t,J k] w fun e w'=>e=.returned (.tuple #[.agg #[.bool (vE (nth zs (8*t+k).toNat)),.bool (rE (nth zs (8*t+k).toNat)),.bool (xE (nth zs (8*t+k).toNat)),.bool (lE (nth zs (8*t+k).toNat)),J (pE (nth zs (8*t+k).toNat))],J (fltR (nth zs (8*t+k).toNat))])∧Below w.heap.size w w':=by
 obtain⟨b,o,cap,rfl,hb,hc⟩:=h.open512 hn
 have g:=hc (t*8+k).toNat (by omega)
 rw[show (8*t+k).toNat=(t*8+k).toNat by rw[Int.mul_comm]]
 generalize nth zs (t*8+k).toNat=z at *
 clear hc hn h
 go_enter Tryz.func164,Tryz.ntmps164
 go_wp2_with fail
 refine (vO _ _).mono ?_
 rintro e w1 ⟨rfl,b1⟩
 obtain⟨c1,f1⟩:=bcell b1
 have B1:Hid (Below w.heap.size w w1):=aB (aA (aA (Below.refl _ _) _) _) b1
 have K1:=(Blk.newAt (n:=w.heap.size+1) (by simp) _ _ _).keep b1
 have L1:=K1.lt
 clear b1 K1
 cases ho:okE z
 ·have hv:vE z=false:=by simp[vE,ho]
  obtain⟨e1,e2,e3,e4⟩:=kD hv
  have HF:Hid (vE z=false∧rE z=false∧xE z=false∧lE z=false∧pE z=0∧fltR z=4):=⟨hv,e1,e2,e3,e4,by simp[fltR,ho]⟩
  rw[hv,e1,e2,e3,e4]
  clear hv e1 e2 e3 e4 ho
  go_wp2
  refine bodyPost_ret (v:=.tuple #[.agg #[.bool false,.bool false,.bool false,.bool false,J 0],J 4]) (by simp[results,Tryz.results164,go_sem, *]) rfl ⟨?_,?_⟩
  ·obtain⟨e0,e1,e2,e3,e4,e5⟩:=HF.out
   rw[e0,e1,e2,e3,e4,e5]
  exact aA (aV (by omega) B1.out _ _ _ _ _) _
 ·cases hv:vE z
  ·obtain⟨e1,e2,e3,e4⟩:=kD hv
   have HF:Hid (vE z=false∧rE z=false∧xE z=false∧lE z=false∧pE z=0∧fltR z=3):=⟨hv,e1,e2,e3,e4,by simp[fltR,ho,hv]⟩
   rw[e1,e2,e3,e4]
   clear e1 e2 e3 e4 ho hv
   go_wp2
   refine bodyPost_ret (v:=.tuple #[.agg #[.bool false,.bool false,.bool false,.bool false,J 0],J 3]) (by simp[results,Tryz.results164,go_sem, *]) rfl ⟨?_,?_⟩
   ·obtain⟨e0,e1,e2,e3,e4,e5⟩:=HF.out
    rw[e0,e1,e2,e3,e4,e5]
   exact aA (aV (by omega) B1.out _ _ _ _ _) _
  ·have HF:Hid (vE z=true∧fltR z=0):=⟨hv,by simp[fltR,ho,hv]⟩
   clear ho hv
   go_wp2
   refine bodyPost_ret (v:=.tuple #[.agg #[.bool true,.bool (rE z),.bool (xE z),.bool (lE z),J (pE z)],J 0]) (by simp[results,Tryz.results164,go_sem, *]) rfl ⟨?_,?_⟩
   ·obtain⟨e0,e5⟩:=HF.out
    rw[e0,e5]
   exact aA (aV (by omega) B1.out _ _ _ _ _) _
set_option maxHeartbeats 2000000 in
theorem lH (v r x l:Bool)(p page span:Int)(w:World)(p0:0≤p)(p1:p<64)(g0:0≤page)(g1:page<64)(hs:span=8∨span=1)(h:p%span=0):
  Calls Tryz.prog 165 #[.agg #[.bool v,.bool r,.bool x,.bool l,J p],J page,J span] w fun e w'=>e=.returned (.tuple #[.agg #[.bool v,.bool r,.bool x,.bool l,J (p+page%span)],J 0])∧Below w.heap.size w w':=by
 rcases hs with rfl|rfl
 ·go_enter Tryz.func165,Tryz.ntmps165
  go_wp2
  go_region
  go_wp2
  refine bodyPost_ret (v:=.tuple #[.agg #[.bool v,.bool r,.bool x,.bool l,J (p+page%8)],J 0]) (by simp[results,Tryz.results165,go_sem]) rfl ⟨rfl,?_⟩
  exact lD (aA (aA (Below.refl _ _) _) _)
 ·go_enter Tryz.func165,Tryz.ntmps165
  go_wp2
  go_region
  go_wp2
  refine bodyPost_ret (v:=.tuple #[.agg #[.bool v,.bool r,.bool x,.bool l,J (p+page%1)],J 0]) (by simp[results,Tryz.results165,go_sem]) rfl ⟨rfl,?_⟩
  exact lD (aA (aA (Below.refl _ _) _) _)
set_option maxHeartbeats 2000000 in
theorem vP (v r x l:Bool)(p page:Int)(w:World)(p0:0≤p)(p1:p<64)(h:¬p%8=0):
  Calls Tryz.prog 165 #[.agg #[.bool v,.bool r,.bool x,.bool l,J p],J page,J 8] w fun e w'=>e=.returned (.tuple #[.agg #[.bool false,.bool false,.bool false,.bool false,J 0],J 4])∧Below w.heap.size w w':=by
 go_enter Tryz.func165,Tryz.ntmps165
 go_wp2
 refine bodyPost_ret (v:=.tuple #[.agg #[.bool false,.bool false,.bool false,.bool false,J 0],J 4]) (by simp[results,Tryz.results165,go_sem]) rfl ⟨rfl,?_⟩
 exact aA (aA (Below.refl _ _) _) _
abbrev Five:=Bool × Bool × Bool × Bool × Int
def E0:Five:=(false,false,false,false,0)
def entE (z:Int):Five:=(vE z,rE z,xE z,lE z,pE z)
def one (zs:List Int)(root page:Int):Int:=nth zs (8*root+page/8).toNat
def two (zs:List Int)(root page:Int):Int:=nth zs (8*pE (one zs root page)+page%8).toNat
def fnd (zs:List Int)(root page:Int):Five × Int:=
 if fltR (one zs root page)=0 then
  (if lE (one zs root page)=true then
   (if pE (one zs root page)%8=0 then ((vE (one zs root page),rE (one zs root page),xE (one zs root page),lE (one zs root page),pE (one zs root page)+page%8),0) else (E0,4))
  else if fltR (two zs root page)=0 then
   (if lE (two zs root page)=true then (entE (two zs root page),0) else (E0,4))
  else (E0,fltR (two zs root page)))
 else (E0,fltR (one zs root page))
theorem nQ (z:Int):0≤pE z∧pE z<64:=by
 unfold pE;split <;> omega
theorem aBp {p:Int}(h0:0≤p)(h1:p<64):(IntKind.i64.wrap (p.tdiv 8)).tmod 8=p/8:=by
 rw[Int.tdiv_eq_ediv_of_nonneg h0,cF _ (by omega) (by omega),Int.tmod_eq_emod_of_nonneg (by omega)]
 omega
theorem aBq {p:Int}(h0:0≤p)(h1:p<64):(IntKind.i64.wrap p).tmod 8=p%8:=by
 rw[cF _ (by omega) (by omega),Int.tmod_eq_emod_of_nonneg (by omega)]
theorem span0 (w:World):(Instr.index 82 (.agg #[J 8,J 1]) (J 0)).run Tryz.prog w=.ok (J 8) w:=by kernel_rfl
theorem span1 (w:World):(Instr.index 82 (.agg #[J 8,J 1]) (J 1)).run Tryz.prog w=.ok (J 1) w:=by kernel_rfl
abbrev W0 (w:World)(b o cap:Nat):World:=(w.alloc (.cells #[.slice (some ⟨b,o,none⟩) 512 cap] 24)).alloc (.cells #[.bool false,.bool false,.bool false,.bool false,J 0] 171)
theorem yJ {w w':World}{b o cap:Nat}(h:Below (W0 w b o cap).heap.size (W0 w b o cap) w'):w'.cell? ⟨w.heap.size,0,none⟩=some (.slice (some ⟨b,o,none⟩) 512 cap)∧Below (W0 w b o cap).heap.size (W0 w b o cap) w':=by
 refine⟨?_,h⟩
 rw[(bcell h).1 _ _ (by simp[W0];omega)]
 simp[W0,go_sem]
theorem eF {w w':World}{b o cap:Nat}(h:Below (W0 w b o cap).heap.size (W0 w b o cap) w'):Below w.heap.size w w':=aB (aA (aA (Below.refl _ _) _) _) h
theorem aBr {w w':World}{b o cap:Nat}(h:Below (W0 w b o cap).heap.size (W0 w b o cap) w')(u0 u1 u2 u3 u4:Value):
  Below (W0 w b o cap).heap.size (W0 w b o cap) (((((w'.setCell ⟨w.heap.size+1+1,0,none⟩ u0).setCell ⟨w.heap.size+1+1,1,none⟩ u1).setCell ⟨w.heap.size+1+1,2,none⟩ u2).setCell ⟨w.heap.size+1+1,3,none⟩ u3).setCell ⟨w.heap.size+1+1,4,none⟩ u4):=
 aV (by simp[W0]) h _ _ _ _ _
theorem aBs {w w':World}{b o cap n:Nat}(hn:w.heap.size+1<n)(h:Below (W0 w b o cap).heap.size (W0 w b o cap) w')(u0 u1 u2 u3 u4:Value):
  Below (W0 w b o cap).heap.size (W0 w b o cap) (((((w'.setCell ⟨n,0,none⟩ u0).setCell ⟨n,1,none⟩ u1).setCell ⟨n,2,none⟩ u2).setCell ⟨n,3,none⟩ u3).setCell ⟨n,4,none⟩ u4):=
 aV (by simp[W0];omega) h _ _ _ _ _
set_option maxHeartbeats 1000000 in
theorem yK (v:Value)(zs:List Int)(root page:Int)(w:World)(h:Sl w v zs)(hn:zs.length=512)(r0:0≤root)(r1:root<64)(g0:0≤page)(g1:page<64):
  Calls Tryz.prog 150 #[.agg #[v],J root,J page] w fun e w'=>(∃b r x l p f,e=.returned (.tuple #[.agg #[.bool b,.bool r,.bool x,.bool l,J p],J f])∧fnd zs root page=((b,r,x,l,p),f))∧Below w.heap.size w w':=by
 obtain⟨b,o,cap,rfl,_,_⟩:=h.open512 hn
 have HN:Hid (zs.length=512):=hn
 have HS:Hid (Sl w (.slice (some ⟨b,o,none⟩) 512 cap) zs):=h
 clear hn h
 have m0:0≤page/8:=by omega
 have m1:page/8<8:=by omega
 have q1:Hid ((IntKind.i64.wrap (page.tdiv 8)).tmod 8=page/8):=aBp g0 g1
 have q2:Hid ((IntKind.i64.wrap page).tmod 8=page%8):=aBq g0 g1
 have i0:=span0
 have i1:=span1
 go_enter Tryz.func150,Tryz.ntmps150
 go_wp2
 refine wp_loop_rounds 3 ?_
 rw[rounds_succ]
 go_upto_region 5 with fail
 go_cut [11,12] from 17 to 42 (fun s t wx=>∃n,s=.pointer (some ⟨n,0,none⟩)∧t=J (fltR (one zs root page))∧Blk wx n #[.bool (vE (one zs root page)),.bool (rE (one zs root page)),.bool (xE (one zs root page)),.bool (lE (one zs root page)),J (pE (one zs root page))]∧Below (W0 w b o cap).heap.size (W0 w b o cap) wx)
 case first=>
  go_region_held3 (fun w'=>w'.cell? ⟨w.heap.size,0,none⟩=some (.slice (some ⟨b,o,none⟩) 512 cap)∧Below (W0 w b o cap).heap.size (W0 w b o cap) w')
   (first|(refine yJ ?_;(repeat (first|with_reducible assumption|(with_reducible (refine And.right (a:=_=_) (?_:_∧_);assumption))|with_reducible exact Below.refl _ _|with_reducible refine aBr ?_ _ _ _ _ _|with_reducible refine Below.drew ?_|with_reducible refine aH ?_ _|with_reducible refine aA ?_ _|with_reducible refine aB ?_ (by assumption)))))
   (first|(go_at_call 164;rw[q1.out];refine (nP _ zs root (page/8) _ ?_ HN.out r0 r1 m0 m1).mono ?_;(focus (refine HS.out.keep (eF (b:=b) (o:=o) (cap:=cap) ?_);(repeat (first|with_reducible assumption|(with_reducible (refine And.right (a:=_=_) (?_:_∧_);assumption))|with_reducible exact Below.refl _ _|with_reducible refine Below.drew ?_|with_reducible refine aH ?_ _|with_reducible refine aA ?_ _|with_reducible refine aB ?_ (by assumption)))));rintro e w1 ⟨rfl,b1⟩;obtain⟨c1,f1⟩:=bcell b1))
  all_goals (go_wp2_with fail;go_meet)
  ·exact⟨_,rfl,rfl,Blk.new _ _ _ _,And.right (a:=_=_) (by with_reducible assumption)⟩
  ·exact⟨_,rfl,rfl,qC (jT b1 (by simp) (dD (m:=1) (aY (by simp)))) _ _ _ _ _,And.right (a:=_=_) (by with_reducible assumption)⟩
 case rest=>
  obtain⟨n,rfl,rfl,K1,B1⟩:=hcut
  have HB:Hid (Below (W0 w b o cap).heap.size (W0 w b o cap) wc):=B1
  obtain⟨c1,f1⟩:=bcell B1
  have s1:w.heap.size+1<wc.heap.size:=by have:=B1.size;simp[W0] at this;omega
  obtain⟨d0,d1,d2,d3,d4⟩:=K1.five
  clear B1
  by_cases hf:fltR (one zs root page)=0
  rotate_left
  ·have hq:(fltR (one zs root page) !=0)=true:=by simpa using hf
   go_wp2
   refine bodyPost_ret (v:=.tuple #[.agg #[.bool false,.bool false,.bool false,.bool false,J 0],J (fltR (one zs root page))]) (by simp[results,Tryz.results150,go_sem, *]) rfl ⟨⟨_,_,_,_,_,_,rfl,by rw[fnd,if_neg hf];rfl⟩,?_⟩
   exact aV (by omega) (eF HB.out) _ _ _ _ _
  have hq:(fltR (one zs root page) !=0)=false:=by simpa using hf
  cases hl:lE (one zs root page)
  rotate_left
  ·obtain⟨p0,p1⟩:=nQ (one zs root page)
   have hl':Hid (lE (one zs root page)=true):=hl
   rw[hl] at d3
   clear hl
   by_cases hp:pE (one zs root page)%8=0
   ·go_wp2_with fail
    refine (lH _ _ _ _ _ page 8 _ p0 p1 g0 g1 (.inl rfl) hp).mono ?_
    rintro e w2 ⟨rfl,b2⟩
    have B2:Hid (Below (W0 w b o cap).heap.size (W0 w b o cap) w2):=aB HB.out b2
    clear c1 f1
    obtain⟨c1,f1⟩:=bcell B2.out
    clear b2 K1 d0 d1 d2 d3 d4 HB
    go_wp2
    refine bodyPost_ret (v:=.tuple #[.agg #[.bool (vE (one zs root page)),.bool (rE (one zs root page)),.bool (xE (one zs root page)),.bool true,J (pE (one zs root page)+page%8)],J 0]) (by simp[results,Tryz.results150,go_sem, *]) rfl ⟨⟨_,_,_,_,_,_,rfl,by rw[fnd,if_pos hf,if_pos hl'.out,if_pos hp,hl'.out]⟩,?_⟩
    exact aV (by omega) (eF B2.out) _ _ _ _ _
   ·go_wp2_with fail
    refine (vP _ _ _ _ _ page _ p0 p1 hp).mono ?_
    rintro e w2 ⟨rfl,b2⟩
    have B2:Hid (Below (W0 w b o cap).heap.size (W0 w b o cap) w2):=aB HB.out b2
    clear c1 f1
    obtain⟨c1,f1⟩:=bcell B2.out
    clear b2 K1 d0 d1 d2 d3 d4 HB
    go_wp2
    refine bodyPost_ret (v:=.tuple #[.agg #[.bool false,.bool false,.bool false,.bool false,J 0],J 4]) (by simp[results,Tryz.results150,go_sem, *]) rfl ⟨⟨_,_,_,_,_,_,rfl,by rw[fnd,if_pos hf,if_pos hl'.out,if_neg hp];rfl⟩,?_⟩
    exact aV (by omega) (eF B2.out) _ _ _ _ _
  have hl0:¬lE (one zs root page)=true:=by rw[hl];decide
  have hl':Hid (¬lE (one zs root page)=true):=hl0
  clear hl0
  rw[hl] at d3
  clear hl
  go_wp2
  rw[rounds_succ]
  go_upto_region 5 with fail
  obtain⟨p0,p1⟩:=nQ (one zs root page)
  have n0:0≤page%8:=by omega
  have n1:page%8<8:=by omega
  go_cut [11,12] from 17 to 42 (fun s t wx=>∃n,s=.pointer (some ⟨n,0,none⟩)∧t=J (fltR (two zs root page))∧Blk wx n #[.bool (vE (two zs root page)),.bool (rE (two zs root page)),.bool (xE (two zs root page)),.bool (lE (two zs root page)),J (pE (two zs root page))]∧Below (W0 w b o cap).heap.size (W0 w b o cap) wx)
  case first=>
   have B1:=HB.out
   go_region_held3 (fun w'=>w'.cell? ⟨w.heap.size,0,none⟩=some (.slice (some ⟨b,o,none⟩) 512 cap)∧Below (W0 w b o cap).heap.size (W0 w b o cap) w')
    (first|(refine yJ ?_;(repeat (first|with_reducible assumption|(with_reducible (refine And.right (a:=_=_) (?_:_∧_);assumption))|with_reducible exact Below.refl _ _|with_reducible refine aBs s1 ?_ _ _ _ _ _|with_reducible refine Below.drew ?_|with_reducible refine aH ?_ _|with_reducible refine aA ?_ _|with_reducible refine aB ?_ (by assumption)))))
    (first|(go_at_call 164;rw[q2.out];refine (nP _ zs (pE (one zs root page)) (page%8) _ ?_ HN.out p0 p1 n0 n1).mono ?_;(focus (refine HS.out.keep (eF (b:=b) (o:=o) (cap:=cap) ?_);(repeat (first|with_reducible assumption|(with_reducible (refine And.right (a:=_=_) (?_:_∧_);assumption))|with_reducible exact Below.refl _ _|with_reducible refine Below.drew ?_|with_reducible refine aH ?_ _|with_reducible refine aA ?_ _|with_reducible refine aB ?_ (by assumption)))));rintro e w1 ⟨rfl,b1⟩;obtain⟨c2,f2⟩:=bcell b1))
   all_goals (go_wp2_with fail;go_meet)
   ·exact⟨_,rfl,rfl,Blk.new _ _ _ _,And.right (a:=_=_) (by with_reducible assumption)⟩
   ·exact⟨_,rfl,rfl,qC (jT b1 (by simp) (dD (m:=1) (aY (by simp)))) _ _ _ _ _,And.right (a:=_=_) (by with_reducible assumption)⟩
  case rest=>
   clear K1 d0 d1 d2 d3 d4 c1 f1 HB s1
   obtain⟨n,rfl,rfl,K1,B1⟩:=hcut
   have HB:Hid (Below (W0 w b o cap).heap.size (W0 w b o cap) wc):=B1
   obtain⟨c1,f1⟩:=bcell B1
   have s1:w.heap.size+1<wc.heap.size:=by have:=B1.size;simp[W0] at this;omega
   obtain⟨d0,d1,d2,d3,d4⟩:=K1.five
   clear B1
   by_cases hf2:fltR (two zs root page)=0
   rotate_left
   ·have hq2:(fltR (two zs root page) !=0)=true:=by simpa using hf2
    go_wp2
    refine bodyPost_ret (v:=.tuple #[.agg #[.bool false,.bool false,.bool false,.bool false,J 0],J (fltR (two zs root page))]) (by simp[results,Tryz.results150,go_sem, *]) rfl ⟨⟨_,_,_,_,_,_,rfl,by rw[fnd,if_pos hf,if_neg hl'.out,if_neg hf2];rfl⟩,?_⟩
    exact aV (by omega) (eF HB.out) _ _ _ _ _
   have hq2:(fltR (two zs root page) !=0)=false:=by simpa using hf2
   cases hl2:lE (two zs root page)
   rotate_left
   ·obtain⟨y0,y1⟩:=nQ (two zs root page)
    have hl2':Hid (lE (two zs root page)=true):=hl2
    have H1:Hid (pE (two zs root page)+page%1=pE (two zs root page)):=by show _=_;omega
    rw[hl2] at d3
    clear hl2
    go_wp2_with fail
    refine (lH _ _ _ _ _ page 1 _ y0 y1 g0 g1 (.inr rfl) (by omega)).mono ?_
    rw[H1.out]
    rintro e w2 ⟨rfl,b2⟩
    have B2:Hid (Below (W0 w b o cap).heap.size (W0 w b o cap) w2):=aB HB.out b2
    clear c1 f1
    obtain⟨c1,f1⟩:=bcell B2.out
    clear b2 K1 d0 d1 d2 d3 d4 HB
    go_wp2
    refine bodyPost_ret (v:=.tuple #[.agg #[.bool (vE (two zs root page)),.bool (rE (two zs root page)),.bool (xE (two zs root page)),.bool true,J (pE (two zs root page))],J 0]) (by simp[results,Tryz.results150,go_sem, *]) rfl ⟨⟨_,_,_,_,_,_,rfl,by rw[fnd,if_pos hf,if_neg hl'.out,if_pos hf2,if_pos hl2'.out,entE,hl2'.out]⟩,?_⟩
    exact aV (by omega) (eF B2.out) _ _ _ _ _
   have hl2':¬lE (two zs root page)=true:=by rw[hl2];decide
   have HL:Hid _:=hl2'
   rw[hl2] at d3
   clear hl2 hl2'
   go_wp2
   rw[rounds_succ]
   go_wp2
   refine bodyPost_ret (v:=.tuple #[.agg #[.bool false,.bool false,.bool false,.bool false,J 0],J 4]) (by simp[results,Tryz.results150,go_sem, *]) rfl ⟨⟨_,_,_,_,_,_,rfl,by rw[fnd,if_pos hf,if_neg hl'.out,if_pos hf2,if_neg HL.out];rfl⟩,?_⟩
   exact aV (by omega) (eF HB.out) _ _ _ _ _
def wrE (zs:List Int)(k x:Int):Int:=if chk zs=0 then (if placeB k=true then (if wordB x=true then 0 else 2) else 4) else chk zs
def wrM (zs:List Int)(k x:Int):List Int:=if chk zs=0∧placeB k=true∧wordB x=true then zs.set k.toNat x else []
def intCells (zs:List Int):Array Value:=(zs.map (fun z=>J z)).toArray
theorem bX (zs:List Int):(intCells zs).toList=zs.map (fun z=>J z):=by simp[intCells]
theorem cP {zs:List Int}{i:Nat}(h:i<zs.length):(intCells zs)[i]?=some (J (nth zs i)):=by
 simp[intCells,nth,h]
theorem dH (zs:List Int)(i:Nat)(x:Int):(intCells zs).setIfInBounds i (J x)=intCells (zs.set i x):=by
 simp[intCells,List.map_set]
theorem eK (w:World)(b o cap g:Nat)(zs:List Int)(cur:Array Value)(hn:zs.length=512)(hg:w.heap[g]?=some (.cells cur 3 (0,0)))(hcur:cur.size=512)
  (hc:∀i,i<512→w.cell? ⟨b,o+i,none⟩=some (J (nth zs i))):
  ∃w3,(Builtin.copy_ #[22,22] 3 #[.slice (some ⟨g,0,none⟩) 512 512,.slice (some ⟨b,o,none⟩) 512 cap]).run Tryz.prog w=.ok (J 512) w3∧w3.heap[g]?=some (.cells (intCells zs) 3 (0,0))∧
   (∀k,k≠g→w3.heap[k]?=w.heap[k]?)∧w3.heap.size=w.heap.size∧Below g w w3:=by
 have hl:(zs.map (fun z=>J z)).length=512:=by simp[hn]
 have h:=run_copy_row (P:=Tryz.prog) w 22 22 3 3 g 0 512 512 ⟨b,o,none⟩ 512 cap cur 3 (zs.map (fun z=>J z)) Tryz.underlying22 (by kernel_rfl) hg (by rw[hl];rfl)
  (fun j v hv=>by
   rw[List.getElem?_map] at hv
   by_cases hj:j<512
   ·rw[List.getElem?_eq_getElem (by omega)] at hv
    simp only[Option.map_some,Option.some.injEq] at hv
    have:=hc j hj
    rw[←hv]
    have ha:Addr.add ⟨b,o,none⟩ j=⟨b,o+j,none⟩:=by unfold Addr.add;split <;> simp_all
    rw[ha,this]
    simp[nth,hn,hj]
   ·rw[List.getElem?_eq_none (by omega)] at hv
    simp at hv) (by rw[hl];omega) (by
   intro v hv
   obtain⟨z,_,rfl⟩:=List.mem_map.1 hv
   rfl)
 have hd:List.drop (0+512) cur.toList=[]:=List.drop_of_length_le (by simp[hcur])
 rw[hl,hd,List.take_zero,List.nil_append,List.append_nil] at h
 exact⟨_,h,setRow_heap w g _ _ _ _ hg,fun k hk=>setRow_other w g k _ hk,by simp[World.setRow],⟨rfl,rfl,rfl,by simp[World.setRow],fun k hk=>setRow_other w g k _ (by omega)⟩⟩
set_option maxHeartbeats 1000000 in
theorem nR (v:Value)(zs:List Int)(k x:Int)(w:World)(h:Sl w v zs)(hk:chk zs=0)(hp:placeB k=true)(hx:wordB x=true):
  Calls Tryz.prog 163 #[.agg #[v],J k,J x] w fun e w'=>∃v',e=.returned (.tuple #[.agg #[v'],J 0])∧Sl w' v' (zs.set k.toNat x)∧Fresh w.heap.size v'∧Below w.heap.size w w':=by
 obtain⟨hn,_⟩:=bF hk
 have hp':=hp
 simp only[placeB,decide_eq_true_eq] at hp'
 obtain⟨p0,p1⟩:=hp'
 obtain⟨b,o,cap,rfl,hb,hc⟩:=h.open512 hn
 have HC:Hid (∀i,i<512→w.cell? ⟨b,o+i,none⟩=some (J (nth zs i))):=hc
 have HN:Hid (zs.length=512):=hn
 clear hc hn
 go_enter Tryz.func163,Tryz.ntmps163
 go_wp2_with fail
 refine (cE _ zs _ ?_).mono ?_
 ·exact h.keep (aA (aA (Below.refl _ _) _) _)
 rintro e w1 ⟨rfl,hb1⟩
 obtain⟨hc1,hf1⟩:=bcell hb1
 have hs1:w.heap.size+1<w1.heap.size:=by have:=hb1.size;simp at this;omega
 go_wp2_with (first|(go_at_call 172;refine (eE _ _).mono ?_;rintro e w' ⟨rfl,rfl⟩)|(go_at_call 72;refine (eQ _ _).mono ?_;rintro e w' ⟨rfl,rfl⟩))
 refine (iR _).mono ?_
 rintro e w2 ⟨g,rfl,hg2,hge,hb2⟩
 obtain⟨hc2,hf2⟩:=bcell hb2
 have hs2:=hb2.size
 have z2:w.heap.size<w2.heap.size:=by omega
 have z3:w.heap.size+1<w2.heap.size:=by omega
 have q0:w2.cell? ⟨w.heap.size,0,none⟩=some (.slice (some ⟨b,o,none⟩) 512 cap):=by rw[hc2 _ _ (by omega),hc1 _ _ (by simp;omega)];simp[go_sem]
 have q1:w2.cell? ⟨w.heap.size+1,0,none⟩=some (.slice none 0 0):=by rw[hc2 _ _ (by omega),hc1 _ _ (by simp)];simp[go_sem]
 have q2:w2.frozen? ⟨w.heap.size+1,0,none⟩=false:=by rw[hf2 _ _ (by omega),hf1 _ _ (by simp)];simp[go_sem]
 have HB2:Hid (Below w.heap.size w w2):=aB (aB (aA (aA (Below.refl _ _) _) _) hb1) hb2
 clear hc1 hf1 hc2 hf2 hb1 hb2
 have hg2':=Array.getElem?_eq_some_iff.1 hg2
 obtain⟨hglt,_⟩:=hg2'
 obtain⟨w3,hrun,hg3,ho3,hs3,hb3⟩:=eK (w2.alloc (.cells #[.slice (some ⟨g,0,none⟩) 512 512] 24)) b o cap g zs zeroCells HN.out (bN hglt hg2) (by simp[zeroCells,size_madeCells]) (fun i hi=>by
  rw[World.cell?_alloc_past _ _ _ (by omega),HB2.out.cell (p:=⟨b,o+i,none⟩) hb];exact HC.out i hi)
 have r0:w3.cell? ⟨w2.heap.size,0,none⟩=some (.slice (some ⟨g,0,none⟩) 512 512):=by
  rw[World.cell?_of_block (a:=⟨w2.heap.size,0,none⟩) (ho3 w2.heap.size (by omega))];simp[go_sem]
 have r1:w3.cell? ⟨w.heap.size+1,0,none⟩=some (.slice none 0 0):=by
  rw[World.cell?_of_block (a:=⟨w.heap.size+1,0,none⟩) (ho3 (w.heap.size+1) (by omega)),World.cell?_alloc_past _ _ _ z3];exact q1
 have r2:w3.frozen? ⟨w.heap.size+1,0,none⟩=false:=by
  rw[World.frozen?_of_block (a:=⟨w.heap.size+1,0,none⟩) (ho3 (w.heap.size+1) (by omega)),World.frozen?_alloc_past _ _ _ z3];exact q2
 have r3:w3.cell? ⟨g,k.toNat,none⟩=some (J (nth zs k.toNat)):=by
  rw[cell_of_row w3 g _ _ _ _ hg3,cP (by have:=HN.out;omega)]
 have r4:w3.frozen? ⟨g,k.toNat,none⟩=false:=frozen_of_row w3 g _ _ _ hg3
 have n1:¬g=w2.heap.size:=by omega
 have n2:¬g=w.heap.size+1:=by omega
 have HG3:Hid _:=hg3
 have HB3:Hid (Below w.heap.size w w3):=(aA HB2.out _).trans (hb3.mono (by omega))
 clear ho3 hb3 hg3 hg2
 go_wp2_with fail
 refine bodyPost_ret (v:=.tuple #[.agg #[.slice (some ⟨g,0,none⟩) 512 512],J 0]) (by simp[results,Tryz.results163,go_sem, *]) rfl ⟨_,rfl,?_,fun k hk=>by simp[Value.ownBlock] at hk;omega,?_⟩
 ·refine bG (cs:=intCells (zs.set k.toNat x)) (t:=3) (fr:=(0,0)) ?_ (bX _) (by rw[List.length_set];exact HN.out.symm) (by rw[List.length_set,HN.out];simp[maxLen])
  rw[heap_setCell_other _ _ _ _ n2,heap_setCell_same _ _ _ _ _ _ HG3.out,dH]
 ·exact (HB3.out.setCell (p:=⟨g,k.toNat,none⟩) (by show w.heap.size≤g;omega) _).setCell (p:=⟨w.heap.size+1,0,none⟩) (by show w.heap.size≤w.heap.size+1;omega) _
set_option maxHeartbeats 1000000 in
theorem nS (v:Value)(zs:List Int)(k x:Int)(w:World)(h:Sl w v zs)(hw:¬(chk zs=0∧placeB k=true∧wordB x=true)):
  Calls Tryz.prog 163 #[.agg #[v],J k,J x] w fun e w'=>e=.returned (.tuple #[.agg #[.slice none 0 0],J (wrE zs k x)])∧Below w.heap.size w w':=by
 by_cases hk:chk zs=0
 ·by_cases hp:placeB k=true
  ·have hx:wordB x=false:=by
    cases hh:wordB x
    ·rfl
    ·exact absurd ⟨hk,hp,hh⟩ hw
   rw[show wrE zs k x=2 by simp[wrE,hk,hp,hx]]
   clear hw
   go_enter Tryz.func163,Tryz.ntmps163
   go_wp2_with fail
   refine (cE _ zs _ ?_).mono ?_
   ·exact h.keep (aA (aA (Below.refl _ _) _) _)
   rintro e w1 ⟨rfl,hb1⟩
   obtain⟨hc1,hf1⟩:=bcell hb1
   have hs1:w.heap.size+1<w1.heap.size:=by have:=hb1.size;simp at this;omega
   go_wp2_with (first|(go_at_call 172;refine (eE _ _).mono ?_;rintro e w' ⟨rfl,rfl⟩)|(go_at_call 72;refine (eQ _ _).mono ?_;rintro e w' ⟨rfl,rfl⟩))
   refine bodyPost_ret (v:=.tuple #[.agg #[.slice none 0 0],J 2]) (by simp[results,Tryz.results163,go_sem, *]) rfl ⟨rfl,?_⟩
   exact (aB (aA (aA (Below.refl _ _) _) _) hb1).setCell (by show w.heap.size≤w.heap.size+1;omega) _
  ·have hp':placeB k=false:=by simpa using hp
   rw[show wrE zs k x=4 by simp[wrE,hk,hp']]
   clear hw hp
   go_enter Tryz.func163,Tryz.ntmps163
   go_wp2_with fail
   refine (cE _ zs _ ?_).mono ?_
   ·exact h.keep (aA (aA (Below.refl _ _) _) _)
   rintro e w1 ⟨rfl,hb1⟩
   obtain⟨hc1,hf1⟩:=bcell hb1
   have hs1:w.heap.size+1<w1.heap.size:=by have:=hb1.size;simp at this;omega
   go_wp2_with (first|(go_at_call 172;refine (eE _ _).mono ?_;rintro e w' ⟨rfl,rfl⟩)|(go_at_call 72;refine (eQ _ _).mono ?_;rintro e w' ⟨rfl,rfl⟩))
   refine bodyPost_ret (v:=.tuple #[.agg #[.slice none 0 0],J 4]) (by simp[results,Tryz.results163,go_sem, *]) rfl ⟨rfl,?_⟩
   exact (aB (aA (aA (Below.refl _ _) _) _) hb1).setCell (by show w.heap.size≤w.heap.size+1;omega) _
 ·have hk':(chk zs !=0)=true:=by simpa using hk
  rw[show wrE zs k x=chk zs by simp[wrE,hk]]
  clear hw hk
  go_enter Tryz.func163,Tryz.ntmps163
  go_wp2_with fail
  refine (cE _ zs _ ?_).mono ?_
  ·exact h.keep (aA (aA (Below.refl _ _) _) _)
  rintro e w1 ⟨rfl,hb1⟩
  obtain⟨hc1,hf1⟩:=bcell hb1
  have hs1:w.heap.size+1<w1.heap.size:=by have:=hb1.size;simp at this;omega
  go_wp2
  refine bodyPost_ret (v:=.tuple #[.agg #[.slice none 0 0],J (chk zs)]) (by simp[results,Tryz.results163,go_sem, *]) rfl ⟨rfl,?_⟩
  exact (aB (aA (aA (Below.refl _ _) _) _) hb1).setCell (by show w.heap.size≤w.heap.size+1;omega) _
theorem sY (v:Value)(zs:List Int)(k x:Int)(w:World)(h:Sl w v zs):
  Calls Tryz.prog 163 #[.agg #[v],J k,J x] w fun e w'=>∃v',e=.returned (.tuple #[.agg #[v'],J (wrE zs k x)])∧Sl w' v' (wrM zs k x)∧Fresh w.heap.size v'∧Below w.heap.size w w':=by
 by_cases hw:chk zs=0∧placeB k=true∧wordB x=true
 ·refine (nR v zs k x w h hw.1 hw.2.1 hw.2.2).mono fun e w' ⟨v',he,hs,hf,hb⟩=>⟨v',?_,?_,hf,hb⟩
  ·rw[he,show wrE zs k x=0 by simp[wrE,hw.1,hw.2.1,hw.2.2]]
  ·rw[show wrM zs k x=zs.set k.toNat x by rw[wrM,if_pos hw]];exact hs
 ·refine (nS v zs k x w h hw).mono fun e w' ⟨he,hb⟩=>⟨_,he,?_,Fresh.none _ _ _,hb⟩
  rw[show wrM zs k x=[] by rw[wrM,if_neg hw]];exact Sl.nil _ _ _
theorem kT (w:World)(base:Nat)(h:base≤w.heap.size):(w.alloc (.cells #[] 3)).ownsRow base 3 1 (.slice (some ⟨w.heap.size,0,none⟩) 0 0) 0 []:=
 World.ownsRow_lit (base:=base) (e:=3) (size:=1) w #[] 0 h (by simp[maxLen]) rfl
theorem fA {w:World}{ops:Array Oper}{rest:List Oper}{o:Oper}{a:Act}{Q:Exit→Act→World→Prop}(hgd:o.guard=none)(s x:Operand)
  (ho:o.op=.call {callee:=.builtin .append,args:=#[s,x],argTypes:=#[22,22]}) (base:Nat) (v:Value) (hs:a.eval s=v) (hown:w.ownsRow base 3 1 v 0 [])
  (b off c:Nat) (zs:List Int) (hx:a.eval x=.slice (some ⟨b,off,none⟩) 512 c) (hn:zs.length=512) (hc:∀i,i<512→w.cell? ⟨b,off+i,none⟩=some (J (nth zs i))) (hbase:base≤w.heap.size)
  (h:∀g cap w',w'.ownsRow base 3 1 (.slice (some ⟨g,0,none⟩) 512 cap) 512 (zs.map (fun z=>J z))→w.grownBy w' v.ownBlock→(v.ownBlock=some g∨g=w.heap.size)→g<w'.heap.size→wpList Tryz.prog ops Q rest (a.put o.dst (.slice (some ⟨g,0,none⟩) 512 cap)) w'):
  wpList Tryz.prog ops Q (o::rest) a w:=by
 obtain⟨i,hi,hz,hsz,hby⟩:=infoInt
 have hl:(zs.map (fun z=>J z)).length=512:=by simp[hn]
 refine wpList_append_lies w hgd s x 22 ho base 3 i _ 1 8 Tryz.underlying22 hi hz hsz hby rfl (by omega) v 0 [] hs hown ⟨b,off,none⟩ 512 c (zs.map (fun z=>J z)) hx (by rw[hl]) (fun j u hu=>?_) (fun u hu=>?_) (by omega) (by simp[maxLen]) (by omega) hbase w.heap.size rfl ?_
 ·rw[List.getElem?_map] at hu
  by_cases hj:j<512
  ·rw[List.getElem?_eq_getElem (by omega)] at hu
   simp only[Option.map_some,Option.some.injEq] at hu
   have ha:Addr.add ⟨b,off,none⟩ j=⟨b,off+j,none⟩:=by unfold Addr.add;split <;> simp_all
   rw[ha,hc j hj,←hu]
   simp[nth,hn,hj]
  ·rw[List.getElem?_eq_none (by omega)] at hu
   simp at hu
 ·obtain⟨z,_,rfl⟩:=List.mem_map.1 hu
  rfl
 ·simpa using h
theorem qD {w:World}{base g cap n:Nat}{zs:List Int}(h:w.ownsRow base 3 1 (.slice (some ⟨g,0,none⟩) n cap) n (zs.map (fun z=>J z)))(hm:zs.length≤maxLen):Sl w (.slice (some ⟨g,0,none⟩) n cap) zs:=by
 have hl:=h.1
 simp at hl
 subst hl
 refine⟨_,cap,rfl,hm,.inr ⟨g,0,rfl,(h.lt g rfl).2,fun i hi=>?_⟩⟩
 rw[Nat.zero_add,h.cellAt i (by omega),List.getElem?_map,List.getElem?_eq_getElem hi]
 simp[nth,hi]
theorem Sl.setOther {w:World}{v:Value}{zs:List Int}(h:Sl w v zs){p:Addr}(hp:v.ownBlock≠some p.block)(u:Value):Sl (w.setCell p u) v zs:=by
 obtain⟨a,cap,rfl,hl,h⟩:=h
 refine⟨a,cap,rfl,hl,?_⟩
 rcases h with h|⟨b,o,rfl,hlt,hc⟩
 ·exact .inl h
 ·have hne:b≠p.block:=fun e=>hp (by simp[Value.ownBlock,e])
  refine .inr ⟨b,o,rfl,by simpa [World.setCell] using hlt,fun i hi=>?_⟩
  rw[World.cell?_of_block (a:=⟨b,o+i,none⟩) (heap_setCell_other w p b u hne)]
  exact hc i hi
set_option maxHeartbeats 1000000 in
theorem uQ (v:Value)(zs:List Int)(k x:Int)(w:World)(h:Sl w v zs)(hn:zs.length=512)(p0:0≤k)(p1:k<512):
  Calls Tryz.prog 79 #[.agg #[v],J k,J x] w fun e w'=>∃v',e=.returned (.agg #[v'])∧Sl w' v' (zs.set k.toNat x)∧Fresh w.heap.size v'∧Below w.heap.size w w':=by
 obtain⟨b,o,cap,rfl,hb,hc⟩:=h.open512 hn
 have HC:Hid (∀i,i<512→w.cell? ⟨b,o+i,none⟩=some (J (nth zs i))):=hc
 have HN:Hid (zs.length=512):=hn
 clear hc hn
 have HW:∀A B:Obj,(((w.alloc A).alloc B).alloc (.cells #[] 3)).ownsRow (w.heap.size+1+1) 3 1 (.slice (some ⟨w.heap.size+1+1,0,none⟩) 0 0) 0 []:=fun A B=>by
  have:=kT ((w.alloc A).alloc B) (w.heap.size+1+1) (by simp)
  simpa using this
 have H1:Hid _:=HW
 clear HW
 go_enter Tryz.func79,Tryz.ntmps79
 go_wp2_with (at_builtin;refine fA rfl (.tmp 8) (.tmp 10) rfl (w.heap.size+1+1) _ rfl (H1.out _ _) b o cap zs rfl HN.out ?hc ?hbase ?hrest)
 case hbase=>simp
 case hc=>
  intro i hi
  rw[World.cell?_alloc_past _ _ _ (by simp;omega),World.cell?_alloc_past _ _ _ (by simp;omega),World.cell?_alloc_past _ _ _ (by omega)]
  exact HC.out i hi
 case hrest=>
  intro g cap' w3 hown hgr hat hlt
  have hgb:=(hown.lt g rfl).1
  have r3:w3.cell? ⟨g,k.toNat,none⟩=some (J (nth zs k.toNat)):=by
   rw[hown.cellAt k.toNat (by omega),List.getElem?_map,getElem?_nth (by have:=HN.out;omega)]
   rfl
  have r4:w3.frozen? ⟨g,k.toNat,none⟩=false:=hown.frozenAt k.toNat
  have hgs:w.heap.size+1+1+1≤w3.heap.size:=by have:=hgr.size;simpa using this
  have r1:w3.cell? ⟨w.heap.size+1,0,none⟩=some (.slice none 0 0):=by
   rw[World.cell?_of_block (a:=⟨w.heap.size+1,0,none⟩) (hgr.block (w.heap.size+1) (by simp) (by simp[Value.ownBlock]))]
   simp[go_sem]
  have r2:w3.frozen? ⟨w.heap.size+1,0,none⟩=false:=by
   rw[World.frozen?_of_block (a:=⟨w.heap.size+1,0,none⟩) (hgr.block (w.heap.size+1) (by simp) (by simp[Value.ownBlock]))]
   simp[go_sem]
  have HB3:Hid (Below w.heap.size w w3):=(aA (aA (aA (Below.refl _ _) _) _) _).grown hgr (by simp;omega) (fun k hk=>by simp[Value.ownBlock] at hk;omega)
  have HO:Hid _:=hown
  have n2:¬g=w.heap.size+1:=by omega
  clear hown hgr hat
  go_wp2
  refine bodyPost_ret (v:=.agg #[.slice (some ⟨g,0,none⟩) 512 cap']) (by simp[results,Tryz.results79,go_sem, *]) rfl ⟨_,rfl,?_,fun k hk=>by simp[Value.ownBlock] at hk;omega,?_⟩
  ·have hst:=(World.ownsRow.stored HO.out k.toNat (J x)).1
   rw[←List.map_set] at hst
   exact (qD hst (by rw[List.length_set,HN.out];simp[maxLen])).setOther (by simp[Value.ownBlock];omega) _
  ·exact (HB3.out.setCell (p:=⟨g,k.toNat,none⟩) (by show w.heap.size≤g;omega) _).setCell (p:=⟨w.heap.size+1,0,none⟩) (by show w.heap.size≤w.heap.size+1;omega) _
end Go.Proofs.YthlhocneggcekaaGreat
