/-
  Laid together: HSet, HSet2.
-/
import Derived.Test.YthlhocneggcekaaGreatD21
import Derived.Test.YthlhocneggcekaaGreatD26
namespace Go.Proofs.YthlhocneggcekaaGreat
open Go.RowKit
theorem fU {b:Br}(h:chkB b=0){i v:Int}(hv:0≤v)(hi:i=0∨i=1∨i=2∨i=3∨i=5∨i=6):(chkB (setB b i v)==0)=decide (v≤mostB i):=by
 by_cases hm:v≤mostB i
 ·rw[decide_eq_true hm,nZ h hv hm];rfl
 ·rw[decide_eq_false hm]
  have:¬chkB (setB b i v)=0:=by
   intro e
   obtain⟨g1,g2,g3,g4,g5,g6⟩:=bK e
   obtain⟨r1,r2,r3⟩:=dC g5
   obtain⟨s1,s2,s3⟩:=dC g6
   have r1:=dL r1
   have r3:=bS r3
   have s1:=dL s1
   have s2:=bS s2
   rcases hi with rfl|rfl|rfl|rfl|rfl|rfl <;> simp[setB,mostB] at*<;> omega
  simpa using this
theorem box12N {N:Nat}{W w':World}{n:Nat}{t:TypeId}{a0 a1 a2 a3 a4 a5 a6 a7 a8 a9 a10 a11:Value}(h:Box W n t #[a0,a1,a2,a3,a4,a5,a6,a7,a8,a9,a10,a11])(hn:n<N)(hb:Below N W w'):
  (w'.cell? ⟨n,0,none⟩=some a0∧w'.cell? ⟨n,1,none⟩=some a1∧w'.cell? ⟨n,2,none⟩=some a2∧w'.cell? ⟨n,3,none⟩=some a3∧w'.cell? ⟨n,4,none⟩=some a4∧w'.cell? ⟨n,5,none⟩=some a5∧w'.cell? ⟨n,6,none⟩=some a6∧w'.cell? ⟨n,7,none⟩=some a7∧w'.cell? ⟨n,8,none⟩=some a8∧w'.cell? ⟨n,9,none⟩=some a9∧w'.cell? ⟨n,10,none⟩=some a10∧w'.cell? ⟨n,11,none⟩=some a11)∧Below N W w':=
 ⟨(Box.twelve (show Box w' n t #[a0,a1,a2,a3,a4,a5,a6,a7,a8,a9,a10,a11] from (hb.block n hn).trans h)).1,hb⟩
theorem limb2 {A B:Prop}(h:A∧B):B:=h.2
abbrev SetOut (mo ba op oh ot fe fp fh ft:Int)(st lo:Bool)(vc:Value)(l:List Ln)(i v:Int)(w:World)(e:Ending)(w':World):Prop:=
 ∃mo1 ba1 op1 oh1 ot1 fe1 fp1 fh1 ft1 st1 lo1 ca1 ck1 cc1,e=.returned (.tuple #[.agg (rB mo1 ba1 (.slice ca1 ck1 cc1) op1 oh1 ot1 st1 fe1 fp1 fh1 ft1 lo1),.bool (decide (v≤mostB i))])∧
  (v≤mostB i→vc=.slice ca1 ck1 cc1∧setB ⟨mo,ba,l,op,oh,ot,st,fe,fp,fh,ft,lo⟩ i v=⟨mo1,ba1,l,op1,oh1,ot1,st1,fe1,fp1,fh1,ft1,lo1⟩)∧Below w.heap.size w w'
set_option maxRecDepth 10000 in
set_option maxHeartbeats 4000000 in
theorem set_0 (mo ba op oh ot fe fp fh ft:Int)(st lo:Bool)(vc:Value)(l:List Ln)(v:Int)(w:World)(h:Ls w vc l)(hb:chkB ⟨mo,ba,l,op,oh,ot,st,fe,fp,fh,ft,lo⟩=0)(hv:0≤v):
  Calls Tryz.prog 171 #[.agg (rB mo ba vc op oh ot st fe fp fh ft lo),J 0,J v] w fun e w'=>SetOut mo ba op oh ot fe fp fh ft st lo vc l 0 v w e w':=by
 have HL:Hid (Ls w vc l):=h
 obtain⟨ca,cc,rfl,-⟩:=h.shape
 obtain⟨ck,hck⟩:∃ck,ck=l.length:=⟨_,rfl⟩
 rw[←hck] at HL ⊢
 have HC:Hid ((chkB (setB ⟨mo,ba,l,op,oh,ot,st,fe,fp,fh,ft,lo⟩ 0 v)==0)=decide (v≤mostB 0)):=fU hb hv (by simp)
 have HS:Hid (setB ⟨mo,ba,l,op,oh,ot,st,fe,fp,fh,ft,lo⟩ 0 v=⟨v,ba,l,op,oh,ot,st,fe,fp,fh,ft,lo⟩):=rfl
 obtain⟨c,hc⟩:∃c,chkB ⟨v,ba,l,op,oh,ot,st,fe,fp,fh,ft,lo⟩=c:=⟨_,rfl⟩
 have HCC:Hid (chkB ⟨v,ba,l,op,oh,ot,st,fe,fp,fh,ft,lo⟩=c):=hc
 obtain⟨ok,hok⟩:∃ok,(c==0)=ok:=⟨_,rfl⟩
 have HOK:Hid (decide (v≤mostB 0)=ok):=by show _=_;rw[←HC.out,HS.out,hc,hok]
 clear h hb hv hck hc HC
 go_enter Tryz.func171,Tryz.ntmps171
 have X0:=(Box.newAt (w:=w) (n:=w.heap.size) rfl 31 (rB v ba (.slice ca ck cc) op oh ot st fe fp fh ft lo)).past (.cells zB 31)
 have X1:=Box.newAt (w:=w.alloc (.cells (rB v ba (.slice ca ck cc) op oh ot st fe fp fh ft lo) 31)) (n:=w.heap.size+1) (by simp) 31 zB
 have B0:Hid (Below w.heap.size w _):=aA (aA (Below.refl w.heap.size w) (.cells (rB v ba (.slice ca ck cc) op oh ot st fe fp fh ft lo) 31)) (.cells zB 31)
 go_upto_region 18 with fail
 generalize ((w.alloc (.cells (rB v ba (.slice ca ck cc) op oh ot st fe fp fh ft lo) 31)).alloc (.cells zB 31))=W at *
 have n0:w.heap.size<w.heap.size+1:=by omega
 have nW:w.heap.size+1≤W.heap.size:=by have:=X1.lt;omega
 have nV:w.heap.size≤w.heap.size+1:=by omega
 obtain⟨⟨d0,d1,d2,d3,d4,d5,d6,d7,d8,d9,d10,d11⟩,s0⟩:=X0.twelve
 go_region_held3 (fun w'=>(w'.cell? ⟨w.heap.size,0,none⟩=some (J v)∧w'.cell? ⟨w.heap.size,1,none⟩=some (J ba)∧w'.cell? ⟨w.heap.size,2,none⟩=some (.slice ca ck cc)∧w'.cell? ⟨w.heap.size,3,none⟩=some (J op)∧w'.cell? ⟨w.heap.size,4,none⟩=some (J oh)∧w'.cell? ⟨w.heap.size,5,none⟩=some (J ot)∧w'.cell? ⟨w.heap.size,6,none⟩=some (.bool st)∧w'.cell? ⟨w.heap.size,7,none⟩=some (J fe)∧w'.cell? ⟨w.heap.size,8,none⟩=some (J fp)∧w'.cell? ⟨w.heap.size,9,none⟩=some (J fh)∧w'.cell? ⟨w.heap.size,10,none⟩=some (J ft)∧w'.cell? ⟨w.heap.size,11,none⟩=some (.bool lo))∧Below (w.heap.size+1) W w')
  (with_reducible refine box12N X0 n0 ?_;(repeat (first|with_reducible assumption|(with_reducible (refine limb2 (?_:_∧_);assumption))|with_reducible exact Below.refl _ _|with_reducible refine Below.drew ?_|with_reducible refine below_drewN ?_ _|(with_reducible refine bU nW ?_ _)|(with_reducible refine cS ?_ ?_ _;(focus (first|with_reducible exact Nat.le_refl _|with_reducible exact Nat.le_succ _)))|(with_reducible refine bV (by assumption) nW ?_))))
  (first
   | (go_at_call 43;refine (cV v ba op oh ot fe fp fh ft st lo _ l _ ?_).mono ?_;(focus (refine HL.out.keep (B0.out.trans (Below.mono ?_ nV));(repeat (first|with_reducible assumption|(with_reducible (refine limb2 (?_:_∧_);assumption))|with_reducible exact Below.refl _ _|with_reducible refine Below.drew ?_|with_reducible refine below_drewN ?_ _|(with_reducible refine bU nW ?_ _)|(with_reducible refine cS ?_ ?_ _;(focus (first|with_reducible exact Nat.le_refl _|with_reducible exact Nat.le_succ _)))|(with_reducible refine bV (by assumption) nW ?_)))));rintro e w5 ⟨rfl,b5⟩;rw[HCC.out];obtain⟨⟨u0,u1,u2,u3,u4,u5,u6,u7,u8,u9,u10,u11⟩,s5⟩:=(X1.drew.keep b5).twelve;have f5:=(X1.drew.keep b5).marksAll))
 rename_i hH
 have hB:=limb2 hH
 clear hH
 have HB:Hid (Below w.heap.size w _):=B0.out.trans (hB.mono nV)
 clear hB
 go_wp2
 refine bodyPost_ret (v:=.tuple #[.agg (rB v ba (.slice ca ck cc) op oh ot st fe fp fh ft lo),.bool ok]) (by simp[results,Tryz.results171,go_sem, *]) rfl ⟨_,_,_,_,_,_,_,_,_,_,_,_,_,_,by rw[HOK.out],fun _=>⟨rfl,HS.out⟩,HB.out⟩
set_option maxRecDepth 10000 in
set_option maxHeartbeats 4000000 in
theorem set_1 (mo ba op oh ot fe fp fh ft:Int)(st lo:Bool)(vc:Value)(l:List Ln)(v:Int)(w:World)(h:Ls w vc l)(hb:chkB ⟨mo,ba,l,op,oh,ot,st,fe,fp,fh,ft,lo⟩=0)(hv:0≤v):
  Calls Tryz.prog 171 #[.agg (rB mo ba vc op oh ot st fe fp fh ft lo),J 1,J v] w fun e w'=>SetOut mo ba op oh ot fe fp fh ft st lo vc l 1 v w e w':=by
 have HL:Hid (Ls w vc l):=h
 obtain⟨ca,cc,rfl,-⟩:=h.shape
 obtain⟨ck,hck⟩:∃ck,ck=l.length:=⟨_,rfl⟩
 rw[←hck] at HL ⊢
 have HC:Hid ((chkB (setB ⟨mo,ba,l,op,oh,ot,st,fe,fp,fh,ft,lo⟩ 1 v)==0)=decide (v≤mostB 1)):=fU hb hv (by simp)
 have HS:Hid (setB ⟨mo,ba,l,op,oh,ot,st,fe,fp,fh,ft,lo⟩ 1 v=⟨mo,v,l,op,oh,ot,st,fe,fp,fh,ft,lo⟩):=rfl
 obtain⟨c,hc⟩:∃c,chkB ⟨mo,v,l,op,oh,ot,st,fe,fp,fh,ft,lo⟩=c:=⟨_,rfl⟩
 have HCC:Hid (chkB ⟨mo,v,l,op,oh,ot,st,fe,fp,fh,ft,lo⟩=c):=hc
 obtain⟨ok,hok⟩:∃ok,(c==0)=ok:=⟨_,rfl⟩
 have HOK:Hid (decide (v≤mostB 1)=ok):=by show _=_;rw[←HC.out,HS.out,hc,hok]
 clear h hb hv hck hc HC
 go_enter Tryz.func171,Tryz.ntmps171
 have X0:=(Box.newAt (w:=w) (n:=w.heap.size) rfl 31 (rB mo v (.slice ca ck cc) op oh ot st fe fp fh ft lo)).past (.cells zB 31)
 have X1:=Box.newAt (w:=w.alloc (.cells (rB mo v (.slice ca ck cc) op oh ot st fe fp fh ft lo) 31)) (n:=w.heap.size+1) (by simp) 31 zB
 have B0:Hid (Below w.heap.size w _):=aA (aA (Below.refl w.heap.size w) (.cells (rB mo v (.slice ca ck cc) op oh ot st fe fp fh ft lo) 31)) (.cells zB 31)
 go_upto_region 18 with fail
 generalize ((w.alloc (.cells (rB mo v (.slice ca ck cc) op oh ot st fe fp fh ft lo) 31)).alloc (.cells zB 31))=W at *
 have n0:w.heap.size<w.heap.size+1:=by omega
 have nW:w.heap.size+1≤W.heap.size:=by have:=X1.lt;omega
 have nV:w.heap.size≤w.heap.size+1:=by omega
 obtain⟨⟨d0,d1,d2,d3,d4,d5,d6,d7,d8,d9,d10,d11⟩,s0⟩:=X0.twelve
 go_region_held3 (fun w'=>(w'.cell? ⟨w.heap.size,0,none⟩=some (J mo)∧w'.cell? ⟨w.heap.size,1,none⟩=some (J v)∧w'.cell? ⟨w.heap.size,2,none⟩=some (.slice ca ck cc)∧w'.cell? ⟨w.heap.size,3,none⟩=some (J op)∧w'.cell? ⟨w.heap.size,4,none⟩=some (J oh)∧w'.cell? ⟨w.heap.size,5,none⟩=some (J ot)∧w'.cell? ⟨w.heap.size,6,none⟩=some (.bool st)∧w'.cell? ⟨w.heap.size,7,none⟩=some (J fe)∧w'.cell? ⟨w.heap.size,8,none⟩=some (J fp)∧w'.cell? ⟨w.heap.size,9,none⟩=some (J fh)∧w'.cell? ⟨w.heap.size,10,none⟩=some (J ft)∧w'.cell? ⟨w.heap.size,11,none⟩=some (.bool lo))∧Below (w.heap.size+1) W w')
  (with_reducible refine box12N X0 n0 ?_;(repeat (first|with_reducible assumption|(with_reducible (refine limb2 (?_:_∧_);assumption))|with_reducible exact Below.refl _ _|with_reducible refine Below.drew ?_|with_reducible refine below_drewN ?_ _|(with_reducible refine bU nW ?_ _)|(with_reducible refine cS ?_ ?_ _;(focus (first|with_reducible exact Nat.le_refl _|with_reducible exact Nat.le_succ _)))|(with_reducible refine bV (by assumption) nW ?_))))
  (first
   | (go_at_call 43;refine (cV mo v op oh ot fe fp fh ft st lo _ l _ ?_).mono ?_;(focus (refine HL.out.keep (B0.out.trans (Below.mono ?_ nV));(repeat (first|with_reducible assumption|(with_reducible (refine limb2 (?_:_∧_);assumption))|with_reducible exact Below.refl _ _|with_reducible refine Below.drew ?_|with_reducible refine below_drewN ?_ _|(with_reducible refine bU nW ?_ _)|(with_reducible refine cS ?_ ?_ _;(focus (first|with_reducible exact Nat.le_refl _|with_reducible exact Nat.le_succ _)))|(with_reducible refine bV (by assumption) nW ?_)))));rintro e w5 ⟨rfl,b5⟩;rw[HCC.out];obtain⟨⟨u0,u1,u2,u3,u4,u5,u6,u7,u8,u9,u10,u11⟩,s5⟩:=(X1.drew.keep b5).twelve;have f5:=(X1.drew.keep b5).marksAll))
 rename_i hH
 have hB:=limb2 hH
 clear hH
 have HB:Hid (Below w.heap.size w _):=B0.out.trans (hB.mono nV)
 clear hB
 go_wp2
 refine bodyPost_ret (v:=.tuple #[.agg (rB mo v (.slice ca ck cc) op oh ot st fe fp fh ft lo),.bool ok]) (by simp[results,Tryz.results171,go_sem, *]) rfl ⟨_,_,_,_,_,_,_,_,_,_,_,_,_,_,by rw[HOK.out],fun _=>⟨rfl,HS.out⟩,HB.out⟩
set_option maxRecDepth 10000 in
set_option maxHeartbeats 4000000 in
theorem set_2 (mo ba op oh ot fe fp fh ft:Int)(st lo:Bool)(vc:Value)(l:List Ln)(v:Int)(w:World)(h:Ls w vc l)(hb:chkB ⟨mo,ba,l,op,oh,ot,st,fe,fp,fh,ft,lo⟩=0)(hv:0≤v):
  Calls Tryz.prog 171 #[.agg (rB mo ba vc op oh ot st fe fp fh ft lo),J 2,J v] w fun e w'=>SetOut mo ba op oh ot fe fp fh ft st lo vc l 2 v w e w':=by
 have HL:Hid (Ls w vc l):=h
 obtain⟨ca,cc,rfl,-⟩:=h.shape
 obtain⟨ck,hck⟩:∃ck,ck=l.length:=⟨_,rfl⟩
 rw[←hck] at HL ⊢
 have HC:Hid ((chkB (setB ⟨mo,ba,l,op,oh,ot,st,fe,fp,fh,ft,lo⟩ 2 v)==0)=decide (v≤mostB 2)):=fU hb hv (by simp)
 have HS:Hid (setB ⟨mo,ba,l,op,oh,ot,st,fe,fp,fh,ft,lo⟩ 2 v=⟨mo,ba,l,v,oh,ot,st,fe,fp,fh,ft,lo⟩):=rfl
 obtain⟨c,hc⟩:∃c,chkB ⟨mo,ba,l,v,oh,ot,st,fe,fp,fh,ft,lo⟩=c:=⟨_,rfl⟩
 have HCC:Hid (chkB ⟨mo,ba,l,v,oh,ot,st,fe,fp,fh,ft,lo⟩=c):=hc
 obtain⟨ok,hok⟩:∃ok,(c==0)=ok:=⟨_,rfl⟩
 have HOK:Hid (decide (v≤mostB 2)=ok):=by show _=_;rw[←HC.out,HS.out,hc,hok]
 clear h hb hv hck hc HC
 go_enter Tryz.func171,Tryz.ntmps171
 have X0:=(Box.newAt (w:=w) (n:=w.heap.size) rfl 31 (rB mo ba (.slice ca ck cc) v oh ot st fe fp fh ft lo)).past (.cells zB 31)
 have X1:=Box.newAt (w:=w.alloc (.cells (rB mo ba (.slice ca ck cc) v oh ot st fe fp fh ft lo) 31)) (n:=w.heap.size+1) (by simp) 31 zB
 have B0:Hid (Below w.heap.size w _):=aA (aA (Below.refl w.heap.size w) (.cells (rB mo ba (.slice ca ck cc) v oh ot st fe fp fh ft lo) 31)) (.cells zB 31)
 go_upto_region 18 with fail
 generalize ((w.alloc (.cells (rB mo ba (.slice ca ck cc) v oh ot st fe fp fh ft lo) 31)).alloc (.cells zB 31))=W at *
 have n0:w.heap.size<w.heap.size+1:=by omega
 have nW:w.heap.size+1≤W.heap.size:=by have:=X1.lt;omega
 have nV:w.heap.size≤w.heap.size+1:=by omega
 obtain⟨⟨d0,d1,d2,d3,d4,d5,d6,d7,d8,d9,d10,d11⟩,s0⟩:=X0.twelve
 go_region_held3 (fun w'=>(w'.cell? ⟨w.heap.size,0,none⟩=some (J mo)∧w'.cell? ⟨w.heap.size,1,none⟩=some (J ba)∧w'.cell? ⟨w.heap.size,2,none⟩=some (.slice ca ck cc)∧w'.cell? ⟨w.heap.size,3,none⟩=some (J v)∧w'.cell? ⟨w.heap.size,4,none⟩=some (J oh)∧w'.cell? ⟨w.heap.size,5,none⟩=some (J ot)∧w'.cell? ⟨w.heap.size,6,none⟩=some (.bool st)∧w'.cell? ⟨w.heap.size,7,none⟩=some (J fe)∧w'.cell? ⟨w.heap.size,8,none⟩=some (J fp)∧w'.cell? ⟨w.heap.size,9,none⟩=some (J fh)∧w'.cell? ⟨w.heap.size,10,none⟩=some (J ft)∧w'.cell? ⟨w.heap.size,11,none⟩=some (.bool lo))∧Below (w.heap.size+1) W w')
  (with_reducible refine box12N X0 n0 ?_;(repeat (first|with_reducible assumption|(with_reducible (refine limb2 (?_:_∧_);assumption))|with_reducible exact Below.refl _ _|with_reducible refine Below.drew ?_|with_reducible refine below_drewN ?_ _|(with_reducible refine bU nW ?_ _)|(with_reducible refine cS ?_ ?_ _;(focus (first|with_reducible exact Nat.le_refl _|with_reducible exact Nat.le_succ _)))|(with_reducible refine bV (by assumption) nW ?_))))
  (first
   | (go_at_call 43;refine (cV mo ba v oh ot fe fp fh ft st lo _ l _ ?_).mono ?_;(focus (refine HL.out.keep (B0.out.trans (Below.mono ?_ nV));(repeat (first|with_reducible assumption|(with_reducible (refine limb2 (?_:_∧_);assumption))|with_reducible exact Below.refl _ _|with_reducible refine Below.drew ?_|with_reducible refine below_drewN ?_ _|(with_reducible refine bU nW ?_ _)|(with_reducible refine cS ?_ ?_ _;(focus (first|with_reducible exact Nat.le_refl _|with_reducible exact Nat.le_succ _)))|(with_reducible refine bV (by assumption) nW ?_)))));rintro e w5 ⟨rfl,b5⟩;rw[HCC.out];obtain⟨⟨u0,u1,u2,u3,u4,u5,u6,u7,u8,u9,u10,u11⟩,s5⟩:=(X1.drew.keep b5).twelve;have f5:=(X1.drew.keep b5).marksAll))
 rename_i hH
 have hB:=limb2 hH
 clear hH
 have HB:Hid (Below w.heap.size w _):=B0.out.trans (hB.mono nV)
 clear hB
 go_wp2
 refine bodyPost_ret (v:=.tuple #[.agg (rB mo ba (.slice ca ck cc) v oh ot st fe fp fh ft lo),.bool ok]) (by simp[results,Tryz.results171,go_sem, *]) rfl ⟨_,_,_,_,_,_,_,_,_,_,_,_,_,_,by rw[HOK.out],fun _=>⟨rfl,HS.out⟩,HB.out⟩
set_option maxRecDepth 10000 in
set_option maxHeartbeats 4000000 in
theorem set_3 (mo ba op oh ot fe fp fh ft:Int)(st lo:Bool)(vc:Value)(l:List Ln)(v:Int)(w:World)(h:Ls w vc l)(hb:chkB ⟨mo,ba,l,op,oh,ot,st,fe,fp,fh,ft,lo⟩=0)(hv:0≤v):
  Calls Tryz.prog 171 #[.agg (rB mo ba vc op oh ot st fe fp fh ft lo),J 3,J v] w fun e w'=>SetOut mo ba op oh ot fe fp fh ft st lo vc l 3 v w e w':=by
 have HL:Hid (Ls w vc l):=h
 obtain⟨ca,cc,rfl,-⟩:=h.shape
 obtain⟨ck,hck⟩:∃ck,ck=l.length:=⟨_,rfl⟩
 rw[←hck] at HL ⊢
 have HC:Hid ((chkB (setB ⟨mo,ba,l,op,oh,ot,st,fe,fp,fh,ft,lo⟩ 3 v)==0)=decide (v≤mostB 3)):=fU hb hv (by simp)
 have HS:Hid (setB ⟨mo,ba,l,op,oh,ot,st,fe,fp,fh,ft,lo⟩ 3 v=⟨mo,ba,l,op,oh,v,st,fe,fp,fh,ft,lo⟩):=rfl
 obtain⟨c,hc⟩:∃c,chkB ⟨mo,ba,l,op,oh,v,st,fe,fp,fh,ft,lo⟩=c:=⟨_,rfl⟩
 have HCC:Hid (chkB ⟨mo,ba,l,op,oh,v,st,fe,fp,fh,ft,lo⟩=c):=hc
 obtain⟨ok,hok⟩:∃ok,(c==0)=ok:=⟨_,rfl⟩
 have HOK:Hid (decide (v≤mostB 3)=ok):=by show _=_;rw[←HC.out,HS.out,hc,hok]
 clear h hb hv hck hc HC
 go_enter Tryz.func171,Tryz.ntmps171
 have X0:=(Box.newAt (w:=w) (n:=w.heap.size) rfl 31 (rB mo ba (.slice ca ck cc) op oh v st fe fp fh ft lo)).past (.cells zB 31)
 have X1:=Box.newAt (w:=w.alloc (.cells (rB mo ba (.slice ca ck cc) op oh v st fe fp fh ft lo) 31)) (n:=w.heap.size+1) (by simp) 31 zB
 have B0:Hid (Below w.heap.size w _):=aA (aA (Below.refl w.heap.size w) (.cells (rB mo ba (.slice ca ck cc) op oh v st fe fp fh ft lo) 31)) (.cells zB 31)
 go_upto_region 18 with fail
 generalize ((w.alloc (.cells (rB mo ba (.slice ca ck cc) op oh v st fe fp fh ft lo) 31)).alloc (.cells zB 31))=W at *
 have n0:w.heap.size<w.heap.size+1:=by omega
 have nW:w.heap.size+1≤W.heap.size:=by have:=X1.lt;omega
 have nV:w.heap.size≤w.heap.size+1:=by omega
 obtain⟨⟨d0,d1,d2,d3,d4,d5,d6,d7,d8,d9,d10,d11⟩,s0⟩:=X0.twelve
 go_region_held3 (fun w'=>(w'.cell? ⟨w.heap.size,0,none⟩=some (J mo)∧w'.cell? ⟨w.heap.size,1,none⟩=some (J ba)∧w'.cell? ⟨w.heap.size,2,none⟩=some (.slice ca ck cc)∧w'.cell? ⟨w.heap.size,3,none⟩=some (J op)∧w'.cell? ⟨w.heap.size,4,none⟩=some (J oh)∧w'.cell? ⟨w.heap.size,5,none⟩=some (J v)∧w'.cell? ⟨w.heap.size,6,none⟩=some (.bool st)∧w'.cell? ⟨w.heap.size,7,none⟩=some (J fe)∧w'.cell? ⟨w.heap.size,8,none⟩=some (J fp)∧w'.cell? ⟨w.heap.size,9,none⟩=some (J fh)∧w'.cell? ⟨w.heap.size,10,none⟩=some (J ft)∧w'.cell? ⟨w.heap.size,11,none⟩=some (.bool lo))∧Below (w.heap.size+1) W w')
  (with_reducible refine box12N X0 n0 ?_;(repeat (first|with_reducible assumption|(with_reducible (refine limb2 (?_:_∧_);assumption))|with_reducible exact Below.refl _ _|with_reducible refine Below.drew ?_|with_reducible refine below_drewN ?_ _|(with_reducible refine bU nW ?_ _)|(with_reducible refine cS ?_ ?_ _;(focus (first|with_reducible exact Nat.le_refl _|with_reducible exact Nat.le_succ _)))|(with_reducible refine bV (by assumption) nW ?_))))
  (first
   | (go_at_call 43;refine (cV mo ba op oh v fe fp fh ft st lo _ l _ ?_).mono ?_;(focus (refine HL.out.keep (B0.out.trans (Below.mono ?_ nV));(repeat (first|with_reducible assumption|(with_reducible (refine limb2 (?_:_∧_);assumption))|with_reducible exact Below.refl _ _|with_reducible refine Below.drew ?_|with_reducible refine below_drewN ?_ _|(with_reducible refine bU nW ?_ _)|(with_reducible refine cS ?_ ?_ _;(focus (first|with_reducible exact Nat.le_refl _|with_reducible exact Nat.le_succ _)))|(with_reducible refine bV (by assumption) nW ?_)))));rintro e w5 ⟨rfl,b5⟩;rw[HCC.out];obtain⟨⟨u0,u1,u2,u3,u4,u5,u6,u7,u8,u9,u10,u11⟩,s5⟩:=(X1.drew.keep b5).twelve;have f5:=(X1.drew.keep b5).marksAll))
 rename_i hH
 have hB:=limb2 hH
 clear hH
 have HB:Hid (Below w.heap.size w _):=B0.out.trans (hB.mono nV)
 clear hB
 go_wp2
 refine bodyPost_ret (v:=.tuple #[.agg (rB mo ba (.slice ca ck cc) op oh v st fe fp fh ft lo),.bool ok]) (by simp[results,Tryz.results171,go_sem, *]) rfl ⟨_,_,_,_,_,_,_,_,_,_,_,_,_,_,by rw[HOK.out],fun _=>⟨rfl,HS.out⟩,HB.out⟩
set_option maxRecDepth 10000 in
set_option maxHeartbeats 4000000 in
theorem set_5 (mo ba op oh ot fe fp fh ft:Int)(st lo:Bool)(vc:Value)(l:List Ln)(v:Int)(w:World)(h:Ls w vc l)(hb:chkB ⟨mo,ba,l,op,oh,ot,st,fe,fp,fh,ft,lo⟩=0)(hv:0≤v):
  Calls Tryz.prog 171 #[.agg (rB mo ba vc op oh ot st fe fp fh ft lo),J 5,J v] w fun e w'=>SetOut mo ba op oh ot fe fp fh ft st lo vc l 5 v w e w':=by
 have HL:Hid (Ls w vc l):=h
 obtain⟨ca,cc,rfl,-⟩:=h.shape
 obtain⟨ck,hck⟩:∃ck,ck=l.length:=⟨_,rfl⟩
 rw[←hck] at HL ⊢
 have HC:Hid ((chkB (setB ⟨mo,ba,l,op,oh,ot,st,fe,fp,fh,ft,lo⟩ 5 v)==0)=decide (v≤mostB 5)):=fU hb hv (by simp)
 have HS:Hid (setB ⟨mo,ba,l,op,oh,ot,st,fe,fp,fh,ft,lo⟩ 5 v=⟨mo,ba,l,op,oh,ot,st,fe,v,fh,ft,lo⟩):=rfl
 obtain⟨c,hc⟩:∃c,chkB ⟨mo,ba,l,op,oh,ot,st,fe,v,fh,ft,lo⟩=c:=⟨_,rfl⟩
 have HCC:Hid (chkB ⟨mo,ba,l,op,oh,ot,st,fe,v,fh,ft,lo⟩=c):=hc
 obtain⟨ok,hok⟩:∃ok,(c==0)=ok:=⟨_,rfl⟩
 have HOK:Hid (decide (v≤mostB 5)=ok):=by show _=_;rw[←HC.out,HS.out,hc,hok]
 clear h hb hv hck hc HC
 go_enter Tryz.func171,Tryz.ntmps171
 have X0:=(Box.newAt (w:=w) (n:=w.heap.size) rfl 31 (rB mo ba (.slice ca ck cc) op oh ot st fe v fh ft lo)).past (.cells zB 31)
 have X1:=Box.newAt (w:=w.alloc (.cells (rB mo ba (.slice ca ck cc) op oh ot st fe v fh ft lo) 31)) (n:=w.heap.size+1) (by simp) 31 zB
 have B0:Hid (Below w.heap.size w _):=aA (aA (Below.refl w.heap.size w) (.cells (rB mo ba (.slice ca ck cc) op oh ot st fe v fh ft lo) 31)) (.cells zB 31)
 go_upto_region 18 with fail
 generalize ((w.alloc (.cells (rB mo ba (.slice ca ck cc) op oh ot st fe v fh ft lo) 31)).alloc (.cells zB 31))=W at *
 have n0:w.heap.size<w.heap.size+1:=by omega
 have nW:w.heap.size+1≤W.heap.size:=by have:=X1.lt;omega
 have nV:w.heap.size≤w.heap.size+1:=by omega
 obtain⟨⟨d0,d1,d2,d3,d4,d5,d6,d7,d8,d9,d10,d11⟩,s0⟩:=X0.twelve
 go_region_held3 (fun w'=>(w'.cell? ⟨w.heap.size,0,none⟩=some (J mo)∧w'.cell? ⟨w.heap.size,1,none⟩=some (J ba)∧w'.cell? ⟨w.heap.size,2,none⟩=some (.slice ca ck cc)∧w'.cell? ⟨w.heap.size,3,none⟩=some (J op)∧w'.cell? ⟨w.heap.size,4,none⟩=some (J oh)∧w'.cell? ⟨w.heap.size,5,none⟩=some (J ot)∧w'.cell? ⟨w.heap.size,6,none⟩=some (.bool st)∧w'.cell? ⟨w.heap.size,7,none⟩=some (J fe)∧w'.cell? ⟨w.heap.size,8,none⟩=some (J v)∧w'.cell? ⟨w.heap.size,9,none⟩=some (J fh)∧w'.cell? ⟨w.heap.size,10,none⟩=some (J ft)∧w'.cell? ⟨w.heap.size,11,none⟩=some (.bool lo))∧Below (w.heap.size+1) W w')
  (with_reducible refine box12N X0 n0 ?_;(repeat (first|with_reducible assumption|(with_reducible (refine limb2 (?_:_∧_);assumption))|with_reducible exact Below.refl _ _|with_reducible refine Below.drew ?_|with_reducible refine below_drewN ?_ _|(with_reducible refine bU nW ?_ _)|(with_reducible refine cS ?_ ?_ _;(focus (first|with_reducible exact Nat.le_refl _|with_reducible exact Nat.le_succ _)))|(with_reducible refine bV (by assumption) nW ?_))))
  (first
   | (go_at_call 43;refine (cV mo ba op oh ot fe v fh ft st lo _ l _ ?_).mono ?_;(focus (refine HL.out.keep (B0.out.trans (Below.mono ?_ nV));(repeat (first|with_reducible assumption|(with_reducible (refine limb2 (?_:_∧_);assumption))|with_reducible exact Below.refl _ _|with_reducible refine Below.drew ?_|with_reducible refine below_drewN ?_ _|(with_reducible refine bU nW ?_ _)|(with_reducible refine cS ?_ ?_ _;(focus (first|with_reducible exact Nat.le_refl _|with_reducible exact Nat.le_succ _)))|(with_reducible refine bV (by assumption) nW ?_)))));rintro e w5 ⟨rfl,b5⟩;rw[HCC.out];obtain⟨⟨u0,u1,u2,u3,u4,u5,u6,u7,u8,u9,u10,u11⟩,s5⟩:=(X1.drew.keep b5).twelve;have f5:=(X1.drew.keep b5).marksAll))
 rename_i hH
 have hB:=limb2 hH
 clear hH
 have HB:Hid (Below w.heap.size w _):=B0.out.trans (hB.mono nV)
 clear hB
 go_wp2
 refine bodyPost_ret (v:=.tuple #[.agg (rB mo ba (.slice ca ck cc) op oh ot st fe v fh ft lo),.bool ok]) (by simp[results,Tryz.results171,go_sem, *]) rfl ⟨_,_,_,_,_,_,_,_,_,_,_,_,_,_,by rw[HOK.out],fun _=>⟨rfl,HS.out⟩,HB.out⟩
set_option maxRecDepth 10000 in
set_option maxHeartbeats 4000000 in
theorem set_6 (mo ba op oh ot fe fp fh ft:Int)(st lo:Bool)(vc:Value)(l:List Ln)(v:Int)(w:World)(h:Ls w vc l)(hb:chkB ⟨mo,ba,l,op,oh,ot,st,fe,fp,fh,ft,lo⟩=0)(hv:0≤v):
  Calls Tryz.prog 171 #[.agg (rB mo ba vc op oh ot st fe fp fh ft lo),J 6,J v] w fun e w'=>SetOut mo ba op oh ot fe fp fh ft st lo vc l 6 v w e w':=by
 have HL:Hid (Ls w vc l):=h
 obtain⟨ca,cc,rfl,-⟩:=h.shape
 obtain⟨ck,hck⟩:∃ck,ck=l.length:=⟨_,rfl⟩
 rw[←hck] at HL ⊢
 have HC:Hid ((chkB (setB ⟨mo,ba,l,op,oh,ot,st,fe,fp,fh,ft,lo⟩ 6 v)==0)=decide (v≤mostB 6)):=fU hb hv (by simp)
 have HS:Hid (setB ⟨mo,ba,l,op,oh,ot,st,fe,fp,fh,ft,lo⟩ 6 v=⟨mo,ba,l,op,oh,ot,st,fe,fp,v,ft,lo⟩):=rfl
 obtain⟨c,hc⟩:∃c,chkB ⟨mo,ba,l,op,oh,ot,st,fe,fp,v,ft,lo⟩=c:=⟨_,rfl⟩
 have HCC:Hid (chkB ⟨mo,ba,l,op,oh,ot,st,fe,fp,v,ft,lo⟩=c):=hc
 obtain⟨ok,hok⟩:∃ok,(c==0)=ok:=⟨_,rfl⟩
 have HOK:Hid (decide (v≤mostB 6)=ok):=by show _=_;rw[←HC.out,HS.out,hc,hok]
 clear h hb hv hck hc HC
 go_enter Tryz.func171,Tryz.ntmps171
 have X0:=(Box.newAt (w:=w) (n:=w.heap.size) rfl 31 (rB mo ba (.slice ca ck cc) op oh ot st fe fp v ft lo)).past (.cells zB 31)
 have X1:=Box.newAt (w:=w.alloc (.cells (rB mo ba (.slice ca ck cc) op oh ot st fe fp v ft lo) 31)) (n:=w.heap.size+1) (by simp) 31 zB
 have B0:Hid (Below w.heap.size w _):=aA (aA (Below.refl w.heap.size w) (.cells (rB mo ba (.slice ca ck cc) op oh ot st fe fp v ft lo) 31)) (.cells zB 31)
 go_upto_region 18 with fail
 generalize ((w.alloc (.cells (rB mo ba (.slice ca ck cc) op oh ot st fe fp v ft lo) 31)).alloc (.cells zB 31))=W at *
 have n0:w.heap.size<w.heap.size+1:=by omega
 have nW:w.heap.size+1≤W.heap.size:=by have:=X1.lt;omega
 have nV:w.heap.size≤w.heap.size+1:=by omega
 obtain⟨⟨d0,d1,d2,d3,d4,d5,d6,d7,d8,d9,d10,d11⟩,s0⟩:=X0.twelve
 go_region_held3 (fun w'=>(w'.cell? ⟨w.heap.size,0,none⟩=some (J mo)∧w'.cell? ⟨w.heap.size,1,none⟩=some (J ba)∧w'.cell? ⟨w.heap.size,2,none⟩=some (.slice ca ck cc)∧w'.cell? ⟨w.heap.size,3,none⟩=some (J op)∧w'.cell? ⟨w.heap.size,4,none⟩=some (J oh)∧w'.cell? ⟨w.heap.size,5,none⟩=some (J ot)∧w'.cell? ⟨w.heap.size,6,none⟩=some (.bool st)∧w'.cell? ⟨w.heap.size,7,none⟩=some (J fe)∧w'.cell? ⟨w.heap.size,8,none⟩=some (J fp)∧w'.cell? ⟨w.heap.size,9,none⟩=some (J v)∧w'.cell? ⟨w.heap.size,10,none⟩=some (J ft)∧w'.cell? ⟨w.heap.size,11,none⟩=some (.bool lo))∧Below (w.heap.size+1) W w')
  (with_reducible refine box12N X0 n0 ?_;(repeat (first|with_reducible assumption|(with_reducible (refine limb2 (?_:_∧_);assumption))|with_reducible exact Below.refl _ _|with_reducible refine Below.drew ?_|with_reducible refine below_drewN ?_ _|(with_reducible refine bU nW ?_ _)|(with_reducible refine cS ?_ ?_ _;(focus (first|with_reducible exact Nat.le_refl _|with_reducible exact Nat.le_succ _)))|(with_reducible refine bV (by assumption) nW ?_))))
  (first
   | (go_at_call 43;refine (cV mo ba op oh ot fe fp v ft st lo _ l _ ?_).mono ?_;(focus (refine HL.out.keep (B0.out.trans (Below.mono ?_ nV));(repeat (first|with_reducible assumption|(with_reducible (refine limb2 (?_:_∧_);assumption))|with_reducible exact Below.refl _ _|with_reducible refine Below.drew ?_|with_reducible refine below_drewN ?_ _|(with_reducible refine bU nW ?_ _)|(with_reducible refine cS ?_ ?_ _;(focus (first|with_reducible exact Nat.le_refl _|with_reducible exact Nat.le_succ _)))|(with_reducible refine bV (by assumption) nW ?_)))));rintro e w5 ⟨rfl,b5⟩;rw[HCC.out];obtain⟨⟨u0,u1,u2,u3,u4,u5,u6,u7,u8,u9,u10,u11⟩,s5⟩:=(X1.drew.keep b5).twelve;have f5:=(X1.drew.keep b5).marksAll))
 rename_i hH
 have hB:=limb2 hH
 clear hH
 have HB:Hid (Below w.heap.size w _):=B0.out.trans (hB.mono nV)
 clear hB
 go_wp2
 refine bodyPost_ret (v:=.tuple #[.agg (rB mo ba (.slice ca ck cc) op oh ot st fe fp v ft lo),.bool ok]) (by simp[results,Tryz.results171,go_sem, *]) rfl ⟨_,_,_,_,_,_,_,_,_,_,_,_,_,_,by rw[HOK.out],fun _=>⟨rfl,HS.out⟩,HB.out⟩
set_option maxRecDepth 10000 in
set_option maxHeartbeats 4000000 in
theorem set_9 (mo ba op oh ot fe fp fh ft:Int)(st lo:Bool)(vc:Value)(l:List Ln)(v:Int)(w:World)(h:Ls w vc l)(hv:0≤v):
  Calls Tryz.prog 171 #[.agg (rB mo ba vc op oh ot st fe fp fh ft lo),J 9,J v] w fun e w'=>SetOut mo ba op oh ot fe fp fh ft st lo vc l 9 v w e w':=by
 obtain⟨ca,cc,rfl,-⟩:=h.shape
 obtain⟨ck,hck⟩:∃ck,ck=l.length:=⟨_,rfl⟩
 rw[←hck]
 have HS:Hid (setB ⟨mo,ba,l,op,oh,ot,st,fe,fp,fh,ft,lo⟩ 9 v=⟨mo,ba,l,op,oh,ot,false,fe,fp,fh,ft,false⟩):=rfl
 obtain⟨ok,hok⟩:∃ok,(v==0)=ok:=⟨_,rfl⟩
 have HOK:Hid (decide (v≤mostB 9)=ok):=by
  show _=_
  rw[←hok]
  have:mostB 9=0:=rfl
  rw[this]
  by_cases e:v=0
  ·subst e;rfl
  ·rw[decide_eq_false (by omega)];simpa using e
 clear h hv hck
 go_enter Tryz.func171,Tryz.ntmps171
 go_wp2
 refine bodyPost_ret (v:=.tuple #[.agg (rB mo ba (.slice ca ck cc) op oh ot false fe fp fh ft false),.bool ok]) (by simp[results,Tryz.results171,go_sem, *]) rfl ⟨_,_,_,_,_,_,_,_,_,_,_,_,_,_,by rw[HOK.out],fun _=>⟨rfl,HS.out⟩,?_⟩
 exact aA (aA (Below.refl _ _) _) _
set_option maxRecDepth 10000 in
set_option maxHeartbeats 4000000 in
theorem set_no (mo ba op oh ot fe fp fh ft:Int)(st lo:Bool)(vc:Value)(l:List Ln)(i v:Int)(w:World)(h:Ls w vc l)(hv:0≤v)(hi:¬(i=0∨i=1∨i=2∨i=3∨i=5∨i=6∨i=9)):
  Calls Tryz.prog 171 #[.agg (rB mo ba vc op oh ot st fe fp fh ft lo),J i,J v] w fun e w'=>SetOut mo ba op oh ot fe fp fh ft st lo vc l i v w e w':=by
 obtain⟨ca,cc,rfl,-⟩:=h.shape
 obtain⟨ck,hck⟩:∃ck,ck=l.length:=⟨_,rfl⟩
 rw[←hck]
 have hm:mostB i=-1:=by unfold mostB;rw[if_neg (by omega),if_neg (by omega),if_neg (by omega),if_neg (by omega)]
 have HM:Hid (decide (v≤mostB i)=false):=decide_eq_false (by rw[hm];omega)
 have i0:(i==0)=false:=by simp;omega
 have i1:(i==1)=false:=by simp;omega
 have i2:(i==2)=false:=by simp;omega
 have i3:(i==3)=false:=by simp;omega
 have i5:(i==5)=false:=by simp;omega
 have i6:(i==6)=false:=by simp;omega
 have i9:(i==9)=false:=by simp;omega
 clear h hv hck hi hm
 go_enter Tryz.func171,Tryz.ntmps171
 go_wp2
 refine bodyPost_ret (v:=.tuple #[.agg zB,.bool false]) (by simp[results,Tryz.results171,go_sem, *]) rfl ⟨_,_,_,_,_,_,_,_,_,_,_,_,_,_,by rw[HM.out],fun q=>absurd q (of_decide_eq_false HM.out),?_⟩
 exact aA (aA (Below.refl _ _) _) _
theorem vK (mo ba op oh ot fe fp fh ft:Int)(st lo:Bool)(vc:Value)(l:List Ln)(i v:Int)(w:World)(h:Ls w vc l)(hb:chkB ⟨mo,ba,l,op,oh,ot,st,fe,fp,fh,ft,lo⟩=0)(hv:0≤v):
  Calls Tryz.prog 171 #[.agg (rB mo ba vc op oh ot st fe fp fh ft lo),J i,J v] w fun e w'=>SetOut mo ba op oh ot fe fp fh ft st lo vc l i v w e w':=by
 by_cases hi:i=0∨i=1∨i=2∨i=3∨i=5∨i=6∨i=9
 ·rcases hi with rfl|rfl|rfl|rfl|rfl|rfl|rfl
  ·exact set_0 mo ba op oh ot fe fp fh ft st lo vc l v w h hb hv
  ·exact set_1 mo ba op oh ot fe fp fh ft st lo vc l v w h hb hv
  ·exact set_2 mo ba op oh ot fe fp fh ft st lo vc l v w h hb hv
  ·exact set_3 mo ba op oh ot fe fp fh ft st lo vc l v w h hb hv
  ·exact set_5 mo ba op oh ot fe fp fh ft st lo vc l v w h hb hv
  ·exact set_6 mo ba op oh ot fe fp fh ft st lo vc l v w h hb hv
  ·exact set_9 mo ba op oh ot fe fp fh ft st lo vc l v w h hv
 ·exact set_no mo ba op oh ot fe fp fh ft st lo vc l i v w h hv hi
end Go.Proofs.YthlhocneggcekaaGreat
