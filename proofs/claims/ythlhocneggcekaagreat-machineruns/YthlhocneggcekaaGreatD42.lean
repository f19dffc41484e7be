/-
  Laid together: MHap4x, MHap, MHapR, MCopy, MCheck, MRows.
-/
import Derived.Test.YthlhocneggcekaaGreatD40
import Derived.Test.YthlhocneggcekaaGreatD41
namespace Go.Proofs.YthlhocneggcekaaGreat
open Go.RowKit
set_option maxRecDepth 10000 in
set_option maxHeartbeats 8000000 in
theorem mN (v:Value)(zs:List Int)(p:Int)(u:Value)(r:List Int)(d:Bool)(mo ba op oh ot fe fp fh ft:Int)(st lo:Bool)(vc:Value)(l:List Ln)(kd num dv a ct:Int)(wr:Bool)(y:Value)(ds:List Int)(bad:Nat→Prop)(w:World)(hs:Sl w v zs)(hr:Sl w u r)(h:Ls w vc l)(hd:Sl w y ds)(hE:chkM ⟨zs,⟨p,r,d⟩,⟨mo,ba,l,op,oh,ot,st,fe,fp,fh,ft,lo⟩⟩=0)(hN:∀q,bad q→q<w.heap.size)(f1:Off bad v)(f2:Off bad u)(f3:Off bad vc)(hk:kd=4)(hne:¬(0≤num∧num<l.length)):
  Calls Tryz.prog 35 #[.agg (rM v p u d mo ba vc op oh ot st fe fp fh ft lo),.agg #[J kd,J num,J dv,J a,J ct,.bool wr,y]] w fun e w'=>HapC bad ⟨zs,⟨p,r,d⟩,⟨mo,ba,l,op,oh,ot,st,fe,fp,fh,ft,lo⟩⟩ ⟨kd,num,dv,a,ct,wr,ds⟩ e w'∧Below w.heap.size w w':=by
 subst hk
 have HM:Hid (Sl w v zs):=hs
 have HR:Hid (Sl w u r):=hr
 have HL:Hid (Ls w vc l):=h
 have HD:Hid (Sl w y ds):=hd
 have HE:Hid (chkM _=0):=hE
 have HN:Hid (∀q,bad q→q<w.heap.size):=hN
 have F1:Hid (Off bad v):=f1
 have F2:Hid (Off bad u):=f2
 have F3:Hid (Off bad vc):=f3
 obtain⟨ma,mn,mc,rfl⟩:∃a k c,v=.slice a k c:=let ⟨a,c,e,_⟩:=hs;⟨a,_,c,e⟩
 obtain⟨ra,rn,rc,rfl⟩:∃a k c,u=.slice a k c:=let ⟨a,c,e,_⟩:=hr;⟨a,_,c,e⟩
 obtain⟨va,vn,vk,rfl⟩:∃a k c,vc=.slice a k c:=let ⟨a,c,e,_⟩:=h;⟨a,_,c,e⟩
 obtain⟨da,dn,dc,rfl⟩:∃a k c,y=.slice a k c:=let ⟨a,c,e,_⟩:=hd;⟨a,_,c,e⟩
 clear hs hr h hd hE hN f1 f2 f3
 have X0:=((((Box.newAt (w:=w) (n:=w.heap.size) rfl 33 (rM (.slice ma mn mc) p (.slice ra rn rc) d mo ba (.slice va vn vk) op oh ot st fe fp fh ft lo)).past (.cells #[J 4,J num,J dv,J a,J ct,.bool wr,.slice da dn dc] 37)).past (.cells zM 33)).past (.cells zT 40)).past (.cells zT 40)
 have X1:=(((Box.newAt (w:=(w.alloc (.cells (rM (.slice ma mn mc) p (.slice ra rn rc) d mo ba (.slice va vn vk) op oh ot st fe fp fh ft lo) 33))) (n:=w.heap.size+1) (by simp) 37 #[J 4,J num,J dv,J a,J ct,.bool wr,.slice da dn dc]).past (.cells zM 33)).past (.cells zT 40)).past (.cells zT 40)
 have X2:=((Box.newAt (w:=((w.alloc (.cells (rM (.slice ma mn mc) p (.slice ra rn rc) d mo ba (.slice va vn vk) op oh ot st fe fp fh ft lo) 33)).alloc (.cells #[J 4,J num,J dv,J a,J ct,.bool wr,.slice da dn dc] 37))) (n:=w.heap.size+1+1) (by simp) 33 zM).past (.cells zT 40)).past (.cells zT 40)
 have X3:=(Box.newAt (w:=(((w.alloc (.cells (rM (.slice ma mn mc) p (.slice ra rn rc) d mo ba (.slice va vn vk) op oh ot st fe fp fh ft lo) 33)).alloc (.cells #[J 4,J num,J dv,J a,J ct,.bool wr,.slice da dn dc] 37)).alloc (.cells zM 33))) (n:=w.heap.size+1+1+1) (by simp) 40 zT).past (.cells zT 40)
 have X4:=Box.newAt (w:=((((w.alloc (.cells (rM (.slice ma mn mc) p (.slice ra rn rc) d mo ba (.slice va vn vk) op oh ot st fe fp fh ft lo) 33)).alloc (.cells #[J 4,J num,J dv,J a,J ct,.bool wr,.slice da dn dc] 37)).alloc (.cells zM 33)).alloc (.cells zT 40))) (n:=w.heap.size+1+1+1+1) (by simp) 40 zT
 have BW:Hid (Below w.heap.size w (((((w.alloc (.cells (rM (.slice ma mn mc) p (.slice ra rn rc) d mo ba (.slice va vn vk) op oh ot st fe fp fh ft lo) 33)).alloc (.cells #[J 4,J num,J dv,J a,J ct,.bool wr,.slice da dn dc] 37)).alloc (.cells zM 33)).alloc (.cells zT 40)).alloc (.cells zT 40))):=aA (aA (aA (aA (aA (Below.refl w.heap.size w) _) _) _) _) _
 have hsz:(((((w.alloc (.cells (rM (.slice ma mn mc) p (.slice ra rn rc) d mo ba (.slice va vn vk) op oh ot st fe fp fh ft lo) 33)).alloc (.cells #[J 4,J num,J dv,J a,J ct,.bool wr,.slice da dn dc] 37)).alloc (.cells zM 33)).alloc (.cells zT 40)).alloc (.cells zT 40)).heap.size=w.heap.size+1+1+1+1+1:=by simp
 go_enter Tryz.func35,Tryz.ntmps35
 go_upto_region 2 with fail
 generalize (((((w.alloc (.cells (rM (.slice ma mn mc) p (.slice ra rn rc) d mo ba (.slice va vn vk) op oh ot st fe fp fh ft lo) 33)).alloc (.cells #[J 4,J num,J dv,J a,J ct,.bool wr,.slice da dn dc] 37)).alloc (.cells zM 33)).alloc (.cells zT 40)).alloc (.cells zT 40))=W at *
 have HSZ:Hid (W.heap.size=w.heap.size+1+1+1+1+1):=hsz
 clear hsz
 obtain⟨⟨k0,k1,k2,k3,k4,k5,k6⟩,sH⟩:=X1.seven
 have HZ:Hid (hpE ⟨zs,⟨p,r,d⟩,⟨mo,ba,l,op,oh,ot,st,fe,fp,fh,ft,lo⟩⟩ ⟨4,num,dv,a,ct,wr,ds⟩=4):=by show _=_;rw[hpE,if_pos HE.out];dsimp only;rw[if_neg (by decide),if_neg (by decide),if_neg (by decide),if_pos rfl,if_neg hne]
 obtain⟨⟨i0,i1,i2,i3⟩,⟨j0,j1,j2,j3,j4,j5,j6,j7,j8,j9,j10,j11⟩,s0⟩:=X0.sixteen
 go_wp2_with fail
 refine (sP _ l num _ (HL.out.keep BW.out) hne).mono ?_
 rintro e w1 ⟨rfl,hw⟩
 replace hw:=hw.symm
 subst hw
 clear hne
 clear i0 i1 i2 i3 j0 j1 j2 j3 j4 j5 j6 j7 j8 j9 j10 j11 s0
 clear k0 k1 k2 k3 k4 k5 k6 sH
 have B2:Hid (Below w.heap.size w (W.setCell ⟨w.heap.size,6,none⟩ (.slice none 0 0))):=aI (p:=⟨w.heap.size,6,none⟩) (Nat.le_refl _) BW.out _
 have PH:Hid (∀w',KeptB (fun q=>q=w.heap.size+1+1∨q=w.heap.size+1+1+1) (W.setCell ⟨w.heap.size,6,none⟩ (.slice none 0 0)) w'→Below w.heap.size w w'→hpE ⟨zs,⟨p,r,d⟩,⟨mo,ba,l,op,oh,ot,st,fe,fp,fh,ft,lo⟩⟩ ⟨4,num,dv,a,ct,wr,ds⟩=0→HapG bad ⟨zs,⟨p,r,d⟩,⟨mo,ba,l,op,oh,ot,st,fe,fp,fh,ft,lo⟩⟩ ⟨4,num,dv,a,ct,wr,ds⟩ w' (.slice ma mn mc) p (.slice ra rn rc) d mo ba op oh ot fe fp fh ft st lo (.slice none 0 0) false (.slice none 0 0) 0 (.slice none 0 0)):=fun w' _ _ h0=>by rw[HZ.out] at h0;exact absurd h0 (by decide)
 have Y0:Box (W.setCell ⟨w.heap.size,6,none⟩ (.slice none 0 0)) w.heap.size 33 (rM (.slice ma mn mc) p (.slice ra rn rc) d mo ba (.slice none 0 0) op oh ot st fe fp fh ft lo):=X0.set 6 _
 have Y2:=X2.other (p:=⟨w.heap.size,6,none⟩) (by dsimp only;omega) (.slice none 0 0)
 have Y3:=X3.other (p:=⟨w.heap.size,6,none⟩) (by dsimp only;omega) (.slice none 0 0)
 have Y4:=X4.other (p:=⟨w.heap.size,6,none⟩) (by dsimp only;omega) (.slice none 0 0)
 have mk:=X0.marksOf
 obtain⟨⟨i0,i1,i2,i3⟩,⟨j0,j1,j2,j3,j4,j5,j6,j7,j8,j9,j10,j11⟩,s0⟩:=X0.sixteen
 go_upto_region 12 with fail
 clear mk
 clear i0 i1 i2 i3 j0 j1 j2 j3 j4 j5 j6 j7 j8 j9 j10 j11 s0
 clear X0 X1 X2 X3 X4
 generalize (W.setCell ⟨w.heap.size,6,none⟩ (.slice none 0 0))=w2 at *
 have X0:=Y0
 have X2:=Y2
 have X3:=Y3
 have X4:=Y4
 clear Y0 Y2 Y3 Y4
 obtain⟨⟨i0,i1,i2,i3⟩,⟨j0,j1,j2,j3,j4,j5,j6,j7,j8,j9,j10,j11⟩,s0⟩:=X0.sixteen
 obtain⟨⟨q0,q1,q2,q3⟩,⟨g0,g1,g2,g3,g4,g5,g6,g7,g8,g9,g10,g11⟩,s2⟩:=X2.sixteen
 have mk:=X2.marksOf
 obtain⟨t0,t1,t2,t3,mf0,mf1,mf2,mf3,s3⟩:=X3.four
 obtain⟨z0,z1,z2,z3,-,-,-,-,s4⟩:=X4.four
 clear X0 X2 X3 X4
 have n02:¬w.heap.size=w.heap.size+1+1:=by omega
 have n03:¬w.heap.size=w.heap.size+1+1+1:=by omega
 have n20:¬w.heap.size+1+1=w.heap.size:=by omega
 have n23:¬w.heap.size+1+1=w.heap.size+1+1+1:=by omega
 have n24:¬w.heap.size+1+1=w.heap.size+1+1+1+1:=by omega
 have n30:¬w.heap.size+1+1+1=w.heap.size:=by omega
 have n32:¬w.heap.size+1+1+1=w.heap.size+1+1:=by omega
 have n34:¬w.heap.size+1+1+1=w.heap.size+1+1+1+1:=by omega
 have n42:¬w.heap.size+1+1+1+1=w.heap.size+1+1:=by omega
 have n43:¬w.heap.size+1+1+1+1=w.heap.size+1+1+1:=by omega
 go_region
 all_goals
  go_wp2
  refine bodyPost_ret (v:=.tuple #[.agg (rM (.slice ma mn mc) p (.slice ra rn rc) d mo ba (.slice none 0 0) op oh ot st fe fp fh ft lo),.agg zT,J 4]) (by simp[results,Tryz.results35,go_sem, *]) rfl ⟨⟨_,_,_,_,_,_,_,_,_,_,_,_,_,_,_,_,_,_,_,_,_,_,_,_,_,_,_,_,_,_,cK HZ.out.symm,fun h0=>PH.out _ ?_ ?_ h0⟩,?_⟩
  ·(repeat (first|with_reducible exact KeptB.refl _ _|with_reducible refine KeptB.drew ?_|with_reducible refine KeptB.alloc ?_ _|(with_reducible refine KeptB.setCell ?_ ?_ _;rotate_left;(focus (dsimp only;omega)))))
  ·(repeat (first|with_reducible exact B2.out|with_reducible refine Below.drew ?_|(with_reducible refine aX ?_ ?_ _ _ _ _ _ _ _ _ _ _ _ _ _ _ _ _;(focus omega))|(with_reducible refine aZ ?_ ?_ _ _ _ _;(focus omega))|(with_reducible refine aI ?_ ?_ _;(focus (dsimp only;omega)))))
  ·(repeat (first|with_reducible exact B2.out|with_reducible refine Below.drew ?_|(with_reducible refine aX ?_ ?_ _ _ _ _ _ _ _ _ _ _ _ _ _ _ _ _;(focus omega))|(with_reducible refine aZ ?_ ?_ _ _ _ _;(focus omega))|(with_reducible refine aI ?_ ?_ _;(focus (dsimp only;omega)))))
theorem aA5 (v:Value)(zs:List Int)(p:Int)(u:Value)(r:List Int)(d:Bool)(mo ba op oh ot fe fp fh ft:Int)(st lo:Bool)(vc:Value)(l:List Ln)(kd num dv a ct:Int)(wr:Bool)(y:Value)(ds:List Int)(bad:Nat→Prop)(w:World)(hs:Sl w v zs)(hr:Sl w u r)(h:Ls w vc l)(hd:Sl w y ds)(hE:chkM ⟨zs,⟨p,r,d⟩,⟨mo,ba,l,op,oh,ot,st,fe,fp,fh,ft,lo⟩⟩=0)(hN:∀q,bad q→q<w.heap.size)(f1:Off bad v)(f2:Off bad u)(f3:Off bad vc):
  Calls Tryz.prog 35 #[.agg (rM v p u d mo ba vc op oh ot st fe fp fh ft lo),.agg #[J kd,J num,J dv,J a,J ct,.bool wr,y]] w fun e w'=>HapC bad ⟨zs,⟨p,r,d⟩,⟨mo,ba,l,op,oh,ot,st,fe,fp,fh,ft,lo⟩⟩ ⟨kd,num,dv,a,ct,wr,ds⟩ e w'∧Below w.heap.size w w':=by
 by_cases h1:kd=1
 ·exact xT v zs p u r d mo ba op oh ot fe fp fh ft st lo vc l kd num dv a ct wr y ds bad w hs hr h hd hE hN f1 f2 f3 h1
 ·by_cases h2:kd=2
  ·exact uH v zs p u r d mo ba op oh ot fe fp fh ft st lo vc l kd num dv a ct wr y ds bad w hs hr h hd hE hN f1 f2 f3 h2
  ·by_cases h3:kd=3
   ·exact aA4 v zs p u r d mo ba op oh ot fe fp fh ft st lo vc l kd num dv a ct wr y ds bad w hs hr h hd hE hN f1 f2 f3 h3
   ·by_cases h4:kd=4
    ·by_cases h0:0≤num∧num<l.length
     ·exact nL v zs p u r d mo ba op oh ot fe fp fh ft st lo vc l kd num dv a ct wr y ds bad w hs hr h hd hE hN f1 f2 f3 h4 h0
     ·exact mN v zs p u r d mo ba op oh ot fe fp fh ft st lo vc l kd num dv a ct wr y ds bad w hs hr h hd hE hN f1 f2 f3 h4 h0
    ·exact wW v zs p u r d mo ba op oh ot fe fp fh ft st lo vc l kd num dv a ct wr y ds bad w hs hr h hd hE hN f1 f2 f3 (by omega)
theorem dG {m:Mc}{x:Hp}{cs ch:Array Value}{bad:Nat→Prop}{w:World}(hm:IsM w m cs)(hx:IsH w x ch)(hE:chkM m=0)(hN:∀q,bad q→q<w.heap.size)(ho:OffRow bad cs):
  Calls Tryz.prog 35 #[.agg cs,.agg ch] w fun e w'=>∃cs1 cs2,e=.returned (.tuple #[.agg cs1,.agg cs2,J (hpE m x)])∧HapRow bad m x w' cs1 cs2∧Below w.heap.size w w':=by
 obtain⟨zs,⟨p,r,d⟩,⟨mo,ba,l,op,oh,ot,st,fe,fp,fh,ft,lo⟩⟩:=m
 obtain⟨kd,num,dv,a,ct,wr,ds⟩:=x
 obtain⟨a1,n1,c1,a2,n2,c2,a3,n3,c3,rfl,h1,h2,h3⟩:=hm
 obtain⟨a6,n6,c6,rfl,h6⟩:=hx
 refine (aA5 _ zs p _ r d mo ba op oh ot fe fp fh ft st lo _ l kd num dv a ct wr _ ds bad w h1 h2 h3 h6 hE hN (ho 0 _ rfl) (ho 2 _ rfl) (ho 6 _ rfl)).mono ?_
 rintro e w' ⟨⟨a1,n1,c1,p1,a2,n2,c2,d1,mo1,ba1,a3,n3,c3,op1,oh1,ot1,st1,fe1,fp1,fh1,ft1,lo1,dn1,a4,n4,c4,f1,a5,n5,c5,rfl,hG⟩,hb⟩
 refine⟨_,_,rfl,⟨⟨rfl,by simp[Value.oneCell']⟩,⟨rfl,by simp[Value.oneCell']⟩,fun h0=>?_⟩,hb⟩
 obtain⟨zs1,r1,l1,dat1,tch1,hR,s1,s2,s3,s4,s5,o1,o2,o3,o4,o5⟩:=hG h0
 rw[hR]
 exact⟨⟨a1,n1,c1,a2,n2,c2,a3,n3,c3,rfl,s1,s2,s3⟩,⟨a4,n4,c4,a5,n5,c5,rfl,s4,s5⟩,offM o1 o2 o3,offT o4 o5⟩
theorem Sl.open8 {w:World}{v:Value}{r:List Int}(h:Sl w v r)(hn:r.length=8):∃b o cap,v=.slice (some ⟨b,o,none⟩) 8 cap∧b<w.heap.size∧∀i,i<8→w.cell? ⟨b,o+i,none⟩=some (J (nth r i)):=by
 obtain⟨a,cap,rfl,hl,h⟩:=h
 rcases h with rfl|⟨b,o,rfl,hb,hc⟩
 ·simp at hn
 ·exact⟨b,o,cap,by rw[hn],hb,fun i hi=>hc i (by omega)⟩
theorem copyRegs (w:World)(b o cap g:Nat)(zs:List Int)(cur:Array Value)(hn:zs.length=8)(hg:w.heap[g]?=some (.cells cur 3 (0,0)))(hcur:cur.size=8)
  (hc:∀i,i<8→w.cell? ⟨b,o+i,none⟩=some (J (nth zs i))):
  ∃w3,(Builtin.copy_ #[22,22] 3 #[.slice (some ⟨g,0,none⟩) 8 8,.slice (some ⟨b,o,none⟩) 8 cap]).run Tryz.prog w=.ok (J 8) w3∧w3.heap[g]?=some (.cells (intCells zs) 3 (0,0))∧
   (∀k,k≠g→w3.heap[k]?=w.heap[k]?)∧w3.heap.size=w.heap.size∧Below g w w3:=by
 have hl:(zs.map (fun z=>J z)).length=8:=by simp[hn]
 have h:=run_copy_row (P:=Tryz.prog) w 22 22 3 3 g 0 8 8 ⟨b,o,none⟩ 8 cap cur 3 (zs.map (fun z=>J z)) Tryz.underlying22 (by kernel_rfl) hg (by rw[hl];rfl)
  (fun j v hv=>by
   rw[List.getElem?_map] at hv
   by_cases hj:j<8
   ·rw[List.getElem?_eq_getElem (by omega)] at hv
    simp only[Option.map_some,Option.some.injEq] at hv
    have:=hc j hj
    rw[←hv]
    have ha:Addr.add ⟨b,o,none⟩ j=⟨b,o+j,none⟩:=by unfold Addr.add;split <;> simp_all
    rw[ha,this]
    simp[nth,hn,hj]
   ·rw[List.getElem?_eq_none (by omega)] at hv
    simp at hv) (by rw[hl];omega) (by
   intro v hv
   obtain⟨z,_,rfl⟩:=List.mem_map.1 hv
   rfl)
 have hd:List.drop (0+8) cur.toList=[]:=List.drop_of_length_le (by simp[hcur])
 rw[hl,hd,List.take_zero,List.nil_append,List.append_nil] at h
 exact⟨_,h,setRow_heap w g _ _ _ _ hg,fun k hk=>setRow_other w g k _ hk,by simp[World.setRow],⟨rfl,rfl,rfl,by simp[World.setRow],fun k hk=>setRow_other w g k _ (by omega)⟩⟩
def CpyA (W:World)(a b:Value)(wx:World):Prop:=
 ∃g1 g2,a=.slice (some ⟨g1,0,none⟩) 512 512∧b=.slice (some ⟨g2,0,none⟩) 8 8∧Box wx g1 3 zeroCells∧Box wx g2 3 zeroRegs∧¬g1=g2∧W.heap.size≤g1∧W.heap.size≤g2∧Below W.heap.size W wx
set_option maxRecDepth 10000 in
set_option maxHeartbeats 8000000 in
theorem xU (v:Value)(zs:List Int)(p:Int)(u:Value)(r:List Int)(d:Bool)(mo ba op oh ot fe fp fh ft:Int)(st lo:Bool)(vc:Value)(l:List Ln)(w:World)(hs:Sl w v zs)(hr:Sl w u r)(h:Ls w vc l)(hz:zs.length=512)(h8:r.length=8)(h6:l.length≤6):
  Calls Tryz.prog 36 #[.agg (rM v p u d mo ba vc op oh ot st fe fp fh ft lo)] w fun e w'=>∃g1 g2 g3,e=.returned (.agg (rM (.slice (some ⟨g1,0,none⟩) 512 512) p (.slice (some ⟨g2,0,none⟩) 8 8) d mo ba (.slice (some ⟨g3,0,none⟩) l.length l.length) op oh ot st fe fp fh ft lo))∧
   Sl w' (.slice (some ⟨g1,0,none⟩) 512 512) zs∧Sl w' (.slice (some ⟨g2,0,none⟩) 8 8) r∧Ls w' (.slice (some ⟨g3,0,none⟩) l.length l.length) l∧w.heap.size≤g1∧w.heap.size≤g2∧w.heap.size≤g3∧(g1<w'.heap.size∧g2<w'.heap.size∧g3<w'.heap.size)∧Below w.heap.size w w':=by
 have HL:Hid (Ls w vc l):=h
 obtain⟨va,vk,rfl,-⟩:=h.shape
 obtain⟨b,o,cap,rfl,hb,hc⟩:=hs.open512 hz
 obtain⟨rb,ro,rc,rfl,hrb,hrc⟩:=hr.open8 h8
 have HC:Hid (∀i,i<512→w.cell? ⟨b,o+i,none⟩=some (J (nth zs i))):=hc
 have HRC:Hid (∀i,i<8→w.cell? ⟨rb,ro+i,none⟩=some (J (nth r i))):=hrc
 have HN:Hid (zs.length=512):=hz
 have H8:Hid (r.length=8):=h8
 have H6:Hid (l.length≤6):=h6
 obtain⟨N,hN⟩:∃N,N=l.length:=⟨_,rfl⟩
 have HK:Hid (N=l.length):=hN
 have hN6:N≤6:=by omega
 rw[←hN] at HL ⊢
 clear h hs hr hc hrc hz h8 h6 hN
 have X0:=(Box.newAt (w:=w) (n:=w.heap.size) rfl 33 (rM (.slice (some ⟨b,o,none⟩) 512 cap) p (.slice (some ⟨rb,ro,none⟩) 8 rc) d mo ba (.slice va N vk) op oh ot st fe fp fh ft lo)).past (.cells zM 33)
 have X1:=Box.newAt (w:=(w.alloc (.cells (rM (.slice (some ⟨b,o,none⟩) 512 cap) p (.slice (some ⟨rb,ro,none⟩) 8 rc) d mo ba (.slice va N vk) op oh ot st fe fp fh ft lo) 33))) (n:=w.heap.size+1) (by simp) 33 zM
 have BW:Hid (Below w.heap.size w ((w.alloc (.cells (rM (.slice (some ⟨b,o,none⟩) 512 cap) p (.slice (some ⟨rb,ro,none⟩) 8 rc) d mo ba (.slice va N vk) op oh ot st fe fp fh ft lo) 33)).alloc (.cells zM 33))):=aA (aA (Below.refl w.heap.size w) _) _
 have hsz:((w.alloc (.cells (rM (.slice (some ⟨b,o,none⟩) 512 cap) p (.slice (some ⟨rb,ro,none⟩) 8 rc) d mo ba (.slice va N vk) op oh ot st fe fp fh ft lo) 33)).alloc (.cells zM 33)).heap.size=w.heap.size+1+1:=by simp
 go_enter Tryz.func36,Tryz.ntmps36
 go_upto_region 1 with fail
 generalize ((w.alloc (.cells (rM (.slice (some ⟨b,o,none⟩) 512 cap) p (.slice (some ⟨rb,ro,none⟩) 8 rc) d mo ba (.slice va N vk) op oh ot st fe fp fh ft lo) 33)).alloc (.cells zM 33))=W at *
 have HSZ:Hid (W.heap.size=w.heap.size+1+1):=hsz
 clear hsz
 obtain⟨⟨q0,q1,q2,q3⟩,⟨g0,g1,g2,g3,g4,g5,g6,g7,g8,g9,g10,g11⟩,s0⟩:=X0.sixteen
 have hm:=make512
 have hm8:=make8
 go_cut [3,4] from 6 to 15 (fun a b wx=>CpyA W a b wx)
 case first=>
  go_region
  all_goals
   go_wp2
   go_meet
   first
    | exact⟨_,_,rfl,rfl,Box.past (Box.newAt rfl _ _) _,Box.newAt (by simp) _ _,by omega,by omega,by omega,aA (aA (Below.drew (Below.refl _ _)) _) _⟩
    | exact⟨_,_,rfl,rfl,Box.newAt (by simp) _ _,Box.past (Box.newAt rfl _ _) _,by omega,by omega,by omega,aA (aA (Below.drew (Below.refl _ _)) _) _⟩
 case rest=>
  obtain⟨m1,m2,rfl,rfl,G1,G2,n12,l1,l2,hB⟩:=hcut
  clear q0 q1 q2 q3 g0 g1 g2 g3 g4 g5 g6 g7 g8 g9 g10 g11 s0
  have X0:=X0.keep hB
  have X1:=X1.keep hB
  have BC:Hid (Below w.heap.size w wc):=aB BW.out hB
  have hW:=HSZ.out
  have t1:m1<wc.heap.size:=G1.lt
  have t2:m2<wc.heap.size:=G2.lt
  clear hB BW hm hm8
  obtain⟨cur,hmk,hcs⟩:=makeLines wc N hN6
  have HCS:Hid (cur.size=N*5):=hcs
  clear hcs
  obtain⟨⟨q0,q1,q2,q3⟩,⟨g0,g1,g2,g3,g4,g5,g6,g7,g8,g9,g10,g11⟩,s0⟩:=X0.sixteen
  go_upto_region 3 with fail
  clear q0 q1 q2 q3 g0 g1 g2 g3 g4 g5 g6 g7 g8 g9 g10 g11 s0
  have X0:=X0.past (.cells cur 52)
  have X1:=X1.past (.cells cur 52)
  have G1:=G1.past (.cells cur 52)
  have G2:=G2.past (.cells cur 52)
  have G3:Box (wc.alloc (.cells cur 52)) wc.heap.size 52 cur:=Box.newAt rfl _ _
  have BD:Hid (Below w.heap.size w (wc.alloc (.cells cur 52))):=aA BC.out _
  clear hmk BC
  generalize (wc.alloc (.cells cur 52))=wd at *
  generalize wc.heap.size=m3 at *
  obtain⟨we,hcp,hg,ho,hz,hb⟩:=eK wd b o cap m1 zs zeroCells HN.out G1 (by simp[zeroCells,size_madeCells]) (fun i hi=>by rw[BD.out.cell (p:=⟨b,o+i,none⟩) (by dsimp only;omega)];exact HC.out i hi)
  obtain⟨⟨q0,q1,q2,q3⟩,⟨g0,g1,g2,g3,g4,g5,g6,g7,g8,g9,g10,g11⟩,s0⟩:=X0.sixteen
  go_upto_region 4 with fail
  clear q0 q1 q2 q3 g0 g1 g2 g3 g4 g5 g6 g7 g8 g9 g10 g11 s0
  have X0:Box we w.heap.size _ _:=(ho _ (by omega)).trans X0
  have X1:Box we (w.heap.size+1) _ _:=(ho _ (by omega)).trans X1
  have G1:Box we m1 3 (intCells zs):=hg
  have G2:Box we m2 _ _:=(ho _ (by omega)).trans G2
  have G3:Box we m3 _ _:=(ho _ (by omega)).trans G3
  have BE:Hid (Below w.heap.size w we):=BD.out.trans (hb.mono (by omega))
  clear hcp hg ho hz hb BD
  obtain⟨wf,hcp,hg,ho,hz,hb⟩:=copyRegs we rb ro rc m2 r zeroRegs H8.out G2 (by simp[zeroRegs,size_madeCells]) (fun i hi=>by rw[BE.out.cell (p:=⟨rb,ro+i,none⟩) (by dsimp only;omega)];exact HRC.out i hi)
  obtain⟨⟨q0,q1,q2,q3⟩,⟨g0,g1,g2,g3,g4,g5,g6,g7,g8,g9,g10,g11⟩,s0⟩:=X0.sixteen
  go_upto_region 5 with fail
  clear q0 q1 q2 q3 g0 g1 g2 g3 g4 g5 g6 g7 g8 g9 g10 g11 s0
  have X0:Box wf w.heap.size _ _:=(ho _ (by omega)).trans X0
  have X1:Box wf (w.heap.size+1) _ _:=(ho _ (by omega)).trans X1
  have G1:Box wf m1 3 (intCells zs):=(ho _ (by omega)).trans G1
  have G2:Box wf m2 3 (intCells r):=hg
  have G3:Box wf m3 _ _:=(ho _ (by omega)).trans G3
  have BF:Hid (Below w.heap.size w wf):=BE.out.trans (hb.mono (by omega))
  clear hcp hg ho hz hb BE
  obtain⟨wg,hcp,hg,ho,hz,hb⟩:=copyLines wf 3 (.slice va N vk) m3 l cur G3 (by rw[HCS.out,HK.out]) (HL.out.keep BF.out)
  rw[←HK.out] at hcp
  obtain⟨⟨q0,q1,q2,q3⟩,⟨g0,g1,g2,g3,g4,g5,g6,g7,g8,g9,g10,g11⟩,s0⟩:=X0.sixteen
  go_upto_region 6 with fail
  clear q0 q1 q2 q3 g0 g1 g2 g3 g4 g5 g6 g7 g8 g9 g10 g11 s0
  have X0:Box wg w.heap.size _ _:=(ho _ (by omega)).trans X0
  have X1:Box wg (w.heap.size+1) _ _:=(ho _ (by omega)).trans X1
  have G1:Box wg m1 3 (intCells zs):=(ho _ (by omega)).trans G1
  have G2:Box wg m2 3 (intCells r):=(ho _ (by omega)).trans G2
  have G3:Box wg m3 52 (l.flatMap cellsL).toArray:=hg
  have BG:Hid (Below w.heap.size w wg):=BF.out.trans (hb.mono (by omega))
  clear hcp hg ho hz hb BF
  have mk:=X0.marksOf
  obtain⟨⟨q0,q1,q2,q3⟩,⟨g0,g1,g2,g3,g4,g5,g6,g7,g8,g9,g10,g11⟩,s0⟩:=X0.sixteen
  go_upto_region 7 with fail
  clear mk
  clear q0 q1 q2 q3 g0 g1 g2 g3 g4 g5 g6 g7 g8 g9 g10 g11 s0
  have X0:Box (((wg.setCell ⟨w.heap.size,0,none⟩ (.slice (some ⟨m1,0,none⟩) 512 512)).setCell ⟨w.heap.size,2,none⟩ (.slice (some ⟨m2,0,none⟩) 8 8)).setCell ⟨w.heap.size,6,none⟩ (.slice (some ⟨m3,0,none⟩) N N)) w.heap.size 33 (rM (.slice (some ⟨m1,0,none⟩) 512 512) p (.slice (some ⟨m2,0,none⟩) 8 8) d mo ba (.slice (some ⟨m3,0,none⟩) N N) op oh ot st fe fp fh ft lo):=((X0.set 0 _).set 2 _).set 6 _
  have X1:=((X1.other (p:=⟨w.heap.size,0,none⟩) (by dsimp only;omega) (.slice (some ⟨m1,0,none⟩) 512 512)).other (p:=⟨w.heap.size,2,none⟩) (by dsimp only;omega) (.slice (some ⟨m2,0,none⟩) 8 8)).other (p:=⟨w.heap.size,6,none⟩) (by dsimp only;omega) (.slice (some ⟨m3,0,none⟩) N N)
  have G1:=((G1.other (p:=⟨w.heap.size,0,none⟩) (by dsimp only;omega) (.slice (some ⟨m1,0,none⟩) 512 512)).other (p:=⟨w.heap.size,2,none⟩) (by dsimp only;omega) (.slice (some ⟨m2,0,none⟩) 8 8)).other (p:=⟨w.heap.size,6,none⟩) (by dsimp only;omega) (.slice (some ⟨m3,0,none⟩) N N)
  have G2:=((G2.other (p:=⟨w.heap.size,0,none⟩) (by dsimp only;omega) (.slice (some ⟨m1,0,none⟩) 512 512)).other (p:=⟨w.heap.size,2,none⟩) (by dsimp only;omega) (.slice (some ⟨m2,0,none⟩) 8 8)).other (p:=⟨w.heap.size,6,none⟩) (by dsimp only;omega) (.slice (some ⟨m3,0,none⟩) N N)
  have G3:=((G3.other (p:=⟨w.heap.size,0,none⟩) (by dsimp only;omega) (.slice (some ⟨m1,0,none⟩) 512 512)).other (p:=⟨w.heap.size,2,none⟩) (by dsimp only;omega) (.slice (some ⟨m2,0,none⟩) 8 8)).other (p:=⟨w.heap.size,6,none⟩) (by dsimp only;omega) (.slice (some ⟨m3,0,none⟩) N N)
  have BH:Hid (Below w.heap.size w (((wg.setCell ⟨w.heap.size,0,none⟩ (.slice (some ⟨m1,0,none⟩) 512 512)).setCell ⟨w.heap.size,2,none⟩ (.slice (some ⟨m2,0,none⟩) 8 8)).setCell ⟨w.heap.size,6,none⟩ (.slice (some ⟨m3,0,none⟩) N N))):=aI (p:=⟨w.heap.size,6,none⟩) (Nat.le_refl _) (aI (p:=⟨w.heap.size,2,none⟩) (Nat.le_refl _) (aI (p:=⟨w.heap.size,0,none⟩) (Nat.le_refl _) BG.out _) _) _
  clear BG
  generalize (((wg.setCell ⟨w.heap.size,0,none⟩ (.slice (some ⟨m1,0,none⟩) 512 512)).setCell ⟨w.heap.size,2,none⟩ (.slice (some ⟨m2,0,none⟩) 8 8)).setCell ⟨w.heap.size,6,none⟩ (.slice (some ⟨m3,0,none⟩) N N))=wh at *
  have K:∀(n:Nat) (t:TypeId) (cs:Array Value) (_:¬n=w.heap.size+1) (_:Box wh n t cs) (w':World) (_:KeptB (fun q=>q=w.heap.size+1) wh w'),Box w' n t cs:=fun n t cs hn hx w' hk=>hx.kept hk hn
  have P1:Hid (∀w',KeptB (fun q=>q=w.heap.size+1) wh w'→Box w' m1 3 (intCells zs)):=fun w' hk=>K m1 _ _ (by omega) G1 w' hk
  have P2:Hid (∀w',KeptB (fun q=>q=w.heap.size+1) wh w'→Box w' m2 3 (intCells r)):=fun w' hk=>K m2 _ _ (by omega) G2 w' hk
  have P3:Hid (∀w',KeptB (fun q=>q=w.heap.size+1) wh w'→Ls w' (.slice (some ⟨m3,0,none⟩) N N) l):=fun w' hk=>by
   have q:=jC (K m3 _ _ (by omega) G3 w' hk) H6.out
   rw[←HK.out] at q
   exact q
  have L3:Hid (w.heap.size≤m1∧w.heap.size≤m2∧w.heap.size≤m3):=⟨by omega,by omega,by omega⟩
  have PL:Hid (∀w',KeptB (fun q=>q=w.heap.size+1) wh w'→m1<w'.heap.size∧m2<w'.heap.size∧m3<w'.heap.size):=fun w' hk=>⟨Nat.lt_of_lt_of_le G1.lt hk.size,Nat.lt_of_lt_of_le G2.lt hk.size,Nat.lt_of_lt_of_le G3.lt hk.size⟩
  clear K G1 G2 G3 n12 l1 l2 hW t1 t2
  have mk:=X1.marksOf
  obtain⟨⟨q0,q1,q2,q3⟩,⟨g0,g1,g2,g3,g4,g5,g6,g7,g8,g9,g10,g11⟩,s0⟩:=X0.sixteen
  obtain⟨⟨y0,y1,y2,y3⟩,⟨j0,j1,j2,j3,j4,j5,j6,j7,j8,j9,j10,j11⟩,s1⟩:=X1.sixteen
  clear X0 X1
  go_wp2
  refine bodyPost_ret (v:=.agg (rM (.slice (some ⟨m1,0,none⟩) 512 512) p (.slice (some ⟨m2,0,none⟩) 8 8) d mo ba (.slice (some ⟨m3,0,none⟩) N N) op oh ot st fe fp fh ft lo)) (by simp[results,Tryz.results36,go_sem, *]) rfl ⟨m1,m2,m3,rfl,bG (P1.out _ ?_) (bX zs) HN.out.symm (by rw[HN.out];decide),bG (P2.out _ ?_) (bX r) H8.out.symm (by rw[H8.out];decide),P3.out _ ?_,L3.out.1,L3.out.2.1,L3.out.2.2,PL.out _ ?_,aX (by omega) BH.out _ _ _ _ _ _ _ _ _ _ _ _ _ _ _ _⟩
  all_goals (repeat (first|with_reducible exact KeptB.refl _ _|(with_reducible refine KeptB.setCell ?_ ?_ _;rotate_left;(focus (dsimp only;omega)))))
set_option maxRecDepth 10000 in
set_option maxHeartbeats 4000000 in
theorem uJ (v:Value)(zs:List Int)(p:Int)(u:Value)(r:List Int)(d:Bool)(mo ba op oh ot fe fp fh ft:Int)(st lo:Bool)(vc:Value)(l:List Ln)(w:World)(hs:Sl w v zs)(hr:Sl w u r)(h:Ls w vc l):
  Calls Tryz.prog 14 #[.agg (rM v p u d mo ba vc op oh ot st fe fp fh ft lo)] w fun e w'=>e=.returned (J (chkM ⟨zs,⟨p,r,d⟩,⟨mo,ba,l,op,oh,ot,st,fe,fp,fh,ft,lo⟩⟩))∧Below w.heap.size w w':=by
 have HM:Hid (Sl w v zs):=hs
 have HR:Hid (Sl w u r):=hr
 have HL:Hid (Ls w vc l):=h
 obtain⟨a1,n1,c1,rfl⟩:∃a k c,v=.slice a k c:=let ⟨a,c,e,_⟩:=hs;⟨a,_,c,e⟩
 obtain⟨a2,n2,c2,rfl⟩:∃a k c,u=.slice a k c:=let ⟨a,c,e,_⟩:=hr;⟨a,_,c,e⟩
 obtain⟨ca,cc,rfl,-⟩:=h.shape
 obtain⟨ck,hck⟩:∃ck,ck=l.length:=⟨_,rfl⟩
 rw[←hck] at HL ⊢
 clear hs hr h hck
 have HT:Hid (chkM ⟨zs,⟨p,r,d⟩,⟨mo,ba,l,op,oh,ot,st,fe,fp,fh,ft,lo⟩⟩=if chk zs=0 then (if chkH ⟨p,r,d⟩=0 then chkB ⟨mo,ba,l,op,oh,ot,st,fe,fp,fh,ft,lo⟩ else chkH ⟨p,r,d⟩) else chk zs):=rfl
 have X0:=Box.newAt (w:=w) (n:=w.heap.size) rfl 33 (rM (.slice a1 n1 c1) p (.slice a2 n2 c2) d mo ba (.slice ca ck cc) op oh ot st fe fp fh ft lo)
 have BW:Hid (Below w.heap.size w _):=aA (Below.refl w.heap.size w) (.cells (rM (.slice a1 n1 c1) p (.slice a2 n2 c2) d mo ba (.slice ca ck cc) op oh ot st fe fp fh ft lo) 33)
 go_enter Tryz.func14,Tryz.ntmps14
 go_upto_region 1 with fail
 generalize (w.alloc (.cells (rM (.slice a1 n1 c1) p (.slice a2 n2 c2) d mo ba (.slice ca ck cc) op oh ot st fe fp fh ft lo) 33))=W at *
 obtain⟨⟨q0,q1,q2,q3⟩,⟨g0,g1,g2,g3,g4,g5,g6,g7,g8,g9,g10,g11⟩,s0⟩:=X0.sixteen
 go_wp2_with fail
 refine (cE _ zs _ (HM.out.keep BW.out)).mono ?_
 rintro e w1 ⟨rfl,k1⟩
 have X0:=X0.keep k1
 have B1:Hid (Below w.heap.size w w1):=aB BW.out k1
 clear k1 BW
 clear q0 q1 q2 q3 g0 g1 g2 g3 g4 g5 g6 g7 g8 g9 g10 g11 s0
 obtain⟨⟨q0,q1,q2,q3⟩,⟨g0,g1,g2,g3,g4,g5,g6,g7,g8,g9,g10,g11⟩,s0⟩:=X0.sixteen
 obtain⟨z1,hz1⟩:∃z1,chk zs=z1:=⟨_,rfl⟩
 rw[hz1] at HT ⊢
 clear hz1
 by_cases e1:z1=0
 rotate_left
 ·have q:(z1 !=0)=true:=by simpa using e1
  have HF:Hid (chkM ⟨zs,⟨p,r,d⟩,⟨mo,ba,l,op,oh,ot,st,fe,fp,fh,ft,lo⟩⟩=z1):=by show _=_;rw[HT.out,if_neg e1]
  clear e1 HT
  go_wp2_with fail
  go_ret
  exact⟨aM HF.out.symm,B1.out⟩
 subst e1
 rw[if_pos rfl] at HT
 go_wp2_with fail
 refine (mI p _ r d _ (HR.out.keep B1.out)).mono ?_
 rintro e w2 ⟨rfl,k2⟩
 have X0:=X0.keep k2
 have B2:Hid (Below w.heap.size w w2):=aB B1.out k2
 clear k2 B1
 clear q0 q1 q2 q3 g0 g1 g2 g3 g4 g5 g6 g7 g8 g9 g10 g11 s0
 obtain⟨⟨q0,q1,q2,q3⟩,⟨g0,g1,g2,g3,g4,g5,g6,g7,g8,g9,g10,g11⟩,s0⟩:=X0.sixteen
 obtain⟨z2,hz2⟩:∃z2,chkH ⟨p,r,d⟩=z2:=⟨_,rfl⟩
 rw[hz2] at HT ⊢
 clear hz2
 by_cases e2:z2=0
 rotate_left
 ·have q:(z2 !=0)=true:=by simpa using e2
  have HF:Hid (chkM ⟨zs,⟨p,r,d⟩,⟨mo,ba,l,op,oh,ot,st,fe,fp,fh,ft,lo⟩⟩=z2):=by show _=_;rw[HT.out,if_neg e2]
  clear e2 HT
  go_wp2_with fail
  go_ret
  exact⟨aM HF.out.symm,B2.out⟩
 subst e2
 rw[if_pos rfl] at HT
 go_wp2_with fail
 refine (cV mo ba op oh ot fe fp fh ft st lo _ l _ (HL.out.keep B2.out)).mono ?_
 rintro e w3 ⟨rfl,k3⟩
 rw[←HT.out]
 go_wp2_with fail
 go_ret
 exact⟨rfl,aB B2.out k3⟩
theorem eY {m:Mc}{cs:Array Value}{w:World}(hm:IsM w m cs):Calls Tryz.prog 14 #[.agg cs] w fun e w'=>e=.returned (J (chkM m))∧Below w.heap.size w w':=by
 obtain⟨zs,⟨p,r,d⟩,⟨mo,ba,l,op,oh,ot,st,fe,fp,fh,ft,lo⟩⟩:=m
 obtain⟨a1,n1,c1,a2,n2,c2,a3,n3,c3,rfl,h1,h2,h3⟩:=hm
 exact uJ _ zs p _ r d mo ba op oh ot fe fp fh ft st lo _ l w h1 h2 h3
theorem eO {m:Mc}{cs:Array Value}{w:World}(hm:IsM w m cs)(hE:chkM m=0):Calls Tryz.prog 36 #[.agg cs] w fun e w'=>∃cs1,e=.returned (.agg cs1)∧IsM w' m cs1∧OffRow (fun q=>q<w.heap.size∨w'.heap.size≤q) cs1∧Below w.heap.size w w':=by
 obtain⟨zs,⟨p,r,d⟩,⟨mo,ba,l,op,oh,ot,st,fe,fp,fh,ft,lo⟩⟩:=m
 obtain⟨a1,n1,c1,a2,n2,c2,a3,n3,c3,rfl,h1,h2,h3⟩:=hm
 obtain⟨q1,q2,q3⟩:=bW hE
 refine (xU _ zs p _ r d mo ba op oh ot fe fp fh ft st lo _ l w h1 h2 h3 (bF q1).1 (cR q2).1 (aW.1 (bK q3).2.2.2.1).1).mono ?_
 rintro e w' ⟨g1,g2,g3,rfl,s1,s2,s3,l1,l2,l3,⟨u1,u2,u3⟩,hb⟩
 exact⟨_,rfl,⟨_,_,_,_,_,_,_,_,_,rfl,s1,s2,s3⟩,offM (fun q hq hb=>by simp[Value.ownBlock] at hq;omega) (fun q hq hb=>by simp[Value.ownBlock] at hq;omega) (fun q hq hb=>by simp[Value.ownBlock] at hq;omega),hb⟩
theorem HapRow.of {bad:Nat→Prop}{m:Mc}{x:Hp}{w:World}{cs1 cs2:Array Value}(h:HapRow bad m x w cs1 cs2)(h0:hpE m x=0):IsM w (hpR m x).1 cs1∧IsT w (hpR m x).2 cs2∧OffRow bad cs1∧OffRow bad cs2:=h.2.2 h0
theorem aCg {m:Mc}(x:Hp)(h:¬chkM m=0):hpE m x=chkM m:=by rw[hpE,if_neg h]
theorem kY {m:Mc}{x:Hp}(h:¬hpE m x=0):hpR m x=(M0,T0):=by rw[hpR,if_neg h]
abbrev DoC (m:Mc)(x:Hp)(w:World)(e:Ending)(w':World):Prop:=
 ∃cs1 cs2,e=.returned (.tuple #[.agg cs1,.agg cs2,J (hpE m x)])∧IsM w' (hpR m x).1 cs1∧IsT w' (hpR m x).2 cs2∧OffRow (fun q=>q<w.heap.size) cs1∧OffRow (fun q=>q<w.heap.size) cs2∧Below w.heap.size w w'
def DoA (m:Mc)(x:Hp)(w1:World)(s8 s9 s10:Value)(wx:World):Prop:=
 ∃n8 n9 cs1 cs2,s8=.pointer (some ⟨n8,0,none⟩)∧s9=.pointer (some ⟨n9,0,none⟩)∧s10=J (hpE m x)∧w1.heap.size≤n8∧w1.heap.size≤n9∧
  Box wx n8 33 cs1∧Box wx n9 40 cs2∧HapRow (fun q=>q<w1.heap.size) m x wx cs1 cs2∧Below w1.heap.size w1 wx
end Go.Proofs.YthlhocneggcekaaGreat
