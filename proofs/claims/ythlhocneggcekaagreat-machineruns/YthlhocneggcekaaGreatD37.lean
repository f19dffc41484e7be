/-
  Laid together: HDo3, HDo4, HNext.
-/
import Derived.Test.YthlhocneggcekaaGreatD36
namespace Go.Proofs.YthlhocneggcekaaGreat
open Go.RowKit
set_option maxRecDepth 10000 in
set_option maxHeartbeats 4000000 in
theorem do_6 (am:Option Addr)(nm cm:Nat)(zs:List Int)(p:Int)(rs:List Int)(mo ba op oh ot fe fp fh ft:Int)(st lo:Bool)(ca:Option Addr)(ck cc:Nat)(l:List Ln)(x y i:Int)(w:World)(_:Sl w (.slice am nm cm) zs)(_:Ls w (.slice ca ck cc) l)(_:chkB ⟨mo,ba,l,op,oh,ot,st,fe,fp,fh,ft,lo⟩=0)(_:chk zs=0)(h8:rs.length=8)(hw:∀j,j<8→0≤nth rs j∧nth rs j≤65535)(hx:0≤x∧x≤7)(hy:0≤y∧y≤7)(hi:0≤i∧i≤63):
  Calls Tryz.prog 132 #[.agg (rS (.slice am nm cm) (nextP p) rs mo ba (.slice ca ck cc) op oh ot st fe fp fh ft lo),.agg #[J 6,J x,J y,J i]] w fun e w'=>DoH am nm cm zs p rs mo ba op oh ot fe fp fh ft st lo ca ck cc l 6 x y i w e w':=by
 obtain⟨hx0,hx1⟩:=hx
 obtain⟨hy0,hy1⟩:=hy
 obtain⟨hi0,hi1⟩:=hi
 have hx9:x<8:=by omega
 have hy9:y<8:=by omega
 have hx8:x.toNat<8:=by omega
 have hy8:y.toNat<8:=by omega
 have H8:Hid (rs.length=8):=h8
 have rx:=hw x.toNat hx8
 have ry:=hw y.toNat hy8
 obtain⟨one,h1⟩:∃one,nth rs x.toNat=one:=⟨_,rfl⟩
 obtain⟨two,h2⟩:∃two,nth rs y.toNat=two:=⟨_,rfl⟩
 have H1:Hid (nth rs x.toNat=one):=h1
 have H2:Hid (nth rs y.toNat=two):=h2
 rw[h1] at rx
 rw[h2] at ry
 obtain⟨pc,hpc⟩:∃pc,nextP p=pc:=⟨_,rfl⟩
 rw[hpc]
 have HPC:Hid (nextP p=pc):=hpc
 clear hpc
 by_cases e:one=two
 ·focus
   have HT:Hid (exeI zs ⟨p,rs,false⟩ ⟨mo,ba,l,op,oh,ot,st,fe,fp,fh,ft,lo⟩ 6 x y i=(zs,⟨i,rs,false⟩,⟨mo,ba,l,op,oh,ot,st,fe,fp,fh,ft,lo⟩)):=by show _=_;rw[exeI,if_neg (by decide),if_neg (by decide),if_neg (by decide),if_neg (by decide),if_neg (by decide),if_pos rfl,h1,h2,if_pos e]
   have hq:(one==two)=true:=by simpa using e
   clear h1 h2 h8 hw rx ry e
   go_enter Tryz.func132,Tryz.ntmps132
   go_upto_region 10 with fail
   have X0:=((Box.newAt (w:=w) (n:=w.heap.size) rfl 154 (rS (.slice am nm cm) pc rs mo ba (.slice ca ck cc) op oh ot st fe fp fh ft lo)).past (.cells #[J 6,J x,J y,J i] 130)).past (.cells zS 154)
   have X1:=(Box.newAt (w:=w.alloc (.cells (rS (.slice am nm cm) pc rs mo ba (.slice ca ck cc) op oh ot st fe fp fh ft lo) 154)) (n:=w.heap.size+1) (by simp) 130 #[J 6,J x,J y,J i]).past (.cells zS 154)
   have X2:=Box.newAt (w:=(w.alloc (.cells (rS (.slice am nm cm) pc rs mo ba (.slice ca ck cc) op oh ot st fe fp fh ft lo) 154)).alloc (.cells #[J 6,J x,J y,J i] 130)) (n:=w.heap.size+1+1) (by simp) 154 zS
   have B0:Hid (Below w.heap.size w _):=aA (aA (aA (Below.refl w.heap.size w) (.cells (rS (.slice am nm cm) pc rs mo ba (.slice ca ck cc) op oh ot st fe fp fh ft lo) 154)) (.cells #[J 6,J x,J y,J i] 130)) (.cells zS 154)
   have W3:Hid ((((w.alloc (.cells (rS (.slice am nm cm) pc rs mo ba (.slice ca ck cc) op oh ot st fe fp fh ft lo) 154)).alloc (.cells #[J 6,J x,J y,J i] 130)).alloc (.cells zS 154)).heap.size=w.heap.size+1+1+1):=by show _=_;simp
   generalize (((w.alloc (.cells (rS (.slice am nm cm) pc rs mo ba (.slice ca ck cc) op oh ot st fe fp fh ft lo) 154)).alloc (.cells #[J 6,J x,J y,J i] 130)).alloc (.cells zS 154))=W at *
   obtain⟨⟨q0,q1,q2,q3,q4,q5,q6,q7,q8,q9⟩,-,s0⟩:=X0.state
   obtain⟨i0,i1,i2,i3,-,-,-,-,s1⟩:=X1.four
   have gx:=X0.reg hx8
   rw[H1.out] at gx
   have gy:=X0.reg hy8
   rw[H2.out] at gy
   go_quiet (fail)
   have Y0:=Box.set (X0.drewN nq) 1 (J i)
   have Y0:Box ((W.drewN nq).setCell ⟨w.heap.size,1,none⟩ (J i)) w.heap.size 154 (rS (.slice am nm cm) i rs mo ba (.slice ca ck cc) op oh ot st fe fp fh ft lo):=Y0
   have Y2:=(X2.drewN nq).other (p:=⟨w.heap.size,1,none⟩) (by show w.heap.size+1+1≠w.heap.size;omega) (J i)
   have B6:Hid (Below w.heap.size w ((W.drewN nq).setCell ⟨w.heap.size,1,none⟩ (J i))):=aI (by show w.heap.size≤w.heap.size;omega) (aH B0.out _) _
   have fx:=X0.marksAll
   go_upto_region 20 with fail
   clear gx gy fx X0 X2 X1 i0 i1 i2 i3 s1 q0 q1 q2 q3 q4 q5 q6 q7 q8 q9 s0
   generalize ((W.drewN nq).setCell ⟨w.heap.size,1,none⟩ (J i))=W6 at *
   go_wp2_with (first
   | (refine wpList_load_row rfl 154 (.tmp 2) rfl w.heap.size rfl _ _ _ _ Y0 Tryz.underlying154 rfl infoState ?_)
   | (refine wpList_store_row rfl 154 (.tmp 4) (.tmp 93) rfl (w.heap.size+1+1) _ rfl rfl _ _ Y2 infoState rfl (stateOne _ _ _ _ _ _ _ _ _ _ _ _ _ _ _ _ _ _ _ _ _ _ _ _ _ _) ?_))
   have hl:=Box.loadState (Y2.setRow (rS (.slice am nm cm) i rs mo ba (.slice ca ck cc) op oh ot st fe fp fh ft lo)) rfl
   refine bodyPost_ret (v:=.tuple #[.agg (rS (.slice am nm cm) i rs mo ba (.slice ca ck cc) op oh ot st fe fp fh ft lo),.bool true]) (by simp[results,Tryz.results132,asAddr,hl]) rfl ⟨_,_,_,_,_,_,_,_,_,_,_,_,_,_,_,_,_,_,_,_,rfl,fun h=>(by cases h),fun _=>⟨zs,HT.out,H8.out,rfl,.inl ⟨rfl,rfl⟩⟩,aG (by omega) B6.out _⟩
 ·focus
   have HT:Hid (exeI zs ⟨p,rs,false⟩ ⟨mo,ba,l,op,oh,ot,st,fe,fp,fh,ft,lo⟩ 6 x y i=(zs,⟨pc,rs,false⟩,⟨mo,ba,l,op,oh,ot,st,fe,fp,fh,ft,lo⟩)):=by show _=_;rw[exeI,if_neg (by decide),if_neg (by decide),if_neg (by decide),if_neg (by decide),if_neg (by decide),if_pos rfl,h1,h2,if_neg e,HPC.out]
   have hq:(one==two)=false:=by simpa using e
   clear h1 h2 h8 hw rx ry e
   go_enter Tryz.func132,Tryz.ntmps132
   go_upto_region 10 with fail
   have X0:=((Box.newAt (w:=w) (n:=w.heap.size) rfl 154 (rS (.slice am nm cm) pc rs mo ba (.slice ca ck cc) op oh ot st fe fp fh ft lo)).past (.cells #[J 6,J x,J y,J i] 130)).past (.cells zS 154)
   have X1:=(Box.newAt (w:=w.alloc (.cells (rS (.slice am nm cm) pc rs mo ba (.slice ca ck cc) op oh ot st fe fp fh ft lo) 154)) (n:=w.heap.size+1) (by simp) 130 #[J 6,J x,J y,J i]).past (.cells zS 154)
   have X2:=Box.newAt (w:=(w.alloc (.cells (rS (.slice am nm cm) pc rs mo ba (.slice ca ck cc) op oh ot st fe fp fh ft lo) 154)).alloc (.cells #[J 6,J x,J y,J i] 130)) (n:=w.heap.size+1+1) (by simp) 154 zS
   have B0:Hid (Below w.heap.size w _):=aA (aA (aA (Below.refl w.heap.size w) (.cells (rS (.slice am nm cm) pc rs mo ba (.slice ca ck cc) op oh ot st fe fp fh ft lo) 154)) (.cells #[J 6,J x,J y,J i] 130)) (.cells zS 154)
   have W3:Hid ((((w.alloc (.cells (rS (.slice am nm cm) pc rs mo ba (.slice ca ck cc) op oh ot st fe fp fh ft lo) 154)).alloc (.cells #[J 6,J x,J y,J i] 130)).alloc (.cells zS 154)).heap.size=w.heap.size+1+1+1):=by show _=_;simp
   generalize (((w.alloc (.cells (rS (.slice am nm cm) pc rs mo ba (.slice ca ck cc) op oh ot st fe fp fh ft lo) 154)).alloc (.cells #[J 6,J x,J y,J i] 130)).alloc (.cells zS 154))=W at *
   obtain⟨⟨q0,q1,q2,q3,q4,q5,q6,q7,q8,q9⟩,-,s0⟩:=X0.state
   obtain⟨i0,i1,i2,i3,-,-,-,-,s1⟩:=X1.four
   have gx:=X0.reg hx8
   rw[H1.out] at gx
   have gy:=X0.reg hy8
   rw[H2.out] at gy
   go_quiet (fail)
   have Y0:=X0.drewN nq
   have Y2:=X2.drewN nq
   have B6:Hid (Below w.heap.size w (W.drewN nq)):=aH B0.out _
   clear gx gy X0 X2 X1 i0 i1 i2 i3 s1 q0 q1 q2 q3 q4 q5 q6 q7 q8 q9 s0
   generalize W.drewN nq=W6 at *
   go_wp2_with (first
   | (refine wpList_load_row rfl 154 (.tmp 2) rfl w.heap.size rfl _ _ _ _ Y0 Tryz.underlying154 rfl infoState ?_)
   | (refine wpList_store_row rfl 154 (.tmp 4) (.tmp 93) rfl (w.heap.size+1+1) _ rfl rfl _ _ Y2 infoState rfl (stateOne _ _ _ _ _ _ _ _ _ _ _ _ _ _ _ _ _ _ _ _ _ _ _ _ _ _) ?_))
   have hl:=Box.loadState (Y2.setRow (rS (.slice am nm cm) pc rs mo ba (.slice ca ck cc) op oh ot st fe fp fh ft lo)) rfl
   refine bodyPost_ret (v:=.tuple #[.agg (rS (.slice am nm cm) pc rs mo ba (.slice ca ck cc) op oh ot st fe fp fh ft lo),.bool true]) (by simp[results,Tryz.results132,asAddr,hl]) rfl ⟨_,_,_,_,_,_,_,_,_,_,_,_,_,_,_,_,_,_,_,_,rfl,fun h=>(by cases h),fun _=>⟨zs,HT.out,H8.out,rfl,.inl ⟨rfl,rfl⟩⟩,aG (by omega) B6.out _⟩
set_option maxRecDepth 10000 in
set_option maxHeartbeats 4000000 in
theorem do_4 (am:Option Addr)(nm cm:Nat)(zs:List Int)(p:Int)(rs:List Int)(mo ba op oh ot fe fp fh ft:Int)(st lo:Bool)(ca:Option Addr)(ck cc:Nat)(l:List Ln)(x y i:Int)(w:World)(hs:Sl w (.slice am nm cm) zs)(hL:Ls w (.slice ca ck cc) l)(hb:chkB ⟨mo,ba,l,op,oh,ot,st,fe,fp,fh,ft,lo⟩=0)(hz:chk zs=0)(h8:rs.length=8)(hw:∀j,j<8→0≤nth rs j∧nth rs j≤65535)(hx:0≤x∧x≤7)(hy:0≤y∧y≤7)(hi:0≤i∧i≤63):
  Calls Tryz.prog 132 #[.agg (rS (.slice am nm cm) (nextP p) rs mo ba (.slice ca ck cc) op oh ot st fe fp fh ft lo),.agg #[J 4,J x,J y,J i]] w fun e w'=>DoH am nm cm zs p rs mo ba op oh ot fe fp fh ft st lo ca ck cc l 4 x y i w e w':=by
 obtain⟨pc,hpc⟩:∃pc,nextP p=pc:=⟨_,rfl⟩
 rw[hpc]
 have HPC:Hid (nextP p=pc):=hpc
 clear hpc
 have HM:Hid (Sl w (.slice am nm cm) zs):=hs
 have HL:Hid (Ls w (.slice ca ck cc) l):=hL
 have HB:Hid (chkB ⟨mo,ba,l,op,oh,ot,st,fe,fp,fh,ft,lo⟩=0):=hb
 have HZ:Hid (chk zs=0):=hz
 have H8:Hid (rs.length=8):=h8
 have HW:Hid (∀j,j<8→0≤nth rs j∧nth rs j≤65535):=hw
 have HX:Hid (0≤x∧x≤7):=hx
 have HY:Hid (0≤y∧y≤7):=hy
 have HI:Hid (0≤i∧i≤63):=hi
 clear hs hL hb hz h8 hw hx hy hi
 go_enter Tryz.func132,Tryz.ntmps132
 go_upto_region 13 with fail
 have X0:=((Box.newAt (w:=w) (n:=w.heap.size) rfl 154 (rS (.slice am nm cm) pc rs mo ba (.slice ca ck cc) op oh ot st fe fp fh ft lo)).past (.cells #[J 4,J x,J y,J i] 130)).past (.cells zS 154)
 have X1:=(Box.newAt (w:=w.alloc (.cells (rS (.slice am nm cm) pc rs mo ba (.slice ca ck cc) op oh ot st fe fp fh ft lo) 154)) (n:=w.heap.size+1) (by simp) 130 #[J 4,J x,J y,J i]).past (.cells zS 154)
 have X2:=Box.newAt (w:=(w.alloc (.cells (rS (.slice am nm cm) pc rs mo ba (.slice ca ck cc) op oh ot st fe fp fh ft lo) 154)).alloc (.cells #[J 4,J x,J y,J i] 130)) (n:=w.heap.size+1+1) (by simp) 154 zS
 have B0:Hid (Below w.heap.size w _):=aA (aA (aA (Below.refl w.heap.size w) (.cells (rS (.slice am nm cm) pc rs mo ba (.slice ca ck cc) op oh ot st fe fp fh ft lo) 154)) (.cells #[J 4,J x,J y,J i] 130)) (.cells zS 154)
 have W3:Hid ((((w.alloc (.cells (rS (.slice am nm cm) pc rs mo ba (.slice ca ck cc) op oh ot st fe fp fh ft lo) 154)).alloc (.cells #[J 4,J x,J y,J i] 130)).alloc (.cells zS 154)).heap.size=w.heap.size+1+1+1):=by show _=_;simp
 generalize (((w.alloc (.cells (rS (.slice am nm cm) pc rs mo ba (.slice ca ck cc) op oh ot st fe fp fh ft lo) 154)).alloc (.cells #[J 4,J x,J y,J i] 130)).alloc (.cells zS 154))=W at *
 have Y0:=X0
 obtain⟨i0,i1,i2,i3,-,-,-,-,s1⟩:=X1.four
 go_wp2_with (first
  | (refine wpList_load_row rfl 154 (.tmp 2) rfl w.heap.size rfl _ _ _ _ Y0 Tryz.underlying154 rfl infoState ?_))
 refine (aA0 am nm cm zs pc rs mo ba op oh ot fe fp fh ft st lo ca ck cc 4 x y i _ (HM.out.keep B0.out) HZ.out H8.out HW.out HX.out HY.out HI.out).mono ?_
 rintro e w5 ⟨z,rfl,hz1,b5⟩
 have HZ1:Hid _:=hz1
 obtain⟨ok,hok⟩:∃ok,decide (nth rs y.toNat+i≤511)=ok:=⟨_,rfl⟩
 have HOK:Hid _:=hok
 rw[hok]
 clear hz1 hok
 have Y2:=X2.keep b5
 have B6:Hid (Below w.heap.size w w5):=aB B0.out b5
 have S5:Hid (w.heap.size+1+1+1≤w5.heap.size):=by show _≤_;have:=b5.size;have w3:=W3.out;omega
 clear X0 X1 X2 Y0 i0 i1 i2 i3 s1 b5
 go_wp2_with (first
  | (refine wpList_store_row rfl 154 (.tmp 4) (.tmp 70) rfl (w.heap.size+1+1) _ rfl rfl _ _ Y2 infoState rfl (stateOne _ _ _ _ _ _ _ _ _ _ _ _ _ _ _ _ _ _ _ _ _ _ _ _ _ _) ?_))
 have hl:=Box.loadState (Y2.setRow (rS (.slice am nm cm) pc (rs.set x.toNat z) mo ba (.slice ca ck cc) op oh ot st fe fp fh ft lo)) rfl
 refine bodyPost_ret (v:=.tuple #[.agg (rS (.slice am nm cm) pc (rs.set x.toNat z) mo ba (.slice ca ck cc) op oh ot st fe fp fh ft lo),.bool ok]) (by simp[results,Tryz.results132,asAddr,hl]) rfl ⟨_,_,_,_,_,_,_,_,_,_,_,_,_,_,_,_,_,_,_,_,rfl,fun h=>by rw[exeI,if_neg (by decide),if_neg (by decide),if_neg (by decide),if_pos rfl,if_neg (of_decide_eq_false (HOK.out.trans h))],fun h=>⟨zs,by rw[exeI,if_neg (by decide),if_neg (by decide),if_neg (by decide),if_pos rfl,if_pos (of_decide_eq_true (HOK.out.trans h)),HPC.out,HZ1.out (of_decide_eq_true (HOK.out.trans h))],by rw[List.length_set];exact H8.out,rfl,.inl ⟨rfl,rfl⟩⟩,aG (by omega) B6.out _⟩
set_option maxRecDepth 10000 in
set_option maxHeartbeats 4000000 in
theorem do_5 (am:Option Addr)(nm cm:Nat)(zs:List Int)(p:Int)(rs:List Int)(mo ba op oh ot fe fp fh ft:Int)(st lo:Bool)(ca:Option Addr)(ck cc:Nat)(l:List Ln)(x y i:Int)(w:World)(hs:Sl w (.slice am nm cm) zs)(hL:Ls w (.slice ca ck cc) l)(hb:chkB ⟨mo,ba,l,op,oh,ot,st,fe,fp,fh,ft,lo⟩=0)(hz:chk zs=0)(h8:rs.length=8)(hw:∀j,j<8→0≤nth rs j∧nth rs j≤65535)(hx:0≤x∧x≤7)(hy:0≤y∧y≤7)(hi:0≤i∧i≤63):
  Calls Tryz.prog 132 #[.agg (rS (.slice am nm cm) (nextP p) rs mo ba (.slice ca ck cc) op oh ot st fe fp fh ft lo),.agg #[J 5,J x,J y,J i]] w fun e w'=>DoH am nm cm zs p rs mo ba op oh ot fe fp fh ft st lo ca ck cc l 5 x y i w e w':=by
 obtain⟨pc,hpc⟩:∃pc,nextP p=pc:=⟨_,rfl⟩
 rw[hpc]
 have HPC:Hid (nextP p=pc):=hpc
 clear hpc
 have HM:Hid (Sl w (.slice am nm cm) zs):=hs
 have HL:Hid (Ls w (.slice ca ck cc) l):=hL
 have HB:Hid (chkB ⟨mo,ba,l,op,oh,ot,st,fe,fp,fh,ft,lo⟩=0):=hb
 have HZ:Hid (chk zs=0):=hz
 have H8:Hid (rs.length=8):=h8
 have HW:Hid (∀j,j<8→0≤nth rs j∧nth rs j≤65535):=hw
 have HX:Hid (0≤x∧x≤7):=hx
 have HY:Hid (0≤y∧y≤7):=hy
 have HI:Hid (0≤i∧i≤63):=hi
 clear hs hL hb hz h8 hw hx hy hi
 go_enter Tryz.func132,Tryz.ntmps132
 go_upto_region 15 with fail
 have X0:=((Box.newAt (w:=w) (n:=w.heap.size) rfl 154 (rS (.slice am nm cm) pc rs mo ba (.slice ca ck cc) op oh ot st fe fp fh ft lo)).past (.cells #[J 5,J x,J y,J i] 130)).past (.cells zS 154)
 have X1:=(Box.newAt (w:=w.alloc (.cells (rS (.slice am nm cm) pc rs mo ba (.slice ca ck cc) op oh ot st fe fp fh ft lo) 154)) (n:=w.heap.size+1) (by simp) 130 #[J 5,J x,J y,J i]).past (.cells zS 154)
 have X2:=Box.newAt (w:=(w.alloc (.cells (rS (.slice am nm cm) pc rs mo ba (.slice ca ck cc) op oh ot st fe fp fh ft lo) 154)).alloc (.cells #[J 5,J x,J y,J i] 130)) (n:=w.heap.size+1+1) (by simp) 154 zS
 have B0:Hid (Below w.heap.size w _):=aA (aA (aA (Below.refl w.heap.size w) (.cells (rS (.slice am nm cm) pc rs mo ba (.slice ca ck cc) op oh ot st fe fp fh ft lo) 154)) (.cells #[J 5,J x,J y,J i] 130)) (.cells zS 154)
 have W3:Hid ((((w.alloc (.cells (rS (.slice am nm cm) pc rs mo ba (.slice ca ck cc) op oh ot st fe fp fh ft lo) 154)).alloc (.cells #[J 5,J x,J y,J i] 130)).alloc (.cells zS 154)).heap.size=w.heap.size+1+1+1):=by show _=_;simp
 generalize (((w.alloc (.cells (rS (.slice am nm cm) pc rs mo ba (.slice ca ck cc) op oh ot st fe fp fh ft lo) 154)).alloc (.cells #[J 5,J x,J y,J i] 130)).alloc (.cells zS 154))=W at *
 have Y0:=X0
 obtain⟨i0,i1,i2,i3,-,-,-,-,s1⟩:=X1.four
 go_wp2_with (first
  | (refine wpList_load_row rfl 154 (.tmp 2) rfl w.heap.size rfl _ _ _ _ Y0 Tryz.underlying154 rfl infoState ?_))
 refine (xL am nm cm zs pc rs mo ba op oh ot fe fp fh ft st lo ca ck cc 5 x y i _ (HM.out.keep B0.out) HZ.out H8.out HW.out HX.out HY.out HI.out).mono ?_
 rintro e w5 ⟨a1,n1,c1,rfl,hz1,b5⟩
 have HZ1:Hid _:=hz1
 obtain⟨ok,hok⟩:∃ok,decide (nth rs y.toNat+i≤511)=ok:=⟨_,rfl⟩
 have HOK:Hid _:=hok
 rw[hok]
 clear hz1 hok
 have Y2:=X2.keep b5
 have B6:Hid (Below w.heap.size w w5):=aB B0.out b5
 have S5:Hid (w.heap.size+1+1+1≤w5.heap.size):=by show _≤_;have:=b5.size;have w3:=W3.out;omega
 clear X0 X1 X2 Y0 i0 i1 i2 i3 s1 b5
 go_wp2_with (first
  | (refine wpList_store_row rfl 154 (.tmp 4) (.tmp 77) rfl (w.heap.size+1+1) _ rfl rfl _ _ Y2 infoState rfl (stateOne _ _ _ _ _ _ _ _ _ _ _ _ _ _ _ _ _ _ _ _ _ _ _ _ _ _) ?_))
 have hl:=Box.loadState (Y2.setRow (rS (.slice a1 n1 c1) pc rs mo ba (.slice ca ck cc) op oh ot st fe fp fh ft lo)) rfl
 refine bodyPost_ret (v:=.tuple #[.agg (rS (.slice a1 n1 c1) pc rs mo ba (.slice ca ck cc) op oh ot st fe fp fh ft lo),.bool ok]) (by simp[results,Tryz.results132,asAddr,hl]) rfl ⟨_,_,_,_,_,_,_,_,_,_,_,_,_,_,_,_,_,_,_,_,rfl,fun h=>by rw[exeI,if_neg (by decide),if_neg (by decide),if_neg (by decide),if_neg (by decide),if_pos rfl,if_neg (of_decide_eq_false (HOK.out.trans h))],fun h=>⟨_,by rw[exeI,if_neg (by decide),if_neg (by decide),if_neg (by decide),if_neg (by decide),if_pos rfl,if_pos (of_decide_eq_true (HOK.out.trans h)),HPC.out],H8.out,rfl,.inr ⟨(HZ1.out (of_decide_eq_true (HOK.out.trans h))).1.otherRow ((HZ1.out (of_decide_eq_true (HOK.out.trans h))).2.ne (by have:=W3.out;omega)) _,(HZ1.out (of_decide_eq_true (HOK.out.trans h))).2.mono (by have:=W3.out;omega)⟩⟩,aG (by omega) B6.out _⟩
set_option maxRecDepth 10000 in
set_option maxHeartbeats 4000000 in
theorem do_7 (am:Option Addr)(nm cm:Nat)(zs:List Int)(p:Int)(rs:List Int)(mo ba op oh ot fe fp fh ft:Int)(st lo:Bool)(ca:Option Addr)(ck cc:Nat)(l:List Ln)(x y i:Int)(w:World)(_:Sl w (.slice am nm cm) zs)(hL:Ls w (.slice ca ck cc) l)(hb:chkB ⟨mo,ba,l,op,oh,ot,st,fe,fp,fh,ft,lo⟩=0)(_:chk zs=0)(h8:rs.length=8)(hw:∀j,j<8→0≤nth rs j∧nth rs j≤65535)(hx:0≤x∧x≤7)(hy:0≤y∧y≤7)(hi:0≤i∧i≤63):
  Calls Tryz.prog 132 #[.agg (rS (.slice am nm cm) (nextP p) rs mo ba (.slice ca ck cc) op oh ot st fe fp fh ft lo),.agg #[J 7,J x,J y,J i]] w fun e w'=>DoH am nm cm zs p rs mo ba op oh ot fe fp fh ft st lo ca ck cc l 7 x y i w e w':=by
 obtain⟨pc,hpc⟩:∃pc,nextP p=pc:=⟨_,rfl⟩
 rw[hpc]
 have HPC:Hid (nextP p=pc):=hpc
 clear hpc
 have HL:Hid (Ls w (.slice ca ck cc) l):=hL
 have HB:Hid (chkB ⟨mo,ba,l,op,oh,ot,st,fe,fp,fh,ft,lo⟩=0):=hb
 have H8:Hid (rs.length=8):=h8
 have HW:Hid (∀j,j<8→0≤nth rs j∧nth rs j≤65535):=hw
 have HX:Hid (0≤x∧x≤7):=hx
 have HY:Hid (0≤y∧y≤7):=hy
 have HI:Hid (0≤i∧i≤63):=hi
 clear hL hb h8 hw hx hy hi
 go_enter Tryz.func132,Tryz.ntmps132
 go_upto_region 19 with fail
 have X0:=((Box.newAt (w:=w) (n:=w.heap.size) rfl 154 (rS (.slice am nm cm) pc rs mo ba (.slice ca ck cc) op oh ot st fe fp fh ft lo)).past (.cells #[J 7,J x,J y,J i] 130)).past (.cells zS 154)
 have X1:=(Box.newAt (w:=w.alloc (.cells (rS (.slice am nm cm) pc rs mo ba (.slice ca ck cc) op oh ot st fe fp fh ft lo) 154)) (n:=w.heap.size+1) (by simp) 130 #[J 7,J x,J y,J i]).past (.cells zS 154)
 have X2:=Box.newAt (w:=(w.alloc (.cells (rS (.slice am nm cm) pc rs mo ba (.slice ca ck cc) op oh ot st fe fp fh ft lo) 154)).alloc (.cells #[J 7,J x,J y,J i] 130)) (n:=w.heap.size+1+1) (by simp) 154 zS
 have B0:Hid (Below w.heap.size w _):=aA (aA (aA (Below.refl w.heap.size w) (.cells (rS (.slice am nm cm) pc rs mo ba (.slice ca ck cc) op oh ot st fe fp fh ft lo) 154)) (.cells #[J 7,J x,J y,J i] 130)) (.cells zS 154)
 have W3:Hid ((((w.alloc (.cells (rS (.slice am nm cm) pc rs mo ba (.slice ca ck cc) op oh ot st fe fp fh ft lo) 154)).alloc (.cells #[J 7,J x,J y,J i] 130)).alloc (.cells zS 154)).heap.size=w.heap.size+1+1+1):=by show _=_;simp
 generalize (((w.alloc (.cells (rS (.slice am nm cm) pc rs mo ba (.slice ca ck cc) op oh ot st fe fp fh ft lo) 154)).alloc (.cells #[J 7,J x,J y,J i] 130)).alloc (.cells zS 154))=W at *
 have Y0:=X0
 obtain⟨i0,i1,i2,i3,-,-,-,-,s1⟩:=X1.four
 go_wp2_with (first
  | (refine wpList_load_row rfl 154 (.tmp 2) rfl w.heap.size rfl _ _ _ _ Y0 Tryz.underlying154 rfl infoState ?_))
 refine (aA2 am nm cm pc rs mo ba op oh ot fe fp fh ft st lo ca ck cc l 7 x y i _ (HL.out.keep B0.out) HB.out H8.out HW.out HX.out HY.out HI.out).mono ?_
 rintro e w5 ⟨mo1,ba1,op1,oh1,ot1,fe1,fp1,fh1,ft1,st1,lo1,ca1,ck1,cc1,rfl,hz1,b5⟩
 have HZ1:Hid _:=hz1
 obtain⟨ok,hok⟩:∃ok,decide (nth rs x.toNat≤mostB i)=ok:=⟨_,rfl⟩
 have HOK:Hid _:=hok
 rw[hok]
 clear hz1 hok
 have Y2:=X2.keep b5
 have B6:Hid (Below w.heap.size w w5):=aB B0.out b5
 have S5:Hid (w.heap.size+1+1+1≤w5.heap.size):=by show _≤_;have:=b5.size;have w3:=W3.out;omega
 clear X0 X1 X2 Y0 i0 i1 i2 i3 s1 b5
 go_wp2_with (first
  | (refine wpList_store_row rfl 154 (.tmp 4) (.tmp 91) rfl (w.heap.size+1+1) _ rfl rfl _ _ Y2 infoState rfl (stateOne _ _ _ _ _ _ _ _ _ _ _ _ _ _ _ _ _ _ _ _ _ _ _ _ _ _) ?_))
 have hl:=Box.loadState (Y2.setRow (rS (.slice am nm cm) pc rs mo1 ba1 (.slice ca1 ck1 cc1) op1 oh1 ot1 st1 fe1 fp1 fh1 ft1 lo1)) rfl
 refine bodyPost_ret (v:=.tuple #[.agg (rS (.slice am nm cm) pc rs mo1 ba1 (.slice ca1 ck1 cc1) op1 oh1 ot1 st1 fe1 fp1 fh1 ft1 lo1),.bool ok]) (by simp[results,Tryz.results132,asAddr,hl]) rfl ⟨_,_,_,_,_,_,_,_,_,_,_,_,_,_,_,_,_,_,_,_,rfl,fun h=>by rw[exeI,if_neg (by decide),if_neg (by decide),if_neg (by decide),if_neg (by decide),if_neg (by decide),if_neg (by decide),if_pos rfl,if_neg (of_decide_eq_false (HOK.out.trans h))],fun h=>⟨zs,by rw[exeI,if_neg (by decide),if_neg (by decide),if_neg (by decide),if_neg (by decide),if_neg (by decide),if_neg (by decide),if_pos rfl,if_pos (of_decide_eq_true (HOK.out.trans h)),HPC.out,(HZ1.out (of_decide_eq_true (HOK.out.trans h))).2],H8.out,(HZ1.out (of_decide_eq_true (HOK.out.trans h))).1,.inl ⟨rfl,rfl⟩⟩,aG (by omega) B6.out _⟩
set_option maxRecDepth 10000 in
set_option maxHeartbeats 4000000 in
theorem do_8 (am:Option Addr)(nm cm:Nat)(zs:List Int)(p:Int)(rs:List Int)(mo ba op oh ot fe fp fh ft:Int)(st lo:Bool)(ca:Option Addr)(ck cc:Nat)(l:List Ln)(x y i:Int)(w:World)(_:Sl w (.slice am nm cm) zs)(_:Ls w (.slice ca ck cc) l)(_:chkB ⟨mo,ba,l,op,oh,ot,st,fe,fp,fh,ft,lo⟩=0)(_:chk zs=0)(h8:rs.length=8)(hw:∀j,j<8→0≤nth rs j∧nth rs j≤65535)(hx:0≤x∧x≤7)(hy:0≤y∧y≤7)(hi:0≤i∧i≤63):
  Calls Tryz.prog 132 #[.agg (rS (.slice am nm cm) (nextP p) rs mo ba (.slice ca ck cc) op oh ot st fe fp fh ft lo),.agg #[J 8,J x,J y,J i]] w fun e w'=>DoH am nm cm zs p rs mo ba op oh ot fe fp fh ft st lo ca ck cc l 8 x y i w e w':=by
 obtain⟨pc,hpc⟩:∃pc,nextP p=pc:=⟨_,rfl⟩
 rw[hpc]
 have HPC:Hid (nextP p=pc):=hpc
 clear hpc
 have H8:Hid (rs.length=8):=h8
 have HW:Hid (∀j,j<8→0≤nth rs j∧nth rs j≤65535):=hw
 have HX:Hid (0≤x∧x≤7):=hx
 have HY:Hid (0≤y∧y≤7):=hy
 have HI:Hid (0≤i∧i≤63):=hi
 clear h8 hw hx hy hi
 go_enter Tryz.func132,Tryz.ntmps132
 go_upto_region 17 with fail
 have X0:=((Box.newAt (w:=w) (n:=w.heap.size) rfl 154 (rS (.slice am nm cm) pc rs mo ba (.slice ca ck cc) op oh ot st fe fp fh ft lo)).past (.cells #[J 8,J x,J y,J i] 130)).past (.cells zS 154)
 have X1:=(Box.newAt (w:=w.alloc (.cells (rS (.slice am nm cm) pc rs mo ba (.slice ca ck cc) op oh ot st fe fp fh ft lo) 154)) (n:=w.heap.size+1) (by simp) 130 #[J 8,J x,J y,J i]).past (.cells zS 154)
 have X2:=Box.newAt (w:=(w.alloc (.cells (rS (.slice am nm cm) pc rs mo ba (.slice ca ck cc) op oh ot st fe fp fh ft lo) 154)).alloc (.cells #[J 8,J x,J y,J i] 130)) (n:=w.heap.size+1+1) (by simp) 154 zS
 have B0:Hid (Below w.heap.size w _):=aA (aA (aA (Below.refl w.heap.size w) (.cells (rS (.slice am nm cm) pc rs mo ba (.slice ca ck cc) op oh ot st fe fp fh ft lo) 154)) (.cells #[J 8,J x,J y,J i] 130)) (.cells zS 154)
 have W3:Hid ((((w.alloc (.cells (rS (.slice am nm cm) pc rs mo ba (.slice ca ck cc) op oh ot st fe fp fh ft lo) 154)).alloc (.cells #[J 8,J x,J y,J i] 130)).alloc (.cells zS 154)).heap.size=w.heap.size+1+1+1):=by show _=_;simp
 generalize (((w.alloc (.cells (rS (.slice am nm cm) pc rs mo ba (.slice ca ck cc) op oh ot st fe fp fh ft lo) 154)).alloc (.cells #[J 8,J x,J y,J i] 130)).alloc (.cells zS 154))=W at *
 have Y0:=X0
 obtain⟨i0,i1,i2,i3,-,-,-,-,s1⟩:=X1.four
 go_wp2_with (first
  | (refine wpList_load_row rfl 154 (.tmp 2) rfl w.heap.size rfl _ _ _ _ Y0 Tryz.underlying154 rfl infoState ?_))
 refine (aCe am nm cm pc rs mo ba op oh ot fe fp fh ft st lo ca ck cc l 8 x y i _ H8.out HW.out HX.out HY.out HI.out).mono ?_
 rintro e w5 ⟨z,rfl,hz1,b5⟩
 have HZ1:Hid _:=hz1
 obtain⟨ok,hok⟩:∃ok,decide (i≤9)=ok:=⟨_,rfl⟩
 have HOK:Hid _:=hok
 rw[hok]
 clear hz1 hok
 have Y2:=X2.keep b5
 have B6:Hid (Below w.heap.size w w5):=aB B0.out b5
 have S5:Hid (w.heap.size+1+1+1≤w5.heap.size):=by show _≤_;have:=b5.size;have w3:=W3.out;omega
 clear X0 X1 X2 Y0 i0 i1 i2 i3 s1 b5
 go_wp2_with (first
  | (refine wpList_store_row rfl 154 (.tmp 4) (.tmp 84) rfl (w.heap.size+1+1) _ rfl rfl _ _ Y2 infoState rfl (stateOne _ _ _ _ _ _ _ _ _ _ _ _ _ _ _ _ _ _ _ _ _ _ _ _ _ _) ?_))
 have hl:=Box.loadState (Y2.setRow (rS (.slice am nm cm) pc (rs.set x.toNat z) mo ba (.slice ca ck cc) op oh ot st fe fp fh ft lo)) rfl
 refine bodyPost_ret (v:=.tuple #[.agg (rS (.slice am nm cm) pc (rs.set x.toNat z) mo ba (.slice ca ck cc) op oh ot st fe fp fh ft lo),.bool ok]) (by simp[results,Tryz.results132,asAddr,hl]) rfl ⟨_,_,_,_,_,_,_,_,_,_,_,_,_,_,_,_,_,_,_,_,rfl,fun h=>by rw[exeI,if_neg (by decide),if_neg (by decide),if_neg (by decide),if_neg (by decide),if_neg (by decide),if_neg (by decide),if_neg (by decide),if_pos rfl,if_neg (of_decide_eq_false (HOK.out.trans h))],fun h=>⟨zs,by rw[exeI,if_neg (by decide),if_neg (by decide),if_neg (by decide),if_neg (by decide),if_neg (by decide),if_neg (by decide),if_neg (by decide),if_pos rfl,if_pos (of_decide_eq_true (HOK.out.trans h)),HPC.out,HZ1.out (of_decide_eq_true (HOK.out.trans h))],by rw[List.length_set];exact H8.out,rfl,.inl ⟨rfl,rfl⟩⟩,aG (by omega) B6.out _⟩
theorem uG {p:Int}(h0:0≤p)(h1:p<512):(IntKind.i64.wrap (p+1)).tmod 512=nextP p:=by
 rw[cF _ (by omega) (by omega),Int.tmod_eq_emod_of_nonneg (by omega)];rfl
theorem aCf (am:Option Addr)(nm cm:Nat)(zs:List Int)(p:Int)(rs:List Int)(mo ba op oh ot fe fp fh ft:Int)(st lo:Bool)(ca:Option Addr)(ck cc:Nat)(l:List Ln)(k x y i:Int)(w:World)(hs:Sl w (.slice am nm cm) zs)(hL:Ls w (.slice ca ck cc) l)(hb:chkB ⟨mo,ba,l,op,oh,ot,st,fe,fp,fh,ft,lo⟩=0)(hz:chk zs=0)(h8:rs.length=8)(hw:∀j,j<8→0≤nth rs j∧nth rs j≤65535)(hi:iE k x y i=0):
  Calls Tryz.prog 132 #[.agg (rS (.slice am nm cm) (nextP p) rs mo ba (.slice ca ck cc) op oh ot st fe fp fh ft lo),.agg #[J k,J x,J y,J i]] w fun e w'=>DoH am nm cm zs p rs mo ba op oh ot fe fp fh ft st lo ca ck cc l k x y i w e w':=by
 obtain⟨hk,hx,hy,hii,-⟩:=uU hi
 have parts:k=0∨k=1∨k=2∨k=3∨k=4∨k=5∨k=6∨k=7∨k=8:=by omega
 rcases parts with rfl|rfl|rfl|rfl|rfl|rfl|rfl|rfl|rfl
 ·exact do_0 am nm cm zs p rs mo ba op oh ot fe fp fh ft st lo ca ck cc l x y i w hs hL hb hz h8 hw hx hy hii
 ·exact do_1 am nm cm zs p rs mo ba op oh ot fe fp fh ft st lo ca ck cc l x y i w hs hL hb hz h8 hw hx hy hii
 ·exact do_2 am nm cm zs p rs mo ba op oh ot fe fp fh ft st lo ca ck cc l x y i w hs hL hb hz h8 hw hx hy hii
 ·exact do_3 am nm cm zs p rs mo ba op oh ot fe fp fh ft st lo ca ck cc l x y i w hs hL hb hz h8 hw hx hy hii
 ·exact do_4 am nm cm zs p rs mo ba op oh ot fe fp fh ft st lo ca ck cc l x y i w hs hL hb hz h8 hw hx hy hii
 ·exact do_5 am nm cm zs p rs mo ba op oh ot fe fp fh ft st lo ca ck cc l x y i w hs hL hb hz h8 hw hx hy hii
 ·exact do_6 am nm cm zs p rs mo ba op oh ot fe fp fh ft st lo ca ck cc l x y i w hs hL hb hz h8 hw hx hy hii
 ·exact do_7 am nm cm zs p rs mo ba op oh ot fe fp fh ft st lo ca ck cc l x y i w hs hL hb hz h8 hw hx hy hii
 ·exact do_8 am nm cm zs p rs mo ba op oh ot fe fp fh ft st lo ca ck cc l x y i w hs hL hb hz h8 hw hx hy hii
abbrev NextH (am:Option Addr)(nm cm:Nat)(zs:List Int)(p:Int)(rs:List Int)(mo ba op oh ot fe fp fh ft:Int)(st lo:Bool)(ca:Option Addr)(ck cc:Nat)(l:List Ln)(w:World)(e:Ending)(w':World):Prop:=
 ∃ok a1 n1 c1 pc1 rs1 mo1 ba1 op1 oh1 ot1 fe1 fp1 fh1 ft1 st1 lo1 ca1 ck1 cc1,e=.returned (.tuple #[.agg (rS (.slice a1 n1 c1) pc1 rs1 mo1 ba1 (.slice ca1 ck1 cc1) op1 oh1 ot1 st1 fe1 fp1 fh1 ft1 lo1),.bool ok])∧
  (ok=false→goS zs ⟨p,rs,false⟩ ⟨mo,ba,l,op,oh,ot,st,fe,fp,fh,ft,lo⟩=stand zs ⟨p,rs,false⟩ ⟨mo,ba,l,op,oh,ot,st,fe,fp,fh,ft,lo⟩)∧
  (ok=true→∃zs1,goS zs ⟨p,rs,false⟩ ⟨mo,ba,l,op,oh,ot,st,fe,fp,fh,ft,lo⟩=(zs1,⟨pc1,rs1,false⟩,⟨mo1,ba1,l,op1,oh1,ot1,st1,fe1,fp1,fh1,ft1,lo1⟩)∧rs1.length=8∧Value.slice ca ck cc=.slice ca1 ck1 cc1∧
   ((Value.slice am nm cm=.slice a1 n1 c1∧zs1=zs)∨(Sl w' (.slice a1 n1 c1) zs1∧Fresh w.heap.size (.slice a1 n1 c1))))∧Below w.heap.size w w'
set_option maxRecDepth 10000 in
set_option maxHeartbeats 4000000 in
theorem xS (am:Option Addr)(nm cm:Nat)(zs:List Int)(p:Int)(rs:List Int)(mo ba op oh ot fe fp fh ft:Int)(st lo:Bool)(ca:Option Addr)(ck cc:Nat)(l:List Ln)(w:World)(hs:Sl w (.slice am nm cm) zs)(hL:Ls w (.slice ca ck cc) l)(hb:chkB ⟨mo,ba,l,op,oh,ot,st,fe,fp,fh,ft,lo⟩=0)(hz:chk zs=0)(h8:rs.length=8)(hw:∀j,j<8→0≤nth rs j∧nth rs j≤65535)(hp:0≤p∧p<512):
  Calls Tryz.prog 102 #[.agg (rS (.slice am nm cm) p rs mo ba (.slice ca ck cc) op oh ot st fe fp fh ft lo)] w fun e w'=>NextH am nm cm zs p rs mo ba op oh ot fe fp fh ft st lo ca ck cc l w e w':=by
 have HL:Hid (Ls w (.slice ca ck cc) l):=hL
 have HB:Hid (chkB ⟨mo,ba,l,op,oh,ot,st,fe,fp,fh,ft,lo⟩=0):=hb
 have HZ:Hid (chk zs=0):=hz
 have H8:Hid (rs.length=8):=h8
 have HW:Hid (∀j,j<8→0≤nth rs j∧nth rs j≤65535):=hw
 have HM:Hid (Sl w (.slice am nm cm) zs):=hs
 obtain⟨b,o,cap,hv,hbb,hcs⟩:=hs.open512 (bF hz).1
 simp only[Value.slice.injEq] at hv
 obtain⟨rfl,rfl,rfl⟩:=hv
 obtain⟨hp0,hp1⟩:=hp
 have gz:=hcs p.toNat (by omega)
 obtain⟨z,hzz⟩:∃z,nth zs p.toNat=z:=⟨_,rfl⟩
 rw[hzz] at gz
 have HI:Hid (insW zs ⟨p,rs,false⟩=z):=hzz
 obtain⟨e2,hE2⟩:∃e2,riE z=e2:=⟨_,rfl⟩
 obtain⟨k,x,y,i,hX2⟩:∃k x y i,riX z=(k,x,y,i):=⟨_,_,_,_,rfl⟩
 have HE2:Hid _:=hE2
 have HX2:Hid _:=hX2
 have HPN:Hid ((IntKind.i64.wrap (p+1)).tmod 512=nextP p):=uG hp0 hp1
 clear hE2 hX2 hcs hzz hs hL hb hz h8 hw
 have X0:=(Box.newAt (w:=w) (n:=w.heap.size) rfl 154 (rS (.slice (some ⟨b,o,none⟩) 512 cm) p rs mo ba (.slice ca ck cc) op oh ot st fe fp fh ft lo)).past (.cells zS 154)
 have X1:=Box.newAt (w:=w.alloc (.cells (rS (.slice (some ⟨b,o,none⟩) 512 cm) p rs mo ba (.slice ca ck cc) op oh ot st fe fp fh ft lo) 154)) (n:=w.heap.size+1) (by simp) 154 zS
 have B0:Hid (Below w.heap.size w _):=aA (aA (Below.refl w.heap.size w) (.cells (rS (.slice (some ⟨b,o,none⟩) 512 cm) p rs mo ba (.slice ca ck cc) op oh ot st fe fp fh ft lo) 154)) (.cells zS 154)
 have W2:Hid (((w.alloc (.cells (rS (.slice (some ⟨b,o,none⟩) 512 cm) p rs mo ba (.slice ca ck cc) op oh ot st fe fp fh ft lo) 154)).alloc (.cells zS 154)).heap.size=w.heap.size+1+1):=by show _=_;simp
 go_enter Tryz.func102,Tryz.ntmps102
 go_upto_region 1 with fail
 generalize ((w.alloc (.cells (rS (.slice (some ⟨b,o,none⟩) 512 cm) p rs mo ba (.slice ca ck cc) op oh ot st fe fp fh ft lo) 154)).alloc (.cells zS 154))=W at *
 obtain⟨⟨q0,q1,-⟩,-,s0⟩:=X0.state0
 rw[←B0.out.cell (p:=⟨b,o+p.toNat,none⟩) hbb] at gz
 have hbW:b<W.heap.size:=Nat.lt_of_lt_of_le hbb B0.out.size
 go_wp2_with fail
 refine (aAx HE2.out HX2.out).mono ?_
 rintro e w1 ⟨rfl,b1⟩
 have X0:=(X0.keep b1).past (.cells #[J k,J x,J y,J i] 130)
 have X1:=(X1.keep b1).past (.cells #[J k,J x,J y,J i] 130)
 have XI:=Box.newAt (w:=w1) (n:=w1.heap.size) rfl 130 #[J k,J x,J y,J i]
 have B1:Hid (Below w.heap.size w (w1.alloc (.cells #[J k,J x,J y,J i] 130))):=aA (aB B0.out b1) _
 have z1:w.heap.size+1+1≤w1.heap.size:=by have:=b1.size;have:=W2.out;omega
 clear gz q0 q1 s0 b1 B0 hbW
 by_cases h2:e2=0
 rotate_left
 ·have hq:(e2 !=0)=true:=by simpa using h2
  have HT:Hid (goS zs ⟨p,rs,false⟩ ⟨mo,ba,l,op,oh,ot,st,fe,fp,fh,ft,lo⟩=stand zs ⟨p,rs,false⟩ ⟨mo,ba,l,op,oh,ot,st,fe,fp,fh,ft,lo⟩):=by
   show _=_
   rw[goS,HI.out,if_neg (by rw[HE2.out];exact h2)]
  clear h2 HE2 HX2 X0 XI
  go_upto_region 3 with fail
  generalize (w1.alloc (.cells #[J k,J x,J y,J i] 130))=W1 at *
  go_wp2_with (first
   | (refine wpList_store_row rfl 154 (.tmp 2) (.tmp 19) rfl (w.heap.size+1) _ rfl rfl _ _ X1 infoState rfl (stateOne _ _ _ _ _ _ _ _ _ _ _ _ _ _ _ _ _ _ _ _ _ _ _ _ _ _) ?_))
  have hl:=Box.loadState (X1.setRow zS) rfl
  refine bodyPost_ret (v:=.tuple #[.agg zS,.bool false]) (by simp[results,Tryz.results102,asAddr,hl]) rfl ⟨false,none,0,0,0,List.replicate 8 0,_,_,_,_,_,_,_,_,_,_,_,none,0,0,rfl,fun _=>HT.out,fun h=>(by cases h),aG (by omega) B1.out _⟩
 subst h2
 have HIE:Hid (iE k x y i=0):=(oV HE2.out HX2.out).1
 have HT:Hid (goS zs ⟨p,rs,false⟩ ⟨mo,ba,l,op,oh,ot,st,fe,fp,fh,ft,lo⟩=exeI zs ⟨p,rs,false⟩ ⟨mo,ba,l,op,oh,ot,st,fe,fp,fh,ft,lo⟩ k x y i):=by
  show _=_
  rw[goS,HI.out,if_pos HE2.out,HX2.out]
 obtain⟨pc,hpc⟩:∃pc,nextP p=pc:=⟨_,rfl⟩
 have HPC:Hid (nextP p=pc):=hpc
 have hPN:(IntKind.i64.wrap (p+1)).tmod 512=pc:=by rw[HPN.out,hpc]
 have Y0:=Box.set X0 1 (J pc)
 have Y0:Box ((w1.alloc (.cells #[J k,J x,J y,J i] 130)).setCell ⟨w.heap.size,1,none⟩ (J pc)) w.heap.size 154 (rS (.slice (some ⟨b,o,none⟩) 512 cm) pc rs mo ba (.slice ca ck cc) op oh ot st fe fp fh ft lo):=Y0
 have Y1:=X1.other (p:=⟨w.heap.size,1,none⟩) (by show w.heap.size+1≠w.heap.size;omega) (J pc)
 have YI:=XI.other (p:=⟨w.heap.size,1,none⟩) (by show w1.heap.size≠w.heap.size;omega) (J pc)
 have B2:Hid (Below w.heap.size w ((w1.alloc (.cells #[J k,J x,J y,J i] 130)).setCell ⟨w.heap.size,1,none⟩ (J pc))):=aI (by show w.heap.size≤w.heap.size;omega) B1.out _
 have Z2:Hid (w.heap.size+1+1≤((w1.alloc (.cells #[J k,J x,J y,J i] 130)).setCell ⟨w.heap.size,1,none⟩ (J pc)).heap.size):=by show _≤_;have:=Y1.lt;omega
 have hwr:IntKind.i64.wrap (p+1)=p+1:=cF _ (by omega) (by omega)
 have hpm:(p+1)%512=pc:=hpc
 obtain⟨⟨q0,q1,-⟩,-,s0⟩:=X0.state0
 have fx:=X0.marksAll
 clear HE2 HX2 hpc hPN
 go_upto_region 5 with fail
 clear q0 q1 s0 fx X0 X1 XI B1
 generalize w1.heap.size=N1 at *
 generalize ((w1.alloc (.cells #[J k,J x,J y,J i] 130)).setCell ⟨w.heap.size,1,none⟩ (J pc))=W2 at *
 obtain⟨i0,i1,i2,i3,-,-,-,-,s1⟩:=YI.four
 have hDo:=aCf (some ⟨b,o,none⟩) 512 cm zs p rs mo ba op oh ot fe fp fh ft st lo ca ck cc l k x y i W2 (HM.out.keep B2.out) (HL.out.keep B2.out) HB.out HZ.out H8.out HW.out HIE.out
 rw[HPC.out] at hDo
 go_wp2_with (first
  | (refine wpList_load_row rfl 154 (.tmp 1) rfl w.heap.size rfl _ _ _ _ Y0 Tryz.underlying154 rfl infoState ?_))
 refine hDo.mono ?_
 rintro e w5 ⟨ok,a1,n1,c1,pc1,rs1,mo1,ba1,op1,oh1,ot1,fe1,fp1,fh1,ft1,st1,lo1,ca1,ck1,cc1,rfl,hno,hyes,b5⟩
 have HNO:Hid _:=hno
 have HYES:Hid _:=hyes
 have Y1:=Y1.keep b5
 have B6:Hid (Below w.heap.size w w5):=aB B2.out b5
 clear hno hyes b5 Y0 YI i0 i1 i2 i3 s1 hDo hpm hwr
 go_wp2_with (first
  | (refine wpList_store_row rfl 154 (.tmp 2) (.tmp 28) rfl (w.heap.size+1) _ rfl rfl _ _ Y1 infoState rfl (stateOne _ _ _ _ _ _ _ _ _ _ _ _ _ _ _ _ _ _ _ _ _ _ _ _ _ _) ?_))
 have hl:=Box.loadState (Y1.setRow (rS (.slice a1 n1 c1) pc1 rs1 mo1 ba1 (.slice ca1 ck1 cc1) op1 oh1 ot1 st1 fe1 fp1 fh1 ft1 lo1)) rfl
 refine bodyPost_ret (v:=.tuple #[.agg (rS (.slice a1 n1 c1) pc1 rs1 mo1 ba1 (.slice ca1 ck1 cc1) op1 oh1 ot1 st1 fe1 fp1 fh1 ft1 lo1),.bool ok]) (by simp[results,Tryz.results102,asAddr,hl]) rfl ⟨ok,a1,n1,c1,pc1,rs1,mo1,ba1,op1,oh1,ot1,fe1,fp1,fh1,ft1,st1,lo1,ca1,ck1,cc1,rfl,fun h=>by rw[HT.out];exact HNO.out h,fun h=>?_,aG (by omega) B6.out _⟩
 obtain⟨zs1,g1,g2,g3,g4⟩:=HYES.out h
 refine⟨zs1,by rw[HT.out];exact g1,g2,g3,?_⟩
 rcases g4 with g4|⟨g4,g5⟩
 ·exact .inl g4
 ·exact .inr ⟨g4.otherRow (g5.ne (by have:=Z2.out;omega)) _,g5.mono (by have:=Z2.out;omega)⟩
end Go.Proofs.YthlhocneggcekaaGreat
