/-
  Laid together: HIn.
-/
import Derived.Test.YthlhocneggcekaaGreatD33
namespace Go.Proofs.YthlhocneggcekaaGreat
open Go.RowKit
theorem RegM.look {w:World}{b:Nat}{f:Int→Int}(h:RegM w b f){z:Int}(h0:0≤z)(h1:z≤63):
  (Instr.lookup 205 (.map (some b)) (.int .i64 z) true).run Tryz.prog w=.ok (.tuple #[.int .i64 (if z≤9 then f z else 0),.bool (decide (z≤9))]) w:=by
 obtain⟨n,D,ks,hown,hD,hks⟩:=h
 obtain⟨v,ps,hrun,hv⟩:=hown.look_ok fZ Tryz.underlying205 (aA1 w) (zd:=.held (.int .i64 0)) (zp:=[]) rfl (gT h0 (by omega))
 have hz:=hD.2 z
 have hm:z∈ks↔z≤9:=by rw[hks z];omega
 rw[hz.1] at hrun
 by_cases e:z≤9
 ·rw[hz.2 (hm.2 e)] at hv
  simp only[Rv,Option.some.injEq,Prod.mk.injEq,DataW.held.injEq] at hv
  rw[hrun,hv.1,if_pos e,decide_eq_true e,decide_eq_true (hm.2 e)]
 ·have hn:¬z∈ks:=fun q=>e (hm.1 q)
  rw[Maps.atKey_of_not_has (by rw[hz.1];exact decide_eq_false hn)] at hv
  simp only[Rv,Option.some.injEq,Prod.mk.injEq,DataW.held.injEq] at hv
  rw[hrun,hv.1,if_neg e,decide_eq_false e,decide_eq_false hn]
set_option maxRecDepth 10000 in
set_option maxHeartbeats 4000000 in
theorem aCe (am:Option Addr)(nm cm:Nat)(pc:Int)(rs:List Int)(mo ba op oh ot fe fp fh ft:Int)(st lo:Bool)(ca:Option Addr)(ck cc:Nat)(l:List Ln)(k x y i:Int)(w:World)(h8:rs.length=8)(hw:∀j,j<8→0≤nth rs j∧nth rs j≤65535)(hx:0≤x∧x≤7)(hy:0≤y∧y≤7)(hi:0≤i∧i≤63):
  Calls Tryz.prog 158 #[.agg #[.slice am nm cm,.int .i64 pc,.int .i64 (nth rs 0),.int .i64 (nth rs 1),.int .i64 (nth rs 2),.int .i64 (nth rs 3),.int .i64 (nth rs 4),.int .i64 (nth rs 5),.int .i64 (nth rs 6),.int .i64 (nth rs 7),.int .i64 mo,.int .i64 ba,.slice ca ck cc,.int .i64 op,.int .i64 oh,.int .i64 ot,.bool st,.int .i64 fe,.int .i64 fp,.int .i64 fh,.int .i64 ft,.bool lo],.agg #[.int .i64 k,.int .i64 x,.int .i64 y,.int .i64 i]] w fun e w'=>
   ∃z,e=.returned (.tuple #[.agg #[.slice am nm cm,.int .i64 pc,.int .i64 (nth (rs.set x.toNat z) 0),.int .i64 (nth (rs.set x.toNat z) 1),.int .i64 (nth (rs.set x.toNat z) 2),.int .i64 (nth (rs.set x.toNat z) 3),.int .i64 (nth (rs.set x.toNat z) 4),.int .i64 (nth (rs.set x.toNat z) 5),.int .i64 (nth (rs.set x.toNat z) 6),.int .i64 (nth (rs.set x.toNat z) 7),.int .i64 mo,.int .i64 ba,.slice ca ck cc,.int .i64 op,.int .i64 oh,.int .i64 ot,.bool st,.int .i64 fe,.int .i64 fp,.int .i64 fh,.int .i64 ft,.bool lo],.bool (decide (i≤9))])∧(i≤9→z=regB ⟨mo,ba,l,op,oh,ot,st,fe,fp,fh,ft,lo⟩ i)∧Below w.heap.size w w':=by
 obtain⟨hx0,hx1⟩:=hx
 obtain⟨hy0,hy1⟩:=hy
 obtain⟨hi0,hi1⟩:=hi
 have hx9:x<8:=by omega
 have hy9:y<8:=by omega
 have hx8:x.toNat<8:=by omega
 have hy8:y.toNat<8:=by omega
 have H8:Hid (rs.length=8):=h8
 have rx:=hw x.toNat hx8
 have ry:=hw y.toNat hy8
 obtain⟨one,h1⟩:∃one,nth rs x.toNat=one:=⟨_,rfl⟩
 obtain⟨two,h2⟩:∃two,nth rs y.toNat=two:=⟨_,rfl⟩
 have H1:Hid (nth rs x.toNat=one):=h1
 have H2:Hid (nth rs y.toNat=two):=h2
 rw[h1] at rx
 rw[h2] at ry
 clear h1 h2 h8 hw rx ry
 obtain⟨z,hz⟩:∃z,(if i≤9 then regB ⟨mo,ba,l,op,oh,ot,st,fe,fp,fh,ft,lo⟩ i else 0)=z:=⟨_,rfl⟩
 have HZ:Hid _:=hz
 have HQ:Hid (i≤9→z=regB ⟨mo,ba,l,op,oh,ot,st,fe,fp,fh,ft,lo⟩ i):=fun e=>by rw[←hz,if_pos e]
 obtain⟨ok,hok⟩:∃ok,decide (i≤9)=ok:=⟨_,rfl⟩
 have HOK:Hid (decide (i≤9)=ok):=hok
 clear hz hok
 go_enter Tryz.func158,Tryz.ntmps158
 go_upto_region 1 with fail
 have X0:=((Box.newAt (w:=w) (n:=w.heap.size) rfl 154 #[.slice am nm cm,.int .i64 pc,.int .i64 (nth rs 0),.int .i64 (nth rs 1),.int .i64 (nth rs 2),.int .i64 (nth rs 3),.int .i64 (nth rs 4),.int .i64 (nth rs 5),.int .i64 (nth rs 6),.int .i64 (nth rs 7),.int .i64 mo,.int .i64 ba,.slice ca ck cc,.int .i64 op,.int .i64 oh,.int .i64 ot,.bool st,.int .i64 fe,.int .i64 fp,.int .i64 fh,.int .i64 ft,.bool lo]).past (.cells #[.int .i64 k,.int .i64 x,.int .i64 y,.int .i64 i] 130)).past (.cells #[.slice none 0 0,.int .i64 0,.int .i64 0,.int .i64 0,.int .i64 0,.int .i64 0,.int .i64 0,.int .i64 0,.int .i64 0,.int .i64 0,.int .i64 0,.int .i64 0,.slice none 0 0,.int .i64 0,.int .i64 0,.int .i64 0,.bool false,.int .i64 0,.int .i64 0,.int .i64 0,.int .i64 0,.bool false] 154)
 have X1:=(Box.newAt (w:=w.alloc (.cells #[.slice am nm cm,.int .i64 pc,.int .i64 (nth rs 0),.int .i64 (nth rs 1),.int .i64 (nth rs 2),.int .i64 (nth rs 3),.int .i64 (nth rs 4),.int .i64 (nth rs 5),.int .i64 (nth rs 6),.int .i64 (nth rs 7),.int .i64 mo,.int .i64 ba,.slice ca ck cc,.int .i64 op,.int .i64 oh,.int .i64 ot,.bool st,.int .i64 fe,.int .i64 fp,.int .i64 fh,.int .i64 ft,.bool lo] 154)) (n:=w.heap.size+1) (by simp) 130 #[.int .i64 k,.int .i64 x,.int .i64 y,.int .i64 i]).past (.cells #[.slice none 0 0,.int .i64 0,.int .i64 0,.int .i64 0,.int .i64 0,.int .i64 0,.int .i64 0,.int .i64 0,.int .i64 0,.int .i64 0,.int .i64 0,.int .i64 0,.slice none 0 0,.int .i64 0,.int .i64 0,.int .i64 0,.bool false,.int .i64 0,.int .i64 0,.int .i64 0,.int .i64 0,.bool false] 154)
 have X2:=Box.newAt (w:=(w.alloc (.cells #[.slice am nm cm,.int .i64 pc,.int .i64 (nth rs 0),.int .i64 (nth rs 1),.int .i64 (nth rs 2),.int .i64 (nth rs 3),.int .i64 (nth rs 4),.int .i64 (nth rs 5),.int .i64 (nth rs 6),.int .i64 (nth rs 7),.int .i64 mo,.int .i64 ba,.slice ca ck cc,.int .i64 op,.int .i64 oh,.int .i64 ot,.bool st,.int .i64 fe,.int .i64 fp,.int .i64 fh,.int .i64 ft,.bool lo] 154)).alloc (.cells #[.int .i64 k,.int .i64 x,.int .i64 y,.int .i64 i] 130)) (n:=w.heap.size+1+1) (by simp) 154 #[.slice none 0 0,.int .i64 0,.int .i64 0,.int .i64 0,.int .i64 0,.int .i64 0,.int .i64 0,.int .i64 0,.int .i64 0,.int .i64 0,.int .i64 0,.int .i64 0,.slice none 0 0,.int .i64 0,.int .i64 0,.int .i64 0,.bool false,.int .i64 0,.int .i64 0,.int .i64 0,.int .i64 0,.bool false]
 have B0:Hid (Below w.heap.size w _):=aA (aA (aA (Below.refl w.heap.size w) (.cells #[.slice am nm cm,.int .i64 pc,.int .i64 (nth rs 0),.int .i64 (nth rs 1),.int .i64 (nth rs 2),.int .i64 (nth rs 3),.int .i64 (nth rs 4),.int .i64 (nth rs 5),.int .i64 (nth rs 6),.int .i64 (nth rs 7),.int .i64 mo,.int .i64 ba,.slice ca ck cc,.int .i64 op,.int .i64 oh,.int .i64 ot,.bool st,.int .i64 fe,.int .i64 fp,.int .i64 fh,.int .i64 ft,.bool lo] 154)) (.cells #[.int .i64 k,.int .i64 x,.int .i64 y,.int .i64 i] 130)) (.cells #[.slice none 0 0,.int .i64 0,.int .i64 0,.int .i64 0,.int .i64 0,.int .i64 0,.int .i64 0,.int .i64 0,.int .i64 0,.int .i64 0,.int .i64 0,.int .i64 0,.slice none 0 0,.int .i64 0,.int .i64 0,.int .i64 0,.bool false,.int .i64 0,.int .i64 0,.int .i64 0,.int .i64 0,.bool false] 154)
 have W3:Hid ((((w.alloc (.cells #[.slice am nm cm,.int .i64 pc,.int .i64 (nth rs 0),.int .i64 (nth rs 1),.int .i64 (nth rs 2),.int .i64 (nth rs 3),.int .i64 (nth rs 4),.int .i64 (nth rs 5),.int .i64 (nth rs 6),.int .i64 (nth rs 7),.int .i64 mo,.int .i64 ba,.slice ca ck cc,.int .i64 op,.int .i64 oh,.int .i64 ot,.bool st,.int .i64 fe,.int .i64 fp,.int .i64 fh,.int .i64 ft,.bool lo] 154)).alloc (.cells #[.int .i64 k,.int .i64 x,.int .i64 y,.int .i64 i] 130)).alloc (.cells #[.slice none 0 0,.int .i64 0,.int .i64 0,.int .i64 0,.int .i64 0,.int .i64 0,.int .i64 0,.int .i64 0,.int .i64 0,.int .i64 0,.int .i64 0,.int .i64 0,.slice none 0 0,.int .i64 0,.int .i64 0,.int .i64 0,.bool false,.int .i64 0,.int .i64 0,.int .i64 0,.int .i64 0,.bool false] 154)).heap.size=w.heap.size+1+1+1):=by show _=_;simp
 generalize (((w.alloc (.cells #[.slice am nm cm,.int .i64 pc,.int .i64 (nth rs 0),.int .i64 (nth rs 1),.int .i64 (nth rs 2),.int .i64 (nth rs 3),.int .i64 (nth rs 4),.int .i64 (nth rs 5),.int .i64 (nth rs 6),.int .i64 (nth rs 7),.int .i64 mo,.int .i64 ba,.slice ca ck cc,.int .i64 op,.int .i64 oh,.int .i64 ot,.bool st,.int .i64 fe,.int .i64 fp,.int .i64 fh,.int .i64 ft,.bool lo] 154)).alloc (.cells #[.int .i64 k,.int .i64 x,.int .i64 y,.int .i64 i] 130)).alloc (.cells #[.slice none 0 0,.int .i64 0,.int .i64 0,.int .i64 0,.int .i64 0,.int .i64 0,.int .i64 0,.int .i64 0,.int .i64 0,.int .i64 0,.int .i64 0,.int .i64 0,.slice none 0 0,.int .i64 0,.int .i64 0,.int .i64 0,.bool false,.int .i64 0,.int .i64 0,.int .i64 0,.int .i64 0,.bool false] 154))=W at *
 refine wp_region_held_drew (S:=fun w'=>Below W.heap.size W w') (by kernel_rfl) (Below.drew (Below.refl _ _)) (fun hHeld=>?_)
 have CF:Cl (fun w'=>Below W.heap.size W w') _:=⟨fun wz hSz=>And.intro ((X0.keep hSz).state) (And.intro ((X1.keep hSz).four) (And.intro (eqJ ((X0.keep hSz).reg hx8) H1.out) (eqJ ((X0.keep hSz).reg hy8) H2.out)))⟩
 refine tkH 0 rfl ?_
 refine tkH 1 rfl ?_
 refine tkH 3 rfl ?_
 refine tkH 4 rfl ?_
 refine aE (i:=2) (by kernel_rfl) (by rfl) (fun K hK=>?_)
 go_simp
 refine (nK mo ba op oh ot fe fp fh ft st lo (.slice ca ck cc) l _ ⟨_,_,_,rfl⟩).mono ?_
 rintro e w5 ⟨b,rfl,hR,b5⟩
 have hlk:=hR.look hi0 hi1
 rw[HZ.out,HOK.out] at hlk
 clear hR
 go_wp2_with fail
 refine hK.out _ _ ?_ (fun hHeld2=>?_)
 ·exact aB hHeld b5
 clear hK K hHeld
 have hHeld:=hHeld2
 clear hHeld2
 refine aE (i:=5) (by kernel_rfl) (by rfl) (fun K hK=>?_)
 go_simp
 refine hK.out _ _ ?_ (fun hHeld2=>?_)
 ·exact hHeld
 clear hK K hHeld
 have hHeld:=hHeld2
 clear hHeld2
 refine tkH 6 rfl ?_
 refine tkH 7 rfl ?_
 refine tkH 8 rfl ?_
 refine tkH 9 rfl ?_
 refine tkH 10 rfl ?_
 refine wpAnyH_done (by kernel_rfl) ?_ _
 have X0:=X0.keep hHeld
 have X1:=X1.keep hHeld
 have X2:=X2.keep hHeld
 have B5:Hid (Below w.heap.size w w5):=aB B0.out hHeld
 clear hHeld b5 B0 hlk
 have Y0:=X0.setReg hx8 H8.out z
 have Y2:=X2.other (p:=⟨w.heap.size,2+x.toNat,none⟩) (by show w.heap.size+1+1≠w.heap.size;omega) (.int .i64 z)
 have B6:Hid (Below w.heap.size w (w5.setCell ⟨w.heap.size,2+x.toNat,none⟩ (.int .i64 z))):=aI (by show w.heap.size≤w.heap.size;omega) B5.out _
 obtain⟨i0,i1,i2,i3,-,-,-,-,s1⟩:=X1.four
 have gx:=X0.reg hx8
 have fx:=X0.marksAll
 have s0:=X0.lt
 go_upto_region 3 with fail
 clear gx fx s0 X0 X2
 generalize (w5.setCell ⟨w.heap.size,2+x.toNat,none⟩ (.int .i64 z))=W6 at *
 go_wp2_with (first
  | (refine wpList_load_row rfl 154 (.tmp 2) rfl w.heap.size rfl _ _ _ _ Y0 Tryz.underlying154 rfl infoState ?_)
  | (refine wpList_store_row rfl 154 (.tmp 4) (.tmp 22) rfl (w.heap.size+1+1) _ rfl rfl _ _ Y2 infoState rfl (stateOne _ _ _ _ _ _ _ _ _ _ _ _ _ _ _ _ _ _ _ _ _ _ _ _ _ _) ?_))
 have hl:=Box.loadState (Y2.setRow #[.slice am nm cm,.int .i64 pc,.int .i64 (nth (rs.set x.toNat z) 0),.int .i64 (nth (rs.set x.toNat z) 1),.int .i64 (nth (rs.set x.toNat z) 2),.int .i64 (nth (rs.set x.toNat z) 3),.int .i64 (nth (rs.set x.toNat z) 4),.int .i64 (nth (rs.set x.toNat z) 5),.int .i64 (nth (rs.set x.toNat z) 6),.int .i64 (nth (rs.set x.toNat z) 7),.int .i64 mo,.int .i64 ba,.slice ca ck cc,.int .i64 op,.int .i64 oh,.int .i64 ot,.bool st,.int .i64 fe,.int .i64 fp,.int .i64 fh,.int .i64 ft,.bool lo]) rfl
 refine bodyPost_ret (v:=.tuple #[.agg #[.slice am nm cm,.int .i64 pc,.int .i64 (nth (rs.set x.toNat z) 0),.int .i64 (nth (rs.set x.toNat z) 1),.int .i64 (nth (rs.set x.toNat z) 2),.int .i64 (nth (rs.set x.toNat z) 3),.int .i64 (nth (rs.set x.toNat z) 4),.int .i64 (nth (rs.set x.toNat z) 5),.int .i64 (nth (rs.set x.toNat z) 6),.int .i64 (nth (rs.set x.toNat z) 7),.int .i64 mo,.int .i64 ba,.slice ca ck cc,.int .i64 op,.int .i64 oh,.int .i64 ot,.bool st,.int .i64 fe,.int .i64 fp,.int .i64 fh,.int .i64 ft,.bool lo],.bool ok]) (by simp[results,Tryz.results158,asAddr,hl]) rfl ⟨z,by rw[HOK.out],HQ.out,?_⟩
 exact aG (by omega) B6.out _
end Go.Proofs.YthlhocneggcekaaGreat
